/-
  Joined: ErG.
-/
import Derived.Test.YtldioobbfkaebaaGreatDoorEvalHoldsJ31
import Derived.Test.YtldioobbfkaebaaGreatDoorEvalHoldsJ11
import Derived.Test.YtldioobbfkaebaaGreatDoorEvalHoldsJ19
import Derived.Test.YtldioobbfkaebaaGreatDoorEvalHoldsJ13
import Derived.BigRegion
set_option maxHeartbeats 4000000
set_option maxRecDepth 100000
namespace Go.Proofs.YtldioobbfkaebaaGreatDoor
open Go.RowKit Np Rw Vp Up Qp Pw Ev
theorem els_erase {w : World} {zs : List (Option Addr × Nat × Nat)} {L : List (List Nd)} (h : Els w zs L) (N : Nat) : Els w (zs.eraseIdx N) (L.eraseIdx N) := by
 refine ⟨by rw [List.length_eraseIdx, List.length_eraseIdx, h.1], fun k z l h1 h2 => ?_⟩
 rw [List.getElem?_eraseIdx] at h1 h2
 by_cases hk : k < N
 ·rw [if_pos hk] at h1 h2
  exact h.2 k z l h1 h2
 ·rw [if_neg hk] at h1 h2
  exact h.2 (k + 1) z l h1 h2
theorem refDelete10_part (s : St) (p : List St) (pv v : Value) (t : Tr Nd) (w : World) (hp : Sps w pv (s :: p)) (hv : Nds w v (flat t)) (hl : (flat t).length ≤ 200) (ht : Val t) (hsh : Short (flat t)) (hpt : s.part = true) (hk : t.nd.kind = 5) (hs1 : rightS s = true) (hnm : s.name.length ≤ maxLen)
  (hrec : ∀ (u : Tr Nd) (qv uv : Value) W, Sps W qv p → Nds W uv (flat u) → (flat u).length ≤ 200 → Val u → Short (flat u) → Calls Tryz.prog 14 #[qv, uv] W (OutV W (ofO (cutE p u)))) :
  Calls Tryz.prog 14 #[pv, v] w (OutV w (ofO (cutE (s :: p) t))) := by
 have HP := Lib.hid hp
 obtain ⟨g, o, c, rfl, hc, hcm, hg, hxs⟩ := hp.opened (by simp)
 obtain ⟨z0, z1, z2⟩ := (hxs 0 s rfl).sp
 rw [Nat.zero_mul, Nat.add_zero] at z0 z1 z2
 have HZ : Hid (∀ W, Below w.heap.size w W → Sp3 W g o s) := Lib.hid (fun W hb => ⟨(hb.cell (p := ⟨g, o, none⟩) hg).trans z0, (hb.cell (p := ⟨g, o + 1, none⟩) hg).trans z1, (hb.cell (p := ⟨g, o + 2, none⟩) hg).trans z2⟩)
 have HV := Lib.hid hv
 have HNA := Lib.hid (fun (W : World) (hb : Below w.heap.size w W) => refNames_any v t W (hv.below hb) (by omega) ht)
 have HPA := Lib.hid (fun (W : World) (hb : Below w.heap.size w W) => refParts_own v t W (hv.below hb) (by omega) ht)
 have HFI := Lib.hid (fun (W : World) (hb : Below w.heap.size w W) => refField_any v t s.name W (hv.below hb) (by omega) ht)
 rw [show namesT t = [] by rw [namesT, if_neg (by rw [hk]; decide)]] at HNA
 obtain ⟨g1, o1, c1, rfl, hc1, hcm1, hg1, hx1⟩ := hv.opened (flat_pos t)
 have k0 := (hx1 0 t.nd (by rw [flat_eq]; rfl)).nd.c0
 rw [Nat.zero_mul, Nat.add_zero] at k0
 have hfl := flat_pos t
 have hlen : (s :: p).length = p.length + 1 := rfl
 rw [hlen]
 clear hxs hx1 hp hv
 obtain ⟨N, hN⟩ : ∃ N : Nat, s.n = N := by
  unfold rightS at hs1
  rw [hpt] at hs1
  simp only [if_true, Bool.and_eq_true, decide_eq_true_eq] at hs1
  exact ⟨s.n.toNat, by omega⟩
 have hkid := kid_part (s := s) (t := t) hpt hN
 rw [if_pos hk] at hkid
 have HCT : Hid (cutE (s :: p) t = _) := Lib.hid (cut_kind (p := p) (by rw [hk]; simp [stKind, hpt]))
 rw [hk] at k0
 rw [hpt] at z0
 obtain ⟨R, hR⟩ : ∃ R, R = cutE (s :: p) t := ⟨_, rfl⟩
 rw [← hR]
 rw [← hR] at HCT
 clear hR
 generalize hml : (flat t).length = m at *
 have HPC : Hid (∀ w', Below w.heap.size w w' → w'.cell? ⟨g, o, none⟩ = some (.bool true) ∧ w'.cell? ⟨g1, o1, none⟩ = some (.int .i64 5)) := Lib.hid fun w' hw => ⟨(hw.cell (p := ⟨g, o, none⟩) hg).trans z0, (hw.cell (p := ⟨g1, o1, none⟩) hg1).trans k0⟩
 go_enter Tryz.func14, Tryz.ntmps14
 go_wp2_with fail
 have HB0 : Hid (Below w.heap.size w w.drew) := Lib.hid ((Below.refl _ _).drew)
 go_big_region
 all_goals go_wp2_with fail
 refine (HNA.out _ HB0.out).mono ?_
 rintro e w1 ⟨v1, rfl, ⟨A1, d1, hv1, -⟩, hb1⟩
 rw [hv1]
 have HB1 := Lib.hid (Below.after HB0.out hb1)
 clear hb1 hv1 v1 HNA HB0
 simp only [List.length_nil]
 go_wp2_with fail
 refine (HPA.out w1 HB1.out).mono ?_
 rintro e w2 ⟨v2, zs, rfl, hoz, hez, hb2⟩
 have hrz := hoz.row slc_len
 have HEZ : Hid (Els w2 zs (t.ks.map fun k => flat (nmd [] k))) := Lib.hid ⟨hez.1, fun k z l h1 h2 => (hez.2 k z l h1 h2).row ndc_len⟩
 have HRZ := Lib.hid hrz
 obtain ⟨us, hul, hu, hur⟩ := hez.vls hrz
 rw [List.length_map] at hul
 have HB2 := Lib.hid (Below.after HB1.out hb2)
 obtain ⟨t0, t1, t2⟩ := HZ.out w2 HB2.out
 rw [hpt] at t0
 rw [hN] at t2
 have HU := Lib.hid hu
 have HUR := Lib.hid hur
 obtain ⟨UA, ud, rfl, -⟩ := hu
 clear hb2 hur HPA HB1 hoz hez hrz
 go_wp2_with fail
 go_loopw [8, 9] (fun av iv wr => av = .int .i64 N ∧ iv = .int .i64 0 ∧ wr = w2) (fun _ _ _ => 0)
 case atStart => exact ⟨rfl, rfl, rfl⟩
 case round =>
  obtain ⟨rfl, rfl, rfl⟩ := hrel
  go_wp2_with fail
  refine (HFI.out wr HB2.out).mono ?_
  rintro e w3 ⟨v3, rfl, ⟨A3, d3, hv3, -⟩, hb3⟩
  rw [hv3]
  obtain ⟨s0, s1, s2⟩ := HZ.out w3 (Below.after HB2.out hb3)
  rw [hpt] at s0
  have HB3 := Lib.hid (Below.after HB2.out hb3)
  have HU3 := Lib.hid (Row.below HU.out hb3)
  have HB23 := Lib.hid hb3
  generalize fieldB s.name t = FB at *
  clear hb3 hv3 v3 t0 t1 t2
  by_cases hNl : N < t.ks.length
  ·have i1 : (N : Int) < (t.ks.length : Int) := by omega
   have i2 : ¬ ((t.ks.length : Int) ≤ (N : Int)) := by omega
   rw [if_pos hNl] at hkid
   rw [hkid] at HCT
   simp only at HCT
   have hgd : t.ks.getD N nullT = t.ks[N] := by simp [List.getD, List.getElem?_eq_getElem hNl]
   rw [hgd] at HCT
   have hNu : N < us.length := by omega
   obtain ⟨g4, o4, c4, hUA, hc4, hcm4, hg4, hx4⟩ := HU3.out.opened (by omega)
   injection hUA with hUA hq1 hq2
   subst hUA hq2
   have y0 := hx4 N us[N] (List.getElem?_eq_getElem hNu) 0 us[N] rfl
   have hN0 := HUR.out N us[N] (flat (nmd [] t.ks[N])) (List.getElem?_eq_getElem hNu) (by rw [List.getElem?_map, List.getElem?_eq_getElem hNl]; rfl)
   rw [Nat.mul_one, Nat.add_zero] at y0
   obtain ⟨A5, d5, hv5, -⟩ := id hN0
   rw [hv5] at y0 hN0
   have HN5 := Lib.hid (Row.below hN0 HB23.out)
   have HB23y := Lib.hid y0
   cases p with
   | nil =>
    rw [if_pos rfl] at HCT
    have HR : Hid (R = some (withK t (t.ks.eraseIdx N))) := Lib.hid HCT.out
    have hzl : zs.length = t.ks.length := by have := HEZ.out.1; simpa using this
    have hkl : t.ks.length ≤ 200 := by
     have h3 := flats_len t.ks
     have h4 := congrArg List.length (flat_eq t)
     rw [List.length_cons] at h4
     omega
    have hz0 : Row slc 1 w3 (.slice (some ⟨g4, o4, none⟩) zs.length ud) zs := by
     have := Row.below HRZ.out HB23.out
     rw [hul] at this
     rwa [hzl]
    have hud : t.ks.length ≤ ud := by rw [← hul]; exact hc4
    have HF1 : Hid (Row slc 1 w3 (.slice (some ⟨g4, o4, none⟩) (zs.take N).length ud) (zs.take N)) := Lib.hid (by
     have := Row.front hz0 N (by omega) (by omega) hcm4
     rwa [show (zs.take N).length = N by rw [List.length_take]; omega])
    have hbk := Row.back hz0 (N + 1) (by omega) (by omega) hcm4
    have HEL : Hid (Els w3 (zs.eraseIdx N) ((t.ks.map fun k => flat (nmd [] k)).eraseIdx N)) := Lib.hid (els_erase (HEZ.out.below HB23.out) N)
    have HLI := Lib.hid (list_erase (k := N) ht hk)
    have i3 : (N : Int) + 1 ≤ (t.ks.length : Int) := by omega
    have i4 : (N : Int) ≤ (ud : Int) := by omega
    clear hx4 HEZ HRZ
    by_cases hue : N + 1 = ud
    ·rw [if_pos hue] at hbk
     have HF2 : Hid (Row slc 1 w3 (.slice (some ⟨g4, o4, none⟩) (zs.drop (N + 1)).length (ud - (N + 1))) (zs.drop (N + 1))) := Lib.hid (by rw [List.length_drop]; exact hbk)
     go_wp2_with fail
     refine wp_region_held_drew (S := fun w' => Below w3.heap.size w3 w') (by kernel_rfl) ((Below.refl _ _).drew) (fun hG => ?_)
     generalize w3.drew = We at hG ⊢
     refine rtk 1 (.slice (some ⟨g4, o4, none⟩) t.ks.length ud) ?_ ?_
     ·intro w' hSw; go_simp; try decide
     try simp only [ls1, ls0]
     refine rtk 2 (.int .i64 N) ?_ ?_
     ·intro w' hSw; go_simp; try decide
     try simp only [ls1, ls0]
     refine rtk 3 (.slice (some ⟨g4, o4, none⟩) N ud) ?_ ?_
     ·intro w' hSw; go_simp; try decide
     try simp only [ls1, ls0]
     refine rtk 5 (.slice (some ⟨g4, o4, none⟩) t.ks.length ud) ?_ ?_
     ·intro w' hSw; go_simp; try decide
     try simp only [ls1, ls0]
     refine rtk 6 (.int .i64 N) ?_ ?_
     ·intro w' hSw; go_simp; try decide
     try simp only [ls1, ls0]
     refine rtk 7 (.int .i64 ((N : Int) + 1)) ?_ ?_
     ·intro w' hSw; go_simp; rw [IntKind.wrap_i64]; omega
     try simp only [ls1, ls0]
     refine rtk 8 (.slice (some ⟨g4, o4, none⟩) (t.ks.length - (N + 1)) (ud - (N + 1))) ?_ ?_
     ·intro w' hSw; go_simp; try omega
     try simp only [ls1, ls0]
     clear hue
     refine wpAnyH_ready (rs := [0]) (by kernel_rfl) (by simp) ?_
     refine AllReadyH.cons rfl (fun K0 hK0 => ?_) AllReadyH.nil
     go_simp
     have ho0 : Own slc 1 27 w3.heap.size (We.alloc (.cells #[] 27)) (.slice (some ⟨We.heap.size, 0, none⟩) 0 0) ([] : List (Option Addr × Nat × Nat)) := Own.empty (heap_alloc_new We _) hG.size
     have hb0 : Below We.heap.size We (We.alloc (.cells #[] 27)) := (Below.refl _ _).alloc (Nat.le_refl _) _
     refine hK0.out _ _ (hG.trans (hb0.mono hG.size)) (fun hG0 => ?_)
     clear hK0 K0
     generalize We.alloc _ = Wg at ho0 hb0 hG0 ⊢
     try simp only [ls1, ls0]
     refine wpAnyH_ready (rs := [4]) (by kernel_rfl) (by simp) ?_
     refine AllReadyH.cons rfl (fun K4 hK4 => ?_) AllReadyH.nil
     refine step_append_rowE (base := w3.heap.size) elVal (by rfl) _ _ (by rfl) (by rfl) (l := []) ho0 (by rw [List.length_take, Nat.min_eq_left (by omega)]; rfl) (Row.below HF1.out hG0) (by rw [List.length_take]; unfold maxLen; simp only [List.length_nil]; omega) (by rw [List.length_take]; simp only [List.length_nil]; omega) hG0.size ?_
     intro A7 c7 w7 ho7 hg7
     refine hK4.out _ _ (hG0.trans (ho0.kept hg7 hG0.size)) (fun hG7 => ?_)
     clear hK4 K4
     try simp only [ls1, ls0]
     refine wpAnyH_ready (rs := [9]) (by kernel_rfl) (by simp) ?_
     refine AllReadyH.cons rfl (fun K9 hK9 => ?_) AllReadyH.nil
     refine step_append_rowE (base := w3.heap.size) elVal (by rfl) _ _ (by rfl) (by rfl) ho7 (by rw [List.length_drop, hzl]; rfl) (Row.below HF2.out hG7) (by rw [List.length_drop, List.length_append, List.length_take]; unfold maxLen; simp only [List.length_nil]; omega) (by rw [List.length_drop, List.length_append, List.length_take]; simp only [List.length_nil]; omega) hG7.size ?_
     intro A8 c8 w8 ho8 hg8
     have hb8 := hG7.trans (ho7.kept hg8 hG7.size)
     refine hK9.out _ _ hb8 (fun hG8 => ?_)
     clear hK9 K9
     try simp only [ls1, ls0]
     have her : ([] ++ zs.take N) ++ zs.drop (N + 1) = zs.eraseIdx N := by rw [List.nil_append, List.eraseIdx_eq_take_drop_succ]
     rw [her] at ho8
     rw [her]
     have HVL := Lib.hid ((HEL.out.below hG8).vls (ho8.row slc_len))
     generalize (zs.eraseIdx N).length = zl at *
     refine rtk 10 (.slice A8 zl c8) ?_ ?_
     ·intro w' hSw; go_simp; try decide
     try simp only [ls1, ls0]
     refine wpAnyH_done (by kernel_rfl) ?_ _
     have HB8 := Lib.hid (Below.after HB3.out hG8)
     clear hG hG0 hG7 hG8 hb8 hb0 ho0 ho7 ho8 hg7 hg8
     go_wp2_with fail
     have hcl : (flat (withK t (t.ks.eraseIdx N))).length ≤ 200 := by
      have hck : cutE [s] t = some (withK t (t.ks.eraseIdx N)) := by rw [cut_kind (by rw [hk]; simp [stKind, hpt]), hkid]; rfl
      have := cut_len _ hck
      omega
     refine (refList_any _ _ _ HVL.out (by rw [List.length_eraseIdx, List.length_map]; split <;> omega) (by
      have h5 := congrArg List.length HLI.out
      rw [List.length_cons, List.length_flatten] at h5
      omega)).mono ?_
     rintro e w9 ⟨v9, rfl, ho9, hb9⟩
     obtain ⟨A9, c9, rfl, -, -, -⟩ := ho9.form
     have H9 := Lib.hid (ho9.row ndc_len)
     have HB9 := Lib.hid (Below.after HB8.out hb9)
     rw [HLI.out] at H9 ⊢
     clear ho9 hb9
     go_wp2_with fail
     exact bodyPost_ret (v := .tuple #[.slice A9 (flat (withK t (t.ks.eraseIdx N))).length c9, .int .i64 0]) (by simp [results, Tryz.results14, go_sem]) rfl (by rw [HR.out]; exact ⟨_, rfl, H9.out, HB9.out⟩)
    ·rw [if_neg hue, Nat.mul_one] at hbk
     have hue2 : ¬ ud = N + 1 := fun e => hue e.symm
     have i5 : (0 : Int) ≤ (N : Int) + 1 := by omega
     have HF2 : Hid (Row slc 1 w3 (.slice (some ⟨g4, o4 + (N + 1), none⟩) (zs.drop (N + 1)).length (ud - (N + 1))) (zs.drop (N + 1))) := Lib.hid (by rw [List.length_drop]; exact hbk)
     go_wp2_with fail
     refine wp_region_held_drew (S := fun w' => Below w3.heap.size w3 w') (by kernel_rfl) ((Below.refl _ _).drew) (fun hG => ?_)
     generalize w3.drew = We at hG ⊢
     refine rtk 1 (.slice (some ⟨g4, o4, none⟩) t.ks.length ud) ?_ ?_
     ·intro w' hSw; go_simp; try decide
     try simp only [ls1, ls0]
     refine rtk 2 (.int .i64 N) ?_ ?_
     ·intro w' hSw; go_simp; try decide
     try simp only [ls1, ls0]
     refine rtk 3 (.slice (some ⟨g4, o4, none⟩) N ud) ?_ ?_
     ·intro w' hSw; go_simp; try decide
     try simp only [ls1, ls0]
     refine rtk 5 (.slice (some ⟨g4, o4, none⟩) t.ks.length ud) ?_ ?_
     ·intro w' hSw; go_simp; try decide
     try simp only [ls1, ls0]
     refine rtk 6 (.int .i64 N) ?_ ?_
     ·intro w' hSw; go_simp; try decide
     try simp only [ls1, ls0]
     refine rtk 7 (.int .i64 ((N : Int) + 1)) ?_ ?_
     ·intro w' hSw; go_simp; rw [IntKind.wrap_i64]; omega
     try simp only [ls1, ls0]
     refine rtk 8 (.slice (some ⟨g4, o4 + (N + 1), none⟩) (t.ks.length - (N + 1)) (ud - (N + 1))) ?_ ?_
     ·intro w' hSw; go_simp; try omega
     try simp only [ls1, ls0]
     clear hue
     refine wpAnyH_ready (rs := [0]) (by kernel_rfl) (by simp) ?_
     refine AllReadyH.cons rfl (fun K0 hK0 => ?_) AllReadyH.nil
     go_simp
     have ho0 : Own slc 1 27 w3.heap.size (We.alloc (.cells #[] 27)) (.slice (some ⟨We.heap.size, 0, none⟩) 0 0) ([] : List (Option Addr × Nat × Nat)) := Own.empty (heap_alloc_new We _) hG.size
     have hb0 : Below We.heap.size We (We.alloc (.cells #[] 27)) := (Below.refl _ _).alloc (Nat.le_refl _) _
     refine hK0.out _ _ (hG.trans (hb0.mono hG.size)) (fun hG0 => ?_)
     clear hK0 K0
     generalize We.alloc _ = Wg at ho0 hb0 hG0 ⊢
     try simp only [ls1, ls0]
     refine wpAnyH_ready (rs := [4]) (by kernel_rfl) (by simp) ?_
     refine AllReadyH.cons rfl (fun K4 hK4 => ?_) AllReadyH.nil
     refine step_append_rowE (base := w3.heap.size) elVal (by rfl) _ _ (by rfl) (by rfl) (l := []) ho0 (by rw [List.length_take, Nat.min_eq_left (by omega)]; rfl) (Row.below HF1.out hG0) (by rw [List.length_take]; unfold maxLen; simp only [List.length_nil]; omega) (by rw [List.length_take]; simp only [List.length_nil]; omega) hG0.size ?_
     intro A7 c7 w7 ho7 hg7
     refine hK4.out _ _ (hG0.trans (ho0.kept hg7 hG0.size)) (fun hG7 => ?_)
     clear hK4 K4
     try simp only [ls1, ls0]
     refine wpAnyH_ready (rs := [9]) (by kernel_rfl) (by simp) ?_
     refine AllReadyH.cons rfl (fun K9 hK9 => ?_) AllReadyH.nil
     refine step_append_rowE (base := w3.heap.size) elVal (by rfl) _ _ (by rfl) (by rfl) ho7 (by rw [List.length_drop, hzl]; rfl) (Row.below HF2.out hG7) (by rw [List.length_drop, List.length_append, List.length_take]; unfold maxLen; simp only [List.length_nil]; omega) (by rw [List.length_drop, List.length_append, List.length_take]; simp only [List.length_nil]; omega) hG7.size ?_
     intro A8 c8 w8 ho8 hg8
     have hb8 := hG7.trans (ho7.kept hg8 hG7.size)
     refine hK9.out _ _ hb8 (fun hG8 => ?_)
     clear hK9 K9
     try simp only [ls1, ls0]
     have her : ([] ++ zs.take N) ++ zs.drop (N + 1) = zs.eraseIdx N := by rw [List.nil_append, List.eraseIdx_eq_take_drop_succ]
     rw [her] at ho8
     rw [her]
     have HVL := Lib.hid ((HEL.out.below hG8).vls (ho8.row slc_len))
     generalize (zs.eraseIdx N).length = zl at *
     refine rtk 10 (.slice A8 zl c8) ?_ ?_
     ·intro w' hSw; go_simp; try decide
     try simp only [ls1, ls0]
     refine wpAnyH_done (by kernel_rfl) ?_ _
     have HB8 := Lib.hid (Below.after HB3.out hG8)
     clear hG hG0 hG7 hG8 hb8 hb0 ho0 ho7 ho8 hg7 hg8
     go_wp2_with fail
     have hcl : (flat (withK t (t.ks.eraseIdx N))).length ≤ 200 := by
      have hck : cutE [s] t = some (withK t (t.ks.eraseIdx N)) := by rw [cut_kind (by rw [hk]; simp [stKind, hpt]), hkid]; rfl
      have := cut_len _ hck
      omega
     refine (refList_any _ _ _ HVL.out (by rw [List.length_eraseIdx, List.length_map]; split <;> omega) (by
      have h5 := congrArg List.length HLI.out
      rw [List.length_cons, List.length_flatten] at h5
      omega)).mono ?_
     rintro e w9 ⟨v9, rfl, ho9, hb9⟩
     obtain ⟨A9, c9, rfl, -, -, -⟩ := ho9.form
     have H9 := Lib.hid (ho9.row ndc_len)
     have HB9 := Lib.hid (Below.after HB8.out hb9)
     rw [HLI.out] at H9 ⊢
     clear ho9 hb9
     go_wp2_with fail
     exact bodyPost_ret (v := .tuple #[.slice A9 (flat (withK t (t.ks.eraseIdx N))).length c9, .int .i64 0]) (by simp [results, Tryz.results14, go_sem]) rfl (by rw [HR.out]; exact ⟨_, rfl, H9.out, HB9.out⟩)
   | cons s2 q =>
    rw [if_neg (by simp)] at HCT
    have hcn := cut_nmd s2 q [] t.ks[N]
    have HCN := Lib.hid hcn
    have hlq : (s2 :: q).length = q.length + 1 := rfl
    have HSQ : Hid (Sps w3 (.slice (some ⟨g, o + 3, none⟩) (q.length + 1) (c - 1)) (s2 :: q)) := Lib.hid (by
     have htl := HP.out.back 1 (by simp) hc hcm
     rw [if_neg (by rw [hlen] at hc; rw [hlq] at hc; omega)] at htl
     exact (by simpa using htl : Sps w (.slice (some ⟨g, o + 3, none⟩) (s2 :: q).length (c - 1)) (s2 :: q)).below HB3.out)
    have HS1 : Hid (Sps w3 (.slice (some ⟨g, o, none⟩) 1 c) [s]) := Lib.hid ((Row.front HP.out 1 (by simp) (by rw [hlen] at hc; omega) hcm).below HB3.out)
    have hc2 : 2 ≤ c := by rw [hlen] at hc; rw [hlq] at hc; omega
    have hc1n : ¬ c = 1 := by omega
    clear hx4 hN0 hv5
    obtain ⟨kd1, kd2, kd3⟩ := kid_down hkid ht hsh
    rw [hgd] at kd1 kd2 kd3
    rw [hml] at kd1
    have hq1 : ¬ ((q.length : Int) + 1 + 1 < 1) := by omega
    have HDE := Lib.hid (fun W (hb : Below w3.heap.size w3 W) => hrec (nmd [] t.ks[N]) (.slice (some ⟨g, o + 3, none⟩) (q.length + 1) (c - 1)) _ W (HSQ.out.below hb) (HN5.out.below hb) (by omega) kd2 kd3)
    have HY : Hid (∀ y, cutE (s2 :: q) t.ks[N] = some y → Val (nmd [] y) ∧ (flat (nmd [] y)).length ≤ 200 ∧ errP [s] t = 0 ∧ putP [s] t (nmd [] y) = flat (withK t (t.ks.set N y))) := Lib.hid fun y hy => by
     have h1 : cutE (s2 :: q) (nmd [] t.ks[N]) = some (nmd [] y) := by rw [HCN.out, hy]; rfl
     have h2 := cut_len _ h1
     obtain ⟨p1, p2⟩ := put_one (y := y) hkid ht (by rw [hgd]; exact cut_name hy)
     exact ⟨Rgt.val (cut_rgt _ (rgt_of kd2) h1) rfl, by omega, p1, p2⟩
    rw [HCN.out] at HDE
    clear kd1 kd2 kd3 hcn
    generalize (flat (nmd [] t.ks[N])).length = m5 at *
    have HY0 : Hid (∀ w', Below w3.heap.size w3 w' → w'.cell? ⟨g4, o4 + N, none⟩ = some (.slice A5 m5 d5)) := Lib.hid fun w' hw => (hw.cell (p := ⟨g4, o4 + N, none⟩) (Nat.lt_of_lt_of_le hg4 (Nat.le_refl _))).trans (HB23y.out)
    cases hcq : cutE (s2 :: q) t.ks[N] with
    | none =>
     have HDF : Hid (∀ W, Below w3.heap.size w3 W → Calls Tryz.prog 14 #[.slice (some ⟨g, o + 3, none⟩) (q.length + 1) (c - 1), .slice A5 m5 d5] W (OutV W (.bad 5))) := Lib.hid (by have := HDE.out; rw [hcq] at this; exact this)
     have HR : Hid (R = none) := Lib.hid (by rw [HCT.out, hcq])
     clear HDE HCT HCN
     go_wp2_with fail
     refine wp_region_held_drew (S := fun w' => Below w3.heap.size w3 w') (by kernel_rfl) ((Below.refl _ _).drew) (fun hG => ?_)
     generalize w3.drew = We at hG ⊢
     refine rtk 0 (.slice (some ⟨g, o, none⟩) (q.length + 1 + 1) c) ?_ ?_
     ·intro w' hSw; go_simp; try decide
     try simp only [ls1, ls0]
     refine rtk 1 (.slice (some ⟨g, o + 3, none⟩) (q.length + 1) (c - 1)) ?_ ?_
     ·intro w' hSw; go_simp; try decide
     try simp only [ls1, ls0]
     refine rtk 2 (.slice (some ⟨g4, o4, none⟩) t.ks.length ud) ?_ ?_
     ·intro w' hSw; go_simp; try decide
     try simp only [ls1, ls0]
     refine rtk 3 (.int .i64 N) ?_ ?_
     ·intro w' hSw; go_simp; try decide
     try simp only [ls1, ls0]
     refine rtk 4 (.pointer (some ⟨g4, o4 + N, none⟩)) ?_ ?_
     ·intro w' hSw; go_simp; try decide
     try simp only [ls1, ls0]
     refine rtk 5 (.slice A5 m5 d5) ?_ ?_
     ·intro w' hSw; have y9 := HY0.out w' hSw; go_simp; try decide
     try simp only [ls1, ls0]
     refine wpAnyH_ready (rs := [6]) (by kernel_rfl) (by simp) ?_
     refine AllReadyH.cons rfl (fun K6 hK6 => ?_) AllReadyH.nil
     go_simp
     refine (HDF.out We hG).mono ?_
     rintro e w4 ⟨rfl, hb4⟩
     go_wp2_with fail
     refine hK6.out _ _ (hG.trans (hb4.mono hG.size)) (fun hG4 => ?_)
     clear hK6 K6
     try simp only [ls1, ls0]
     refine rtk 7 (.tuple #[.slice none 0 0, .int .i64 5]) ?_ ?_
     ·intro w' hSw; go_simp; try decide
     try simp only [ls1, ls0]
     refine rtk 8 (.slice none 0 0) ?_ ?_
     ·intro w' hSw; go_simp; try decide
     try simp only [ls1, ls0]
     refine rtk 9 (.int .i64 5) ?_ ?_
     ·intro w' hSw; go_simp; try decide
     try simp only [ls1, ls0]
     refine rtk 10 (.slice none 0 0) ?_ ?_
     ·intro w' hSw; go_simp; try decide
     try simp only [ls1, ls0]
     refine rtk 11 (.int .i64 5) ?_ ?_
     ·intro w' hSw; go_simp; try decide
     try simp only [ls1, ls0]
     refine wpAnyH_done (by kernel_rfl) ?_ _
     have HBE := Lib.hid (Below.after HB3.out hG4)
     clear hG hG4 hb4
     go_wp2_with fail
     exact bodyPost_ret (v := .tuple #[.slice none 0 0, .int .i64 5]) (by simp [results, Tryz.results14, go_sem]) rfl (by rw [HR.out]; exact ⟨rfl, HBE.out⟩)
    | some y =>
     have HDF : Hid (∀ W, Below w3.heap.size w3 W → Calls Tryz.prog 14 #[.slice (some ⟨g, o + 3, none⟩) (q.length + 1) (c - 1), .slice A5 m5 d5] W (OutV W (.ok (nmd [] y)))) := Lib.hid (by have := HDE.out; rw [hcq] at this; exact this)
     have HR : Hid (R = some (withK t (t.ks.set N y))) := Lib.hid (by rw [HCT.out, hcq])
     have HYY := Lib.hid (HY.out y hcq)
     clear HDE HCT HCN hcq HY
     go_wp2_with fail
     refine wp_region_held_drew (S := fun w' => Below w3.heap.size w3 w') (by kernel_rfl) ((Below.refl _ _).drew) (fun hG => ?_)
     generalize w3.drew = We at hG ⊢
     refine rtk 0 (.slice (some ⟨g, o, none⟩) (q.length + 1 + 1) c) ?_ ?_
     ·intro w' hSw; go_simp; try decide
     try simp only [ls1, ls0]
     refine rtk 1 (.slice (some ⟨g, o + 3, none⟩) (q.length + 1) (c - 1)) ?_ ?_
     ·intro w' hSw; go_simp; try decide
     try simp only [ls1, ls0]
     refine rtk 2 (.slice (some ⟨g4, o4, none⟩) t.ks.length ud) ?_ ?_
     ·intro w' hSw; go_simp; try decide
     try simp only [ls1, ls0]
     refine rtk 3 (.int .i64 N) ?_ ?_
     ·intro w' hSw; go_simp; try decide
     try simp only [ls1, ls0]
     refine rtk 4 (.pointer (some ⟨g4, o4 + N, none⟩)) ?_ ?_
     ·intro w' hSw; go_simp; try decide
     try simp only [ls1, ls0]
     refine rtk 5 (.slice A5 m5 d5) ?_ ?_
     ·intro w' hSw; have y9 := HY0.out w' hSw; go_simp; try decide
     try simp only [ls1, ls0]
     refine wpAnyH_ready (rs := [6]) (by kernel_rfl) (by simp) ?_
     refine AllReadyH.cons rfl (fun K6 hK6 => ?_) AllReadyH.nil
     go_simp
     refine (HDF.out We hG).mono ?_
     rintro e w4 h4
     obtain ⟨A6, d6, rfl, hx6, hb4⟩ := OutV.yes h4
     have HX6 := Lib.hid hx6
     clear h4 hx6
     go_wp2_with fail
     refine hK6.out _ _ (hG.trans (hb4.mono hG.size)) (fun hG4 => ?_)
     clear hK6 K6
     try simp only [ls1, ls0]
     refine rtk 7 (.tuple #[.slice A6 (flat (nmd [] y)).length d6, .int .i64 0]) ?_ ?_
     ·intro w' hSw; go_simp; try decide
     try simp only [ls1, ls0]
     refine rtk 8 (.slice A6 (flat (nmd [] y)).length d6) ?_ ?_
     ·intro w' hSw; go_simp; try decide
     try simp only [ls1, ls0]
     refine rtk 9 (.int .i64 0) ?_ ?_
     ·intro w' hSw; go_simp; try decide
     try simp only [ls1, ls0]
     refine rtk 10 (.slice A6 (flat (nmd [] y)).length d6) ?_ ?_
     ·intro w' hSw; go_simp; try decide
     try simp only [ls1, ls0]
     refine rtk 11 (.int .i64 0) ?_ ?_
     ·intro w' hSw; go_simp; try decide
     try simp only [ls1, ls0]
     refine wpAnyH_done (by kernel_rfl) ?_ _
     have HBE := Lib.hid (Below.after HB3.out hG4)
     have HB34 := Lib.hid hG4
     have HSE := Lib.hid (fun W (hb : Below w4.heap.size w4 W) => refSet_any [s] (.slice (some ⟨g, o, none⟩) 1 c) (.slice (some ⟨g1, o1, none⟩) m c1) (.slice A6 (flat (nmd [] y)).length d6) t (nmd [] y) W (Row.below HS1.out (HB34.out.trans (hb.mono HB34.out.size))) (Row.below HV.out (HBE.out.trans (hb.mono HBE.out.size))) (Row.below HX6.out hb) (by omega) HYY.out.2.1 ht HYY.out.1 hsh (by simp [hs1]) (by simp) (by intro z hz; simp at hz; subst hz; exact hnm))
     rw [HYY.out.2.2.1, HYY.out.2.2.2] at HSE
     clear hG hG4 hb4
     go_wp2_with fail
     refine (HSE.out w4 (Below.refl _ _)).mono ?_
     rintro e w5 ⟨A7, n7, c7, rfl, h7, hb7⟩
     have H7 := Lib.hid h7
     have HB7 := Lib.hid (Below.after HBE.out hb7)
     clear h7 hb7
     go_wp2_with fail
     exact bodyPost_ret (v := .tuple #[.slice A7 n7 c7, .int .i64 0]) (by simp [results, Tryz.results14, go_sem]) rfl (by rw [HR.out]; exact ⟨_, rfl, H7.out, HB7.out⟩)
  ·have i1 : (t.ks.length : Int) ≤ (N : Int) := by omega
   rw [if_neg hNl] at hkid
   rw [hkid] at HCT
   have HR : Hid (R = some t) := Lib.hid HCT.out
   go_wp2_with fail
   exact bodyPost_ret (v := .tuple #[.slice (some ⟨g1, o1, none⟩) m c1, .int .i64 0]) (by simp [results, Tryz.results14, go_sem]) rfl (by rw [HR.out]; exact ⟨_, rfl, Row.below HV.out HB3.out, HB3.out⟩)
end Go.Proofs.YtldioobbfkaebaaGreatDoor
