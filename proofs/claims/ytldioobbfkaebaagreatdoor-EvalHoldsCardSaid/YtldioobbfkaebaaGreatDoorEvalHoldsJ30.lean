/-
  Joined: PG1, ErA, ErB, PG2, PG3, PG4, ErE.
-/
import Derived.Test.YtldioobbfkaebaaGreatDoorEvalHoldsJ28
import Derived.Test.YtldioobbfkaebaaGreatDoorEvalHoldsJ29
import Derived.Test.YtldioobbfkaebaaGreatDoorEvalHoldsJ9
import Derived.Test.YtldioobbfkaebaaGreatDoorEvalHoldsJ23
import Derived.Test.YtldioobbfkaebaaGreatDoorEvalHoldsJ11
set_option maxHeartbeats 8000000
set_option maxRecDepth 100000
namespace Go.Proofs.YtldioobbfkaebaaGreatDoor
section
open Go.RowKit Np Rw Vp Up Qp Pw
def GotE (w : World) (l : List Nd) (E : Int) (e : Ending) (w' : World) : Prop := ∃ (A : Option Addr) (n c : Nat), e = .returned (.tuple #[.slice A n c, .int .i64 E]) ∧ Nds w' (.slice A n c) l ∧ Below w.heap.size w w'
theorem refPart_any (v : Value) (t : Tr Nd) (s : St) (w : World) (hv : Nds w v (flat t)) (hl : (flat t).length ≤ 60000) (ht : Val t) (hs : rightS s = true) :
  Calls Tryz.prog 69 #[v, sta s] w (GotE w (gotP [s] t) (errP [s] t)) := by
 have hb := (Below.refl w.heap.size w).alloc (Nat.le_refl _) (.cells #[.bool s.part, .string ⟨s.name.toArray⟩, .int .i64 s.n] 49)
 have HB := Lib.hid hb
 have HV := Lib.hid (hv.below hb)
 obtain ⟨g, o, c, rfl, hc, hcm, hg, hx⟩ := hv.opened (flat_pos t)
 have z0 := (hx 0 t.nd (by rw [flat_eq]; rfl)).nd.c0
 rw [Nat.zero_mul, Nat.add_zero] at z0
 have k0 := (hb.cell (p := ⟨g, o, none⟩) hg).trans z0
 have hfl := flat_pos t
 clear hx z0 hv hb
 have HG := Lib.hid (got_one s t)
 have HE := Lib.hid (err_one s t)
 generalize gotP [s] t = R at *
 generalize errP [s] t = E at *
 obtain ⟨pt, nm, n⟩ := s
 cases pt with
 | true =>
  obtain ⟨N, rfl⟩ : ∃ N : Nat, n = N := by
   unfold rightS at hs
   simp only [if_true, Bool.and_eq_true, decide_eq_true_eq] at hs
   exact ⟨n.toNat, by omega⟩
  have hNm : N ≤ 1000000 := by
   unfold rightS at hs
   simp only [if_true, Bool.and_eq_true, decide_eq_true_eq] at hs
   omega
  have hkid := kid_part (s := ⟨true, nm, (N : Int)⟩) (t := t) rfl rfl
  by_cases hk : t.nd.kind = 5
  ·rw [if_pos hk] at hkid
   have HP := Lib.hid (refParts_any _ t _ HV.out (by omega) ht)
   have hE0 : E = match kid ⟨true, nm, (N : Int)⟩ t with | none => 6 | some _ => 0 := by rw [HE.out, if_neg (by rw [hk]; simp [stKind])] <;> rfl
   have hR0 := HG.out
   rw [hk] at k0
   have hkl : t.ks.length ≤ 60000 := by
    have h1 := flats_len t.ks
    rw [flat_eq] at hl
    simp at hl
    omega
   by_cases hN : N < t.ks.length
   ·rw [if_pos hN] at hkid
    rw [hkid] at hE0 hR0
    simp only at hE0 hR0
    have hgd : t.ks.getD N t = t.ks[N] := by simp [List.getD, List.getElem?_eq_getElem hN]
    rw [hgd] at hR0
    subst hE0 hR0
    clear hkid HE HG hgd
    go_enter Tryz.func69, Tryz.ntmps69
    go_wp2_with fail
    refine HP.out.mono ?_
    rintro e w1 ⟨v1, rfl, ⟨us, hul, hu, hur⟩, hb1⟩
    obtain ⟨hz1, q0, q1, q2, -⟩ := own_step (W := w.alloc (stepO ⟨true, nm, (N : Int)⟩)) (b := w.heap.size) ⟨true, nm, (N : Int)⟩ (heap_alloc_new w (stepO ⟨true, nm, (N : Int)⟩)) hb1
    have HB1 := Lib.hid (HB.out.trans (hb1.mono HB.out.size))
    rw [List.length_map] at hul
    have hNu : N < us.length := by omega
    obtain ⟨g1, o1, c1, rfl, hc1, hcm1, hg1, hx1⟩ := hu.opened (by omega)
    have y0 := hx1 N us[N] (List.getElem?_eq_getElem hNu) 0 us[N] rfl
    have hN0 := hur N us[N] (flat (nmd [] t.ks[N])) (List.getElem?_eq_getElem hNu) (by rw [List.getElem?_map, List.getElem?_eq_getElem hN]; rfl)
    have HN0 := Lib.hid hN0
    obtain ⟨A2, c2, hv2, -⟩ := hN0
    rw [hv2] at y0 HN0
    rw [Nat.mul_one, Nat.add_zero] at y0
    have hnl : (N : Int) < (us.length : Int) := by omega
    have hnl2 : ¬ ((us.length : Int) ≤ (N : Int)) := by omega
    have hulk : us.length = t.ks.length := hul
    clear hb1 hx1 hur hu hv2 HV HP hul
    clear hNu
    generalize us.length = ul at *
    generalize hml : (flat (nmd [] t.ks[N])).length = m2 at *
    go_wp2_with fail
    exact bodyPost_ret (v := .tuple #[.slice A2 m2 c2, .int .i64 0]) (by simp [results, Tryz.results69, go_sem]) rfl ⟨A2, m2, c2, rfl, HN0.out, HB1.out⟩
   ·rw [if_neg hN] at hkid
    rw [hkid] at hE0 hR0
    simp only at hE0 hR0
    subst hE0 hR0
    clear hkid HE HG
    go_enter Tryz.func69, Tryz.ntmps69
    go_wp2_with fail
    refine HP.out.mono ?_
    rintro e w1 ⟨v1, rfl, ⟨us, hul, hu, hur⟩, hb1⟩
    obtain ⟨hz1, q0, q1, q2, -⟩ := own_step (W := w.alloc (stepO ⟨true, nm, (N : Int)⟩)) (b := w.heap.size) ⟨true, nm, (N : Int)⟩ (heap_alloc_new w (stepO ⟨true, nm, (N : Int)⟩)) hb1
    have HB1 := Lib.hid (HB.out.trans (hb1.mono HB.out.size))
    rw [List.length_map] at hul
    obtain ⟨A1, c1, rfl, -⟩ := hu
    have hnl : (us.length : Int) ≤ (N : Int) := by omega
    generalize us.length = ul at *
    clear hb1 hur HV HP
    go_wp2_with fail
    exact bodyPost_ret (v := .tuple #[.slice none 0 0, .int .i64 6]) (by simp [results, Tryz.results69, go_sem]) rfl ⟨none, 0, 0, rfl, Row.nil _, HB1.out⟩
  ·have hE0 : E = 5 := by rw [HE.out, if_pos (by simpa [stKind] using hk)]
   have hR0 : R = [] := by
    rw [HG.out, hkid, if_neg hk]
   subst hE0 hR0
   have hk2 : (t.nd.kind == 5) = false := by simpa using hk
   have hk3 : (t.nd.kind != 5) = true := by simpa using hk
   have hk4 : (!t.nd.kind == 5) = true := by simpa using hk
   clear hkid HE HG
   go_enter Tryz.func69, Tryz.ntmps69
   go_wp2_with fail
   exact bodyPost_ret (v := .tuple #[.slice none 0 0, .int .i64 5]) (by simp [results, Tryz.results69, go_sem]) rfl ⟨none, 0, 0, rfl, Row.nil _, HB.out⟩
 | false =>
  have hkd := kid_field (s := ⟨false, nm, n⟩) (t := t) rfl
  by_cases hk : t.nd.kind = 6
  ·obtain ⟨hf1, hf2⟩ := hkd hk
   have HP := Lib.hid (refField_any _ t nm _ HV.out (by omega) ht)
   have hE0 : E = match kid ⟨false, nm, n⟩ t with | none => 6 | some _ => 0 := by rw [HE.out, if_neg (by rw [hk]; simp [stKind])] <;> rfl
   have hR0 := HG.out
   rw [hk] at k0
   cases hkk : kid ⟨false, nm, n⟩ t with
   | none =>
    rw [hkk] at hE0 hR0
    simp only at hE0 hR0
    subst hE0 hR0
    obtain ⟨-, hfb⟩ := hf1 hkk
    clear hf1 hf2 hkk HE HG hkd HV
    unfold GivesF at HP
    rw [hfb] at HP
    clear hfb
    go_enter Tryz.func69, Tryz.ntmps69
    go_wp2_with fail
    refine HP.out.mono ?_
    rintro e w1 ⟨v1, rfl, hv1, hb1⟩
    have HB1 := Lib.hid (HB.out.trans (hb1.mono HB.out.size))
    obtain ⟨A1, c1, rfl, -⟩ := hv1
    generalize (fieldV nm t).length = m1 at *
    go_wp2_with fail
    exact bodyPost_ret (v := .tuple #[.slice none 0 0, .int .i64 6]) (by simp [results, Tryz.results69, go_sem]) rfl ⟨none, 0, 0, rfl, Row.nil _, HB1.out⟩
   | some k =>
    rw [hkk] at hE0 hR0
    simp only at hE0 hR0
    obtain ⟨hfv, hfb⟩ := hf2 k hkk
    simp only at hfv hfb
    rw [← hfv] at hR0
    subst hE0 hR0
    clear hf1 hf2 hkk HE HG hkd HV hfv
    unfold GivesF at HP
    rw [hfb] at HP
    clear hfb
    go_enter Tryz.func69, Tryz.ntmps69
    go_wp2_with fail
    refine HP.out.mono ?_
    rintro e w1 ⟨v1, rfl, hv1, hb1⟩
    have HB1 := Lib.hid (HB.out.trans (hb1.mono HB.out.size))
    have HV1 := Lib.hid hv1
    obtain ⟨A1, c1, rfl, -⟩ := hv1
    generalize (fieldV nm t).length = m1 at *
    go_wp2_with fail
    exact bodyPost_ret (v := .tuple #[.slice A1 m1 c1, .int .i64 0]) (by simp [results, Tryz.results69, go_sem]) rfl ⟨A1, m1, c1, rfl, HV1.out, HB1.out⟩
  ·have hE0 : E = 5 := by rw [HE.out, if_pos (by simpa [stKind] using hk)]
   have hR0 : R = [] := by
    rw [HG.out]
    have : kid ⟨false, nm, n⟩ t = none := by unfold kid; rw [if_neg (by simpa [stKind] using hk)]
    rw [this]
   subst hE0 hR0
   have hk2 : (t.nd.kind == 6) = false := by simpa using hk
   have hk4 : (!t.nd.kind == 6) = true := by simpa using hk
   clear hkd HE HG
   go_enter Tryz.func69, Tryz.ntmps69
   go_wp2_with fail
   exact bodyPost_ret (v := .tuple #[.slice none 0 0, .int .i64 5]) (by simp [results, Tryz.results69, go_sem]) rfl ⟨none, 0, 0, rfl, Row.nil _, HB.out⟩
end
section
open Go.RowKit Np Rw Vp Up Qp Pw Ev
theorem refNull10_any (w : World) : Calls Tryz.prog 35 #[] w fun e w' => ∃ A c, e = .returned (.slice A 1 c) ∧ Nds w' (.slice A 1 c) (flat nullT) ∧ Below w.heap.size w w' := by
 have hr : Nds (w.alloc (.cells #[.int .i64 0, .int .i64 0, .string ⟨#[]⟩, .string ⟨#[]⟩, .bool false, .int .i64 0] 30)) (.slice (some ⟨w.heap.size, 0, none⟩) 1 1) (flat nullT) := Row.lit ndc_len w _ _ [zeroN] (by unfold maxLen; simp) rfl
 have hb := (Below.refl w.heap.size w).alloc (Nat.le_refl _) (.cells #[.int .i64 0, .int .i64 0, .string ⟨#[]⟩, .string ⟨#[]⟩, .bool false, .int .i64 0] 30)
 go_enter Tryz.func35, Tryz.ntmps35
 go_wp2_with fail
 exact bodyPost_ret (v := .slice (some ⟨w.heap.size, 0, none⟩) 1 1) (by simp [results, Tryz.results35, go_sem]) rfl ⟨_, _, rfl, hr, hb⟩
theorem step_null {s : St} {t : Tr Nd} (h : t.nd.kind = 0) : stepE s t = some nullT := by
 unfold stepE
 rw [kid_null h, if_pos (by simp [asks, h])]
theorem step_bad {s : St} {t : Tr Nd} (h : t.nd.kind ≠ 0) (h2 : t.nd.kind ≠ stKind s) : stepE s t = none := by
 unfold stepE
 rw [if_neg (by simp [asks, h, h2])]
theorem step_kind {s : St} {t : Tr Nd} (h : t.nd.kind = stKind s) : stepE s t = some (match kid s t with | none => nullT | some k => nmd [] (t.ks.getD k nullT)) := by
 unfold stepE
 rw [if_pos (by simp [asks, h])]
 rfl
theorem refField10_any (v : Value) (t : Tr Nd) (nm : List UInt8) (w : World) (hv : Nds w v (flat t)) (hl : (flat t).length ≤ 60000) (ht : Val t) :
  Calls Tryz.prog 32 #[.string ⟨nm.toArray⟩, v] w (OutV w (ofO (stepE ⟨false, nm, 0⟩ t))) := by
 have HV := Lib.hid hv
 have HN := Lib.hid (fun W => refNull10_any W)
 have HP := Lib.hid (refField_any v t nm w hv (by omega) ht)
 obtain ⟨g, o, c, rfl, hc, hcm, hg, hx⟩ := hv.opened (flat_pos t)
 have z0 := (hx 0 t.nd (by rw [flat_eq]; rfl)).nd.c0
 rw [Nat.zero_mul, Nat.add_zero] at z0
 have hfl := flat_pos t
 have hkd := kid_field (s := ⟨false, nm, 0⟩) (t := t) rfl
 clear hx hv
 by_cases h0 : t.nd.kind = 0
 ·rw [h0] at z0
  rw [step_null h0]
  clear HP hkd
  go_enter Tryz.func32, Tryz.ntmps32
  go_wp2_with fail
  refine (HN.out w).mono ?_
  rintro e w1 ⟨A, c1, rfl, h1, h2⟩
  have H1 := Lib.hid h1
  have H2 := Lib.hid h2
  clear h1 h2
  go_wp2_with fail
  exact bodyPost_ret (v := .tuple #[.slice A 1 c1, .int .i64 0]) (by simp [results, Tryz.results32, go_sem]) rfl ⟨_, rfl, H1.out, H2.out⟩
 by_cases h6 : t.nd.kind = 6
 ·obtain ⟨hf1, hf2⟩ := hkd h6
  rw [step_kind (by simpa [stKind] using h6)]
  rw [h6] at z0
  cases hkk : kid ⟨false, nm, 0⟩ t with
  | none =>
   obtain ⟨-, hfb⟩ := hf1 hkk
   unfold GivesF at HP
   rw [hfb] at HP
   clear hf1 hf2 hkk hkd hfb HV
   go_enter Tryz.func32, Tryz.ntmps32
   go_wp2_with fail
   refine HP.out.mono ?_
   rintro e w1 ⟨v1, rfl, hv1, hb1⟩
   have HB1 := Lib.hid hb1
   obtain ⟨A1, c1, rfl, -⟩ := hv1
   generalize (fieldV nm t).length = m1 at *
   clear hb1
   go_wp2_with fail
   refine (HN.out w1).mono ?_
   rintro e w2 ⟨A, c2, rfl, h1, h2⟩
   have H1 := Lib.hid h1
   have H2 := Lib.hid (Below.after HB1.out h2)
   clear h1 h2
   go_wp2_with fail
   exact bodyPost_ret (v := .tuple #[.slice A 1 c2, .int .i64 0]) (by simp [results, Tryz.results32, go_sem]) rfl ⟨_, rfl, H1.out, H2.out⟩
  | some k =>
   obtain ⟨hfv, hfb⟩ := hf2 k hkk
   simp only at hfv hfb
   have hgd : t.ks.getD k nullT = t.ks.getD k t := by
    obtain ⟨hkl, -⟩ := kid_lt hkk
    simp [List.getD, List.getElem?_eq_getElem hkl]
   have HR : Hid (flat (nmd [] (t.ks.getD k nullT)) = fieldV nm t) := Lib.hid (by rw [hgd, hfv])
   unfold GivesF at HP
   rw [hfb] at HP
   clear hf1 hf2 hkk hkd hfb HV hfv hgd
   go_enter Tryz.func32, Tryz.ntmps32
   go_wp2_with fail
   refine HP.out.mono ?_
   rintro e w1 ⟨v1, rfl, hv1, hb1⟩
   have HB1 := Lib.hid hb1
   have HV1 := Lib.hid hv1
   obtain ⟨A1, c1, rfl, -⟩ := hv1
   generalize (fieldV nm t).length = m1 at *
   clear hb1
   go_wp2_with fail
   exact bodyPost_ret (v := .tuple #[.slice A1 m1 c1, .int .i64 0]) (by simp [results, Tryz.results32, go_sem]) rfl ⟨_, rfl, by rw [HR.out]; exact HV1.out, HB1.out⟩
 ·rw [step_bad h0 (by simpa [stKind] using h6)]
  have k2 : (t.nd.kind == 0) = false := by simpa using h0
  have k3 : (t.nd.kind == 6) = false := by simpa using h6
  clear HP hkd
  go_enter Tryz.func32, Tryz.ntmps32
  go_wp2_with fail
  exact bodyPost_ret (v := .tuple #[.slice none 0 0, .int .i64 5]) (by simp [results, Tryz.results32, go_sem]) rfl ⟨rfl, Below.refl _ _⟩
theorem refPart10_any (v : Value) (t : Tr Nd) (N : Nat) (w : World) (hv : Nds w v (flat t)) (hl : (flat t).length ≤ 60000) (ht : Val t) (nm : List UInt8) :
  Calls Tryz.prog 33 #[.int .i64 N, v] w (OutV w (ofO (stepE ⟨true, nm, N⟩ t))) := by
 have HV := Lib.hid hv
 have HN := Lib.hid (fun W => refNull10_any W)
 have HP := Lib.hid (refParts_any v t w hv (by omega) ht)
 obtain ⟨g, o, c, rfl, hc, hcm, hg, hx⟩ := hv.opened (flat_pos t)
 have z0 := (hx 0 t.nd (by rw [flat_eq]; rfl)).nd.c0
 rw [Nat.zero_mul, Nat.add_zero] at z0
 have hfl := flat_pos t
 have hkid := kid_part (s := ⟨true, nm, (N : Int)⟩) (t := t) rfl rfl
 clear hx hv
 by_cases h0 : t.nd.kind = 0
 ·rw [h0] at z0
  rw [step_null h0]
  clear HP hkid
  go_enter Tryz.func33, Tryz.ntmps33
  go_wp2_with fail
  refine (HN.out w).mono ?_
  rintro e w1 ⟨A, c1, rfl, h1, h2⟩
  have H1 := Lib.hid h1
  have H2 := Lib.hid h2
  clear h1 h2
  go_wp2_with fail
  exact bodyPost_ret (v := .tuple #[.slice A 1 c1, .int .i64 0]) (by simp [results, Tryz.results33, go_sem]) rfl ⟨_, rfl, H1.out, H2.out⟩
 by_cases h5 : t.nd.kind = 5
 ·rw [if_pos h5] at hkid
  rw [step_kind (by simpa [stKind] using h5)]
  rw [h5] at z0
  by_cases hN : N < t.ks.length
  ·rw [if_pos hN] at hkid
   have hgd : t.ks.getD N nullT = t.ks[N] := by simp [List.getD, List.getElem?_eq_getElem hN]
   rw [hkid]
   simp only [hgd]
   clear hkid hgd HV
   go_enter Tryz.func33, Tryz.ntmps33
   go_wp2_with fail
   refine HP.out.mono ?_
   rintro e w1 ⟨v1, rfl, ⟨us, hul, hu, hur⟩, hb1⟩
   have HB1 := Lib.hid hb1
   rw [List.length_map] at hul
   have hNu : N < us.length := by omega
   obtain ⟨g1, o1, c1, rfl, hc1, hcm1, hg1, hx1⟩ := hu.opened (by omega)
   have y0 := hx1 N us[N] (List.getElem?_eq_getElem hNu) 0 us[N] rfl
   have hN0 := hur N us[N] (flat (nmd [] t.ks[N])) (List.getElem?_eq_getElem hNu) (by rw [List.getElem?_map, List.getElem?_eq_getElem hN]; rfl)
   have HN0 := Lib.hid hN0
   obtain ⟨A2, c2, hv2, -⟩ := hN0
   rw [hv2] at y0 HN0
   rw [Nat.mul_one, Nat.add_zero] at y0
   have hnl : (N : Int) < (us.length : Int) := by omega
   have hnl2 : ¬ ((us.length : Int) ≤ (N : Int)) := by omega
   have hulk : us.length = t.ks.length := hul
   clear hb1 hx1 hur hu hv2 HP hul
   clear hNu
   generalize us.length = ul at *
   generalize hml : (flat (nmd [] t.ks[N])).length = m2 at *
   go_wp2_with fail
   exact bodyPost_ret (v := .tuple #[.slice A2 m2 c2, .int .i64 0]) (by simp [results, Tryz.results33, go_sem]) rfl ⟨_, rfl, HN0.out, HB1.out⟩
  ·rw [if_neg hN] at hkid
   rw [hkid]
   simp only
   clear hkid HV
   go_enter Tryz.func33, Tryz.ntmps33
   go_wp2_with fail
   refine HP.out.mono ?_
   rintro e w1 ⟨v1, rfl, ⟨us, hul, hu, hur⟩, hb1⟩
   have HB1 := Lib.hid hb1
   rw [List.length_map] at hul
   obtain ⟨A1, c1, rfl, -⟩ := hu
   have hnl : (us.length : Int) ≤ (N : Int) := by omega
   generalize us.length = ul at *
   clear hb1 hur HP
   go_wp2_with fail
   refine (HN.out w1).mono ?_
   rintro e w2 ⟨A, c2, rfl, h1, h2⟩
   have H1 := Lib.hid h1
   have H2 := Lib.hid (Below.after HB1.out h2)
   clear h1 h2
   go_wp2_with fail
   exact bodyPost_ret (v := .tuple #[.slice A 1 c2, .int .i64 0]) (by simp [results, Tryz.results33, go_sem]) rfl ⟨_, rfl, H1.out, H2.out⟩
 ·rw [step_bad h0 (by simpa [stKind] using h5)]
  have k2 : (t.nd.kind == 0) = false := by simpa using h0
  have k3 : (t.nd.kind == 5) = false := by simpa using h5
  clear HP hkid
  go_enter Tryz.func33, Tryz.ntmps33
  go_wp2_with fail
  exact bodyPost_ret (v := .tuple #[.slice none 0 0, .int .i64 5]) (by simp [results, Tryz.results33, go_sem]) rfl ⟨rfl, Below.refl _ _⟩
end
section
open Go.RowKit Np Rw Vp Up Qp Pw Ev
theorem OutV.all {w w' : World} {r : Rz} {e : Ending} (h : OutV w r e w') : ∃ (A : Option Addr) (n c : Nat) (E : Int), e = .returned (.tuple #[.slice A n c, .int .i64 E]) ∧ Below w.heap.size w w' := by
 cases r with
 | ok t =>
  obtain ⟨v', h1, ⟨A, c, rfl, -⟩, h3⟩ := h
  exact ⟨A, _, c, 0, h1, h3⟩
 | bad k => exact ⟨none, 0, 0, k, h.1, h.2⟩
theorem OutV.yes {w w' : World} {t : Tr Nd} {e : Ending} (h : OutV w (.ok t) e w') : ∃ (A : Option Addr) (c : Nat), e = .returned (.tuple #[.slice A (flat t).length c, .int .i64 0]) ∧ Nds w' (.slice A (flat t).length c) (flat t) ∧ Below w.heap.size w w' := by
 obtain ⟨v', h1, h2, h3⟩ := h
 obtain ⟨A, c, rfl, -⟩ := id h2
 exact ⟨A, c, h1, h2, h3⟩
theorem OutV.from {w w1 w' : World} {r : Rz} {e : Ending} (hb : Below w.heap.size w w1) (h : OutV w1 r e w') : OutV w r e w' := by
 cases r with
 | ok t =>
  obtain ⟨v', h1, h2, h3⟩ := h
  exact ⟨v', h1, h2, Below.after hb h3⟩
 | bad k => exact ⟨h.1, Below.after hb h.2⟩
theorem refFollow10_any : ∀ (p : List St) (pv v : Value) (t : Tr Nd) (w : World) (_ : Sps w pv p) (_ : Nds w v (flat t)) (_ : (flat t).length ≤ 60000) (_ : Val t) (_ : ∀ s ∈ p, rightS s = true),
  Calls Tryz.prog 12 #[pv, v] w (OutV w (ofO (alongE p t)))
 | [], pv, v, t, w, hp, hv, hl, ht, hs => by
  have HV := Lib.hid hv
  obtain ⟨PA, pc, rfl, -⟩ := hp
  obtain ⟨VA, vc, rfl, -⟩ := hv
  rw [alongE]
  generalize hm : (flat t).length = m at *
  go_enter Tryz.func12, Tryz.ntmps12
  go_wp2_with fail
  exact bodyPost_ret (v := .tuple #[.slice VA m vc, .int .i64 0]) (by simp [results, Tryz.results12, go_sem]) rfl ⟨_, rfl, HV.out, Below.refl _ _⟩
 | s :: p, pv, v, t, w, hp, hv, hl, ht, hs => by
  have hs1 := hs s (by simp)
  have hs2 : ∀ x ∈ p, rightS x = true := fun x hx => hs x (by simp [hx])
  obtain ⟨g, o, c, rfl, hc, hcm, hg, hxs⟩ := hp.opened (by simp)
  have htl := hp.back 1 (by simp) hc hcm
  have hta : Sps w (.slice (some ⟨g, o + 3, none⟩) p.length (c - 1)) p := by
   by_cases h1c : 1 = c
   ·have hp0 : p = [] := List.eq_nil_of_length_eq_zero (by have : (s :: p).length = p.length + 1 := rfl; omega)
    subst hp0
    exact Row.empty _ _ _ (by omega)
   ·rw [if_neg h1c] at htl
    simpa using htl
  have htb : c = 1 → Sps w (.slice (some ⟨g, o, none⟩) p.length 0) p := by
   intro h1c
   have hp0 : p = [] := List.eq_nil_of_length_eq_zero (by have : (s :: p).length = p.length + 1 := rfl; omega)
   subst hp0
   exact Row.empty _ _ _ (by unfold maxLen; omega)
  obtain ⟨z0, z1, z2⟩ := (hxs 0 s rfl).sp
  rw [Nat.zero_mul, Nat.add_zero] at z0 z1 z2
  have HZ : Hid (∀ W, Below w.heap.size w W → Sp3 W g o s) := Lib.hid (fun W hb => ⟨(hb.cell (p := ⟨g, o, none⟩) hg).trans z0, (hb.cell (p := ⟨g, o + 1, none⟩) hg).trans z1, (hb.cell (p := ⟨g, o + 2, none⟩) hg).trans z2⟩)
  have HV := Lib.hid hv
  have HTA := Lib.hid hta
  have HTB := Lib.hid htb
  have hlen : (s :: p).length = p.length + 1 := rfl
  have HF := Lib.hid (refField10_any v t s.name w hv hl ht)
  have HP : Hid (∀ N : Nat, ∀ W, Below w.heap.size w W → Calls Tryz.prog 33 #[.int .i64 N, v] W (OutV W (ofO (stepE ⟨true, s.name, N⟩ t)))) := Lib.hid fun N W hb => refPart10_any v t N W (hv.below hb) hl ht s.name
  obtain ⟨VA, vc, rfl, -⟩ := hv
  have HIH : Hid (∀ (u : Tr Nd) (uv : Value) W, Below w.heap.size w W → Nds W uv (flat u) → (flat u).length ≤ 60000 → Val u → Calls Tryz.prog 12 #[.slice (some ⟨g, o + 3, none⟩) p.length (c - 1), uv] W (OutV W (ofO (alongE p u)))) := Lib.hid fun u uv W hb hu hul huv => refFollow10_any p _ uv u W (Row.below HTA.out hb) hu hul huv hs2
  have HIB : Hid (c = 1 → ∀ (u : Tr Nd) (uv : Value) W, Below w.heap.size w W → Nds W uv (flat u) → (flat u).length ≤ 60000 → Val u → Calls Tryz.prog 12 #[.slice (some ⟨g, o, none⟩) p.length 0, uv] W (OutV W (ofO (alongE p u)))) := Lib.hid fun hc1 u uv W hb hu hul huv => refFollow10_any p _ uv u W (Row.below (HTB.out hc1) hb) hu hul huv hs2
  have HAL : Hid (alongE (s :: p) t = match stepE s t with | none => none | some u => alongE p u) := Lib.hid (by rw [alongE]; rfl)
  have hc1' : 1 ≤ c := by rw [hlen] at hc; omega
  rw [hlen] at hc
  have HUL : Hid (∀ u, stepE s t = some u → (flat u).length ≤ 60000 ∧ Val u) := Lib.hid fun u hu => ⟨by have := step_len hu; omega, step_val (rgt_of ht) hu⟩
  generalize hal : alongE (s :: p) t = R at *
  clear hxs hp htl hta htb hs hs2 hal
  generalize hm : (flat t).length = m at *
  cases hpt : s.part with
  | false =>
   have hsn : s = ⟨false, s.name, 0⟩ := by
    obtain ⟨pt, nm, n⟩ := s
    simp only at hpt
    subst hpt
    unfold rightS at hs1
    have := (Bool.and_eq_true_iff.1 (by simpa using hs1 : (decide (n = 0) && vld nm) = true)).1
    simp at this
    subst this
    rfl
   rw [← hsn] at HF
   rw [hpt] at z0
   have HPT := Lib.hid hpt
   clear HP hs1 hsn hpt
   cases hst : stepE s t with
   | none =>
    rw [hst] at HF HAL
    have HR : Hid (R = none) := Lib.hid HAL.out
    clear HAL HUL HIH HIB HTA HTB hst
    go_enter Tryz.func12, Tryz.ntmps12
    go_wp2_with fail
    refine HF.out.mono ?_
    rintro e w1 ⟨rfl, hb1⟩
    obtain ⟨s0, s1, s2⟩ := HZ.out w1 hb1
    rw [HPT.out] at s0
    have HB1 := Lib.hid hb1
    clear hb1 z0 z1 z2
    go_wp2_with fail
    exact bodyPost_ret (v := .tuple #[.slice none 0 0, .int .i64 5]) (by simp [results, Tryz.results12, go_sem]) rfl (by rw [HR.out]; exact ⟨rfl, HB1.out⟩)
   | some u =>
    rw [hst] at HF HAL
    have HR : Hid (R = alongE p u) := Lib.hid HAL.out
    have HU := Lib.hid (HUL.out u hst)
    clear HAL HUL HTA HTB hst
    go_enter Tryz.func12, Tryz.ntmps12
    go_wp2_with fail
    refine HF.out.mono ?_
    rintro e w1 h1
    obtain ⟨A, c1, rfl, hu1, hb1⟩ := OutV.yes h1
    obtain ⟨s0, s1, s2⟩ := HZ.out w1 hb1
    rw [HPT.out] at s0
    have HB1 := Lib.hid hb1
    have HU1 := Lib.hid hu1
    clear hb1 z0 z1 z2 h1 hu1
    go_wp2_with fail
    ·refine (HIB.out (by first | assumption | rfl | omega) u _ w1 HB1.out HU1.out HU.out.1 HU.out.2).mono ?_
     rintro e w3 h3
     have H3 := Lib.hid (OutV.from HB1.out h3)
     obtain ⟨A3, n3, c3, E3, rfl, -⟩ := OutV.all h3
     clear h3
     go_wp2_with fail
     exact bodyPost_ret (v := .tuple #[.slice A3 n3 c3, .int .i64 E3]) (by simp [results, Tryz.results12, go_sem]) rfl (by rw [HR.out]; exact H3.out)
    ·refine (HIH.out u _ w1 HB1.out HU1.out HU.out.1 HU.out.2).mono ?_
     rintro e w3 h3
     have H3 := Lib.hid (OutV.from HB1.out h3)
     obtain ⟨A3, n3, c3, E3, rfl, -⟩ := OutV.all h3
     clear h3
     go_wp2_with fail
     exact bodyPost_ret (v := .tuple #[.slice A3 n3 c3, .int .i64 E3]) (by simp [results, Tryz.results12, go_sem]) rfl (by rw [HR.out]; exact H3.out)
  | true =>
   obtain ⟨N, hN⟩ : ∃ N : Nat, s.n = N := by
    unfold rightS at hs1
    rw [hpt] at hs1
    simp only [if_true, Bool.and_eq_true, decide_eq_true_eq] at hs1
    exact ⟨s.n.toNat, by omega⟩
   have hsn : s = ⟨true, s.name, N⟩ := by
    obtain ⟨pt, nm, n⟩ := s
    simp only at hpt hN
    subst hpt hN
    rfl
   have HQ := Lib.hid (HP.out N)
   rw [← hsn] at HQ
   rw [hpt] at z0
   rw [hN] at z2
   have HPT := Lib.hid hpt
   have HNN := Lib.hid hN
   clear HP hs1 hsn hpt hN
   cases hst : stepE s t with
   | none =>
    rw [hst] at HQ HAL
    have HR : Hid (R = none) := Lib.hid HAL.out
    clear HAL HUL HIH HIB HTA HTB hst
    go_enter Tryz.func12, Tryz.ntmps12
    go_wp2_with fail
    refine HF.out.mono ?_
    rintro e w1 h1
    obtain ⟨A1, n1, c1, E1, rfl, hb1⟩ := OutV.all h1
    obtain ⟨s0, s1, s2⟩ := HZ.out w1 hb1
    rw [HPT.out] at s0
    rw [HNN.out] at s2
    have HB1 := Lib.hid hb1
    clear hb1 z0 z1 z2 h1
    go_wp2_with fail
    refine (HQ.out _ HB1.out).mono ?_
    rintro e w2 ⟨rfl, hb2⟩
    have HB2 := Lib.hid (Below.after HB1.out hb2)
    clear hb2 s0 s1 s2
    go_wp2_with fail
    exact bodyPost_ret (v := .tuple #[.slice none 0 0, .int .i64 5]) (by simp [results, Tryz.results12, go_sem]) rfl (by rw [HR.out]; exact ⟨rfl, HB2.out⟩)
   | some u =>
    rw [hst] at HQ HAL
    have HR : Hid (R = alongE p u) := Lib.hid HAL.out
    have HU := Lib.hid (HUL.out u hst)
    clear HAL HUL HTA HTB hst
    go_enter Tryz.func12, Tryz.ntmps12
    go_wp2_with fail
    refine HF.out.mono ?_
    rintro e w1 h1
    obtain ⟨A1, n1, c1, E1, rfl, hb1⟩ := OutV.all h1
    obtain ⟨s0, s1, s2⟩ := HZ.out w1 hb1
    rw [HPT.out] at s0
    rw [HNN.out] at s2
    have HB1 := Lib.hid hb1
    clear hb1 z0 z1 z2 h1
    go_wp2_with fail
    refine (HQ.out _ HB1.out).mono ?_
    rintro e w2 h2
    obtain ⟨A, c2, rfl, hu2, hb2⟩ := OutV.yes h2
    have HB2 := Lib.hid (Below.after HB1.out hb2)
    have HU2 := Lib.hid hu2
    clear hb2 s0 s1 s2 h2 hu2
    go_wp2_with fail
    ·refine (HIB.out (by first | assumption | rfl | omega) u _ w2 HB2.out HU2.out HU.out.1 HU.out.2).mono ?_
     rintro e w3 h3
     have H3 := Lib.hid (OutV.from HB2.out h3)
     obtain ⟨A3, n3, c3, E3, rfl, -⟩ := OutV.all h3
     clear h3
     go_wp2_with fail
     exact bodyPost_ret (v := .tuple #[.slice A3 n3 c3, .int .i64 E3]) (by simp [results, Tryz.results12, go_sem]) rfl (by rw [HR.out]; exact H3.out)
    ·refine (HIH.out u _ w2 HB2.out HU2.out HU.out.1 HU.out.2).mono ?_
     rintro e w3 h3
     have H3 := Lib.hid (OutV.from HB2.out h3)
     obtain ⟨A3, n3, c3, E3, rfl, -⟩ := OutV.all h3
     clear h3
     go_wp2_with fail
     exact bodyPost_ret (v := .tuple #[.slice A3 n3 c3, .int .i64 E3]) (by simp [results, Tryz.results12, go_sem]) rfl (by rw [HR.out]; exact H3.out)
end
section
open Go.RowKit Np Rw Vp Up Qp Pw
theorem sub_len {p : List St} {t u : Tr Nd} (h : subP p t = some u) : (flat (nmd [] u)).length ≤ (flat t).length := by
 obtain ⟨pre, post, h1, -, -⟩ := row_at p t u h
 have := congrArg List.length h1
 have h2 : (flat (nmd [] u)).length = (flat u).length := by rw [nmd, flat_mk, flat_eq u]; simp
 simp at this; omega
theorem got_cons {s : St} {q : List St} {t u : Tr Nd} (h : subP [s] t = some u) : gotP (s :: q) t = gotP q (nmd [] u) ∧ errP (s :: q) t = errP q (nmd [] u) := got_append (p := [s]) h
theorem got_cons_bad {s : St} {q : List St} {t : Tr Nd} (h : errP [s] t ≠ 0) : gotP (s :: q) t = [] ∧ errP (s :: q) t = errP [s] t := got_append_bad (p := [s]) h
end
section
open Go.RowKit Np Rw Vp Up Qp Pw
theorem val_nm {t : Tr Nd} (h : Val t) : t.nd.name = [] := by rw [← val_name h]; rfl
theorem put_cons {s : St} {q : List St} {t x : Tr Nd} {k : Nat} (hk : kid s t = some k) (ht : Val t) (h : errP q (nmd [] (t.ks.getD k t)) = 0) :
  putP (s :: q) t x = if s.part then hdN 5 (((t.ks.map fun u => flat (nmd [] u)).set k (flat (setP q (nmd [] (t.ks.getD k t)) x))).length) :: ((t.ks.map fun u => flat (nmd [] u)).set k (flat (setP q (nmd [] (t.ks.getD k t)) x))).flatten
   else flat (withT s.name (setP q (nmd [] (t.ks.getD k t)) x) t) := by
 obtain ⟨hl, hkind, u, hu, hlead⟩ := kid_lt hk
 have hgd : t.ks.getD k t = u := by simp [List.getD, hu]
 have hsub : subP [s] t = some u := by rw [subP, hk]; simp only; rw [hgd]; rfl
 have he : errP (s :: q) t = 0 := by rw [(got_cons (q := q) hsub).2, ← hgd]; exact h
 unfold putP
 rw [if_pos he, setP, hk]
 simp only
 rw [hgd, set_nmd]
 cases hp : s.part with
 | true =>
  rw [if_pos rfl]
  have hk5 : t.nd.kind = 5 := by rw [hkind]; simp [stKind, hp]
  have hun := ht.unnamed hk5 u (List.mem_of_getElem? hu)
  have hy : nmd [] (setP q u x) = setP q u x := by
   have h0 := nmd_self (setP q u x)
   rw [setP_name, hun] at h0
   exact h0
  rw [hy, list_set ht hk5]
 | false =>
  rw [if_neg (by simp)]
  have hk6 : t.nd.kind = 6 := by rw [hkind]; simp [stKind, hp]
  have hn : u.nd.name = s.name := by
   unfold lead at hlead
   rw [hp] at hlead
   simpa using hlead
  rw [obj_set _ ht hk6 hu hn, nmd_nmd]
  have hy : nmd s.name (setP q u x) = setP q u x := by
   have h0 := nmd_self (setP q u x)
   rw [setP_name, hn] at h0
   exact h0
  rw [hy]
theorem elems_put {base N g cap : Nat} {W : World} {zs : List (Option Addr × Nat × Nat)} {L : List (List Nd)} {l : List Nd} {A : Option Addr} {m c : Nat} (ho : Own slc 1 27 base W (.slice (some ⟨g, 0, none⟩) zs.length cap) zs) (he : Elems base W zs L) (hN : N < zs.length) (hlow : ∀ W', Below base W W' → Nds W' (.slice A m c) l) :
  Vls (W.setCell ⟨g, N, none⟩ (.slice A m c)) (.slice (some ⟨g, 0, none⟩) zs.length cap) (L.set N l) := by
 obtain ⟨z, hz⟩ : ∃ z, zs[N]? = some z := ⟨_, List.getElem?_eq_getElem hN⟩
 have h1 := Own.put slc_len (j := 0) (y := (A, m, c)) (u := .slice A m c) ho hz (by decide) rfl
 rw [Nat.mul_one, Nat.add_zero] at h1
 have h2 := (World.ownsRow.stored ho N (.slice A m c)).2
 have hb : Below base W (W.setCell ⟨g, N, none⟩ (.slice A m c)) := (Below.refl _ _).setCell ho.lt.1 _
 have hr := Own.row slc_len h1
 have hels : Els (W.setCell ⟨g, N, none⟩ (.slice A m c)) (zs.set N (A, m, c)) (L.set N l) := by
  refine ⟨by rw [List.length_set, List.length_set]; exact he.1, fun k z' l' hk hl' => ?_⟩
  rw [List.getElem?_set] at hk hl'
  by_cases hkN : N = k
  ·subst hkN
   rw [if_pos rfl, if_pos hN] at hk
   rw [if_pos rfl, if_pos (by rw [← he.1]; exact hN)] at hl'
   injection hk with hk
   injection hl' with hl'
   subst hk hl'
   exact hlow _ hb
  ·rw [if_neg hkN] at hk hl'
   exact (Own.aside (he.2 k z' l' hk hl') ho (by decide) h2).row ndc_len
 have := hels.vls hr
 exact this
end
section
open Go.RowKit Np Rw Vp Up Qp Pw
theorem refSet_any : ∀ (p : List St) (pv v xv : Value) (t x : Tr Nd) (w : World) (_ : Sps w pv p) (_ : Nds w v (flat t)) (_ : Nds w xv (flat x)) (_ : (flat t).length ≤ 200) (_ : (flat x).length ≤ 200) (_ : Val t) (_ : Val x) (_ : Short (flat t)) (_ : p.all rightS = true) (_ : p.length ≤ 1000) (_ : ∀ s ∈ p, s.name.length ≤ maxLen),
  Calls Tryz.prog 39 #[pv, v, xv] w (GotE w (putP p t x) (errP p t))
 | [], pv, v, xv, t, x, w, hp, hv, hxv, hl, hxl, ht, hx, hsh, hs, hpl, hnm => by
  have HX := Lib.hid hxv
  have HPT : Hid (putP [] t x = flat x) := Lib.hid (by
   unfold putP
   rw [if_pos (show errP [] t = 0 from rfl)]
   show flat (nmd t.nd.name x) = flat x
   rw [val_nm ht, val_name hx])
  obtain ⟨PA, pc, rfl, -⟩ := hp
  obtain ⟨VA, vc, rfl, -⟩ := hv
  obtain ⟨XA, xc, rfl, -⟩ := hxv
  generalize putP [] t x = R at *
  clear hs hnm hsh
  go_enter Tryz.func39, Tryz.ntmps39
  go_wp2_with fail
  exact bodyPost_ret (v := .tuple #[.slice XA (flat x).length xc, .int .i64 0]) (by simp [results, Tryz.results39, go_sem]) rfl ⟨XA, _, xc, rfl, by rw [HPT.out]; exact HX.out, Below.refl _ _⟩
 | s :: p, pv, v, xv, t, x, w, hp, hv, hxv, hl, hxl, ht, hx, hsh, hs, hpl, hnm => by
  rw [List.all_cons, Bool.and_eq_true] at hs
  obtain ⟨hs1, hs2⟩ := hs
  have hnms : s.name.length ≤ maxLen := hnm s (by simp)
  obtain ⟨g, o, c, rfl, hc, hcm, hg, hxs⟩ := hp.opened (by simp)
  have htl := hp.back 1 (by simp) hc hcm
  have hta : Sps w (.slice (some ⟨g, o + 3, none⟩) p.length (c - 1)) p := by
   by_cases h1c : 1 = c
   ·have hp0 : p = [] := List.eq_nil_of_length_eq_zero (by have : (s :: p).length = p.length + 1 := rfl; omega)
    subst hp0
    exact Row.empty _ _ _ (by omega)
   ·rw [if_neg h1c] at htl
    simpa using htl
  have htb : c = 1 → Sps w (.slice (some ⟨g, o, none⟩) p.length 0) p := by
   intro h1c
   have hp0 : p = [] := List.eq_nil_of_length_eq_zero (by have : (s :: p).length = p.length + 1 := rfl; omega)
   subst hp0
   exact Row.empty _ _ _ (by unfold maxLen; omega)
  obtain ⟨z0, z1, z2⟩ := (hxs 0 s rfl).sp
  rw [Nat.zero_mul, Nat.add_zero] at z0 z1 z2
  have HZ : Hid (∀ W, Below w.heap.size w W → Sp3 W g o s) := Lib.hid (fun W hb => ⟨(hb.cell (p := ⟨g, o, none⟩) hg).trans z0, (hb.cell (p := ⟨g, o + 1, none⟩) hg).trans z1, (hb.cell (p := ⟨g, o + 2, none⟩) hg).trans z2⟩)
  have HV := Lib.hid hv
  have HX := Lib.hid hxv
  have HTA := Lib.hid hta
  have HTB := Lib.hid htb
  have HP := Lib.hid (refPart_any v t s w hv (by omega) ht hs1)
  obtain ⟨VA, vc, rfl, -⟩ := hv
  obtain ⟨XA, xc, rfl, -⟩ := hxv
  have hlen : (s :: p).length = p.length + 1 := rfl
  rw [hlen] at hc hpl
  clear hxs hp htl hta htb
  by_cases he : errP [s] t = 0
  ·obtain ⟨u, hu⟩ := sub_some he
   have huv := sub_val hu ht
   have hul := sub_len hu
   obtain ⟨h1, h2⟩ := got_cons (q := p) hu
   obtain ⟨k, hk⟩ : ∃ k, kid s t = some k := by
    rw [subP] at hu
    cases hk : kid s t with
    | none => rw [hk] at hu; cases hu
    | some k => exact ⟨k, rfl⟩
   obtain ⟨hkl, hkind, u', hu', hlead⟩ := kid_lt hk
   have hgd : t.ks.getD k t = u := by
    rw [subP, hk] at hu
    exact Option.some.inj hu
   have hshu : Short (flat (nmd [] u)) := by
    obtain ⟨pre, post, h3, -, -⟩ := row_at [s] t u hu
    rw [h3] at hsh
    exact short_nmd (by unfold maxLen; simp) (fun n hn => hsh n (by simp [hn]))
   have HIH : Hid (∀ (wv : Value) W, Below w.heap.size w W → Nds W wv (flat (nmd [] u)) → Calls Tryz.prog 39 #[.slice (some ⟨g, o + 3, none⟩) p.length (c - 1), wv, .slice XA (flat x).length xc] W (GotE W (putP p (nmd [] u) x) (errP p (nmd [] u)))) := Lib.hid (fun wv W hb hwv =>
    refSet_any p _ wv _ (nmd [] u) x W (Row.below HTA.out hb) hwv (HX.out.below hb) (by omega) hxl huv hx hshu hs2 (by omega) (fun y hy => hnm y (by simp [hy])))
   have HIB : Hid (c = 1 → ∀ (wv : Value) W, Below w.heap.size w W → Nds W wv (flat (nmd [] u)) → Calls Tryz.prog 39 #[.slice (some ⟨g, o, none⟩) p.length 0, wv, .slice XA (flat x).length xc] W (GotE W (putP p (nmd [] u) x) (errP p (nmd [] u)))) := Lib.hid (fun hc1 wv W hb hwv =>
    refSet_any p _ wv _ (nmd [] u) x W (Row.below (HTB.out hc1) hb) hwv (HX.out.below hb) (by omega) hxl huv hx hshu hs2 (by omega) (fun y hy => hnm y (by simp [hy])))
   rw [he, got_some hu] at HP
   rw [h2]
   by_cases hf : errP p (nmd [] u) = 0
   ·have HPC := Lib.hid (put_cons (q := p) (x := x) hk ht (by rw [hgd]; exact hf))
    rw [hgd] at HPC
    obtain ⟨u2, hu2⟩ := sub_some hf
    have hyv := set_val hu2 huv hx
    have hyl : (flat (setP p (nmd [] u) x)).length ≤ 400 := by have := set_len (x := x) hu2; omega
    have HYV := Lib.hid hyv
    have HYL := Lib.hid hyl
    have HPI : Hid (putP p (nmd [] u) x = flat (setP p (nmd [] u) x)) := Lib.hid (by unfold putP; rw [if_pos hf])
    generalize putP (s :: p) t x = R at *
    rw [hf]
    rw [hf, HPI.out] at HIH HIB
    generalize setP p (nmd [] u) x = y at *
    cases hpt : s.part with
    | false =>
     have hk6 : t.nd.kind = 6 := by rw [hkind]; simp [stKind, hpt]
     have HFIN : Hid (R = flat (withT s.name y t)) := Lib.hid (by rw [HPC.out, hpt]; rfl)
     have hnv : vld s.name = true := by
      unfold rightS at hs1
      rw [hpt] at hs1
      simpa using (Bool.and_eq_true_iff.1 (by simpa using hs1 : (decide (s.n = 0) && vld s.name) = true)).2
     have HW := Lib.hid (fun W yv (hb : Below w.heap.size w W) (hyv2 : Nds W yv (flat y)) => refWith_any (.slice VA (flat t).length vc) yv t y s.name W (HV.out.below hb) hyv2 (by omega) (by have := HYL.out; omega) ht hk6 HYV.out hnv hnms (by
      intro z hz
      obtain ⟨a, ha, rfl⟩ := List.mem_map.1 hz
      exact (hsh a.nd (by rw [flat_eq]; exact List.mem_cons_of_mem _ (mem_flats ha (by rw [flat_eq]; simp)))).1))
     have hc1 : 1 ≤ c := by omega
     have HPT := Lib.hid hpt
     clear hpt
     clear hsh hnm hu hu' hlead hkl hkind hk hshu huv hul hu2 hyv hyl HPC hs1 hs2 h1 h2 he hf HPI HTA HTB
     go_enter Tryz.func39, Tryz.ntmps39
     go_wp2_with fail
     refine HP.out.mono ?_
     rintro e w1 ⟨A1, m1, c1, rfl, hn1, hb1⟩
     have HN1 := Lib.hid hn1
     have HB1 := Lib.hid hb1
     clear hn1 hb1 z0 z1 z2
     go_wp2_with fail
     ·refine (HIB.out (by assumption) _ w1 HB1.out HN1.out).mono ?_
      rintro e w2 ⟨A2, m2, c2, rfl, hn2, hb2⟩
      have HN2 := Lib.hid hn2
      have HB2 := Lib.hid (Below.after HB1.out hb2)
      obtain ⟨s0, s1, s2⟩ := HZ.out w2 HB2.out
      rw [HPT.out] at s0
      clear hn2 hb2 HN1 HB1
      go_wp2_with fail
      refine (HW.out w2 _ HB2.out HN2.out).mono ?_
      rintro e w3 h3
      obtain ⟨A3, c3, rfl, hl3, hb3⟩ := h3.is rfl
      have HN3 := Lib.hid hl3
      have HB3 := Lib.hid (Below.after HB2.out hb3)
      clear hl3 hb3 h3 s0 s1 s2
      go_wp2_with fail
      exact bodyPost_ret (v := .tuple #[.slice A3 (flat (withT s.name y t)).length c3, .int .i64 0]) (by simp [results, Tryz.results39, go_sem]) rfl ⟨A3, _, c3, rfl, by rw [HFIN.out]; exact HN3.out, HB3.out⟩
     ·refine (HIH.out _ w1 HB1.out HN1.out).mono ?_
      rintro e w2 ⟨A2, m2, c2, rfl, hn2, hb2⟩
      have HN2 := Lib.hid hn2
      have HB2 := Lib.hid (Below.after HB1.out hb2)
      obtain ⟨s0, s1, s2⟩ := HZ.out w2 HB2.out
      rw [HPT.out] at s0
      clear hn2 hb2 HN1 HB1
      go_wp2_with fail
      refine (HW.out w2 _ HB2.out HN2.out).mono ?_
      rintro e w3 h3
      obtain ⟨A3, c3, rfl, hl3, hb3⟩ := h3.is rfl
      have HN3 := Lib.hid hl3
      have HB3 := Lib.hid (Below.after HB2.out hb3)
      clear hl3 hb3 h3 s0 s1 s2
      go_wp2_with fail
      exact bodyPost_ret (v := .tuple #[.slice A3 (flat (withT s.name y t)).length c3, .int .i64 0]) (by simp [results, Tryz.results39, go_sem]) rfl ⟨A3, _, c3, rfl, by rw [HFIN.out]; exact HN3.out, HB3.out⟩
    | true =>
     have hk5 : t.nd.kind = 5 := by rw [hkind]; simp [stKind, hpt]
     obtain ⟨N, hN⟩ : ∃ N : Nat, s.n = N := by
      unfold rightS at hs1
      rw [hpt] at hs1
      simp only [if_true, Bool.and_eq_true, decide_eq_true_eq] at hs1
      exact ⟨s.n.toNat, by omega⟩
     have hkN : k = N := by
      rw [kid_part hpt hN, if_pos hk5] at hk
      split at hk
      ·exact (Option.some.inj hk).symm
      ·cases hk
     subst hkN
     have hks : t.ks.length ≤ 200 := by
      have h3 := flats_len t.ks
      have h4 := congrArg List.length (flat_eq t)
      rw [List.length_cons] at h4
      omega
     have HFIN : Hid (R = hdN 5 (((t.ks.map fun u => flat (nmd [] u)).set k (flat y)).length) :: ((t.ks.map fun u => flat (nmd [] u)).set k (flat y)).flatten) := Lib.hid (by rw [HPC.out, hpt]; rfl)
     have HPA := Lib.hid (fun W (hb : Below w.heap.size w W) => refParts_own (.slice VA (flat t).length vc) t W (HV.out.below hb) (by omega) ht)
     have HLL : Hid (((t.ks.map fun u => flat (nmd [] u)).set k (flat y)).length ≤ 65536 ∧ (((t.ks.map fun u => flat (nmd [] u)).set k (flat y)).map List.length).sum ≤ 131072) := Lib.hid ⟨by rw [List.length_set, List.length_map]; omega, by
      have h5 : ∀ (L : List (List Nd)), (L.map List.length).sum = L.flatten.length := by intro L; rw [List.length_flatten]
      rw [h5]
      have h6 := congrArg List.length (list_set (y := y) (k := k) ht hk5)
      rw [List.length_cons, flat_mk, List.length_cons] at h6
      have h7 : (flats (t.ks.set k y)).length ≤ (flats t.ks).length + (flat y).length := by
       rw [flats_put y hu']
       have := congrArg List.length (flats_split hu')
       simp only [List.length_append] at this ⊢
       omega
      have h8 := congrArg List.length (flat_eq t)
      rw [List.length_cons] at h8
      have := HYL.out
      omega⟩
     have hc1 : 1 ≤ c := by omega
     have HKL := Lib.hid hkl
     have HPT := Lib.hid hpt
     have HN := Lib.hid hN
     clear hpt hN
     clear hsh hnm hu hu' hlead hkind hk hshu huv hul hu2 hyv hyl HPC hs1 hs2 h1 h2 he hf HPI HTA HTB
     go_enter Tryz.func39, Tryz.ntmps39
     go_wp2_with fail
     refine HP.out.mono ?_
     rintro e w1 ⟨A1, m1, c1, rfl, hn1, hb1⟩
     have HN1 := Lib.hid hn1
     have HB1 := Lib.hid hb1
     clear hn1 hb1 z0 z1 z2
     go_wp2_with fail
     ·refine (HIB.out (by assumption) _ w1 HB1.out HN1.out).mono ?_
      rintro e w2 ⟨A2, m2, c2, rfl, hn2, hb2⟩
      have HN2 := Lib.hid hn2
      have HB2 := Lib.hid (Below.after HB1.out hb2)
      obtain ⟨s0, s1, s2⟩ := HZ.out w2 HB2.out
      rw [HPT.out] at s0
      clear hn2 hb2 HN1 HB1
      go_wp2_with fail
      refine (HPA.out w2 HB2.out).mono ?_
      rintro e w3 ⟨v3, zs, rfl, ho3, he3, hb3⟩
      clear s0 s1 s2
      have hzl : zs.length = t.ks.length := by rw [he3.1, List.length_map]
      obtain ⟨g3, cap3, hv3, hg3, hg3l⟩ := ho3.opened (by have := HKL.out; omega)
      subst hv3
      have HO3 := Lib.hid ho3
      have HE3 := Lib.hid he3
      have HB3 := Lib.hid (Below.after HB2.out hb3)
      have HB23 := Lib.hid hb3
      obtain ⟨s0, s1, s2⟩ := HZ.out w3 HB3.out
      rw [HN.out] at s2
      have hkz : k < zs.length := by have := HKL.out; omega
      have q0 := Own.cell slc_len (j := 0) ho3 (List.getElem?_eq_getElem hkz) (show (slc zs[k])[0]? = some (.slice zs[k].1 zs[k].2.1 zs[k].2.2) from rfl)
      rw [Nat.mul_one, Nat.add_zero] at q0
      have qf := ho3.free k
      have hkc : k < cap3 := by have := ho3.cap; omega
      clear ho3 he3 hb3
      go_wp2_with fail
      have hvl := elems_put HO3.out HE3.out hkz (fun W' hb' => HN2.out.below (HB23.out.trans hb'))
      rw [hzl] at hvl
      have HB4 : Hid (Below w.heap.size w (w3.setCell ⟨g3, k, none⟩ (.slice A2 m2 c2))) := Lib.hid (HB3.out.setCell (Nat.le_trans HB2.out.size hg3) _)
      have hLs := refList_any _ _ _ hvl HLL.out.1 HLL.out.2
      rw [← HFIN.out] at hLs
      clear hvl s0 s1 s2 q0 qf
      generalize w3.setCell ⟨g3, k, none⟩ (.slice A2 m2 c2) = w4 at *
      refine hLs.mono ?_
      rintro e w5 h5
      obtain ⟨A5, c5, rfl, hl5, hb5⟩ := h5.is rfl
      have HN5 := Lib.hid hl5
      have HB5 := Lib.hid (Below.after HB4.out hb5)
      clear hLs h5 hl5 hb5
      go_wp2_with fail
      exact bodyPost_ret (v := .tuple #[.slice A5 R.length c5, .int .i64 0]) (by simp [results, Tryz.results39, go_sem]) rfl ⟨A5, _, c5, rfl, HN5.out, HB5.out⟩
     ·refine (HIH.out _ w1 HB1.out HN1.out).mono ?_
      rintro e w2 ⟨A2, m2, c2, rfl, hn2, hb2⟩
      have HN2 := Lib.hid hn2
      have HB2 := Lib.hid (Below.after HB1.out hb2)
      obtain ⟨s0, s1, s2⟩ := HZ.out w2 HB2.out
      rw [HPT.out] at s0
      clear hn2 hb2 HN1 HB1
      go_wp2_with fail
      refine (HPA.out w2 HB2.out).mono ?_
      rintro e w3 ⟨v3, zs, rfl, ho3, he3, hb3⟩
      clear s0 s1 s2
      have hzl : zs.length = t.ks.length := by rw [he3.1, List.length_map]
      obtain ⟨g3, cap3, hv3, hg3, hg3l⟩ := ho3.opened (by have := HKL.out; omega)
      subst hv3
      have HO3 := Lib.hid ho3
      have HE3 := Lib.hid he3
      have HB3 := Lib.hid (Below.after HB2.out hb3)
      have HB23 := Lib.hid hb3
      obtain ⟨s0, s1, s2⟩ := HZ.out w3 HB3.out
      rw [HN.out] at s2
      have hkz : k < zs.length := by have := HKL.out; omega
      have q0 := Own.cell slc_len (j := 0) ho3 (List.getElem?_eq_getElem hkz) (show (slc zs[k])[0]? = some (.slice zs[k].1 zs[k].2.1 zs[k].2.2) from rfl)
      rw [Nat.mul_one, Nat.add_zero] at q0
      have qf := ho3.free k
      have hkc : k < cap3 := by have := ho3.cap; omega
      clear ho3 he3 hb3
      go_wp2_with fail
      have hvl := elems_put HO3.out HE3.out hkz (fun W' hb' => HN2.out.below (HB23.out.trans hb'))
      rw [hzl] at hvl
      have HB4 : Hid (Below w.heap.size w (w3.setCell ⟨g3, k, none⟩ (.slice A2 m2 c2))) := Lib.hid (HB3.out.setCell (Nat.le_trans HB2.out.size hg3) _)
      have hLs := refList_any _ _ _ hvl HLL.out.1 HLL.out.2
      rw [← HFIN.out] at hLs
      clear hvl s0 s1 s2 q0 qf
      generalize w3.setCell ⟨g3, k, none⟩ (.slice A2 m2 c2) = w4 at *
      refine hLs.mono ?_
      rintro e w5 h5
      obtain ⟨A5, c5, rfl, hl5, hb5⟩ := h5.is rfl
      have HN5 := Lib.hid hl5
      have HB5 := Lib.hid (Below.after HB4.out hb5)
      clear hLs h5 hl5 hb5
      go_wp2_with fail
      exact bodyPost_ret (v := .tuple #[.slice A5 R.length c5, .int .i64 0]) (by simp [results, Tryz.results39, go_sem]) rfl ⟨A5, _, c5, rfl, HN5.out, HB5.out⟩
   ·have HR : Hid (putP (s :: p) t x = []) := Lib.hid (put_none (by rw [h2]; exact hf))
    have HR2 := Lib.hid (put_none (x := x) hf)
    obtain ⟨E, hE⟩ : ∃ E, errP p (nmd [] u) = E := ⟨_, rfl⟩
    rw [hE] at hf HIH HIB ⊢
    rw [HR2.out] at HIH HIB
    have he2 : (!E == 0) = true := by simpa using hf
    generalize putP (s :: p) t x = R at *
    have hc1 : 1 ≤ c := by omega
    clear hsh hnm hu hu' hlead hkl hkind hk hshu huv hul hs1 hs2 h1 h2 he hE HTA HTB
    go_enter Tryz.func39, Tryz.ntmps39
    go_wp2_with fail
    refine HP.out.mono ?_
    rintro e w1 ⟨A1, m1, c1, rfl, hn1, hb1⟩
    have HN1 := Lib.hid hn1
    have HB1 := Lib.hid hb1
    clear hn1 hb1 z0 z1 z2
    go_wp2_with fail
    ·refine (HIB.out (by assumption) _ w1 HB1.out HN1.out).mono ?_
     rintro e w2 ⟨A2, m2, c2, rfl, hn2, hb2⟩
     have HB2 := Lib.hid (Below.after HB1.out hb2)
     clear hn2 hb2 HN1 HB1
     go_wp2_with fail
     exact bodyPost_ret (v := .tuple #[.slice none 0 0, .int .i64 E]) (by simp [results, Tryz.results39, go_sem]) rfl ⟨none, 0, 0, rfl, by rw [HR.out]; exact Row.nil _, HB2.out⟩
    ·refine (HIH.out _ w1 HB1.out HN1.out).mono ?_
     rintro e w2 ⟨A2, m2, c2, rfl, hn2, hb2⟩
     have HB2 := Lib.hid (Below.after HB1.out hb2)
     clear hn2 hb2 HN1 HB1
     go_wp2_with fail
     exact bodyPost_ret (v := .tuple #[.slice none 0 0, .int .i64 E]) (by simp [results, Tryz.results39, go_sem]) rfl ⟨none, 0, 0, rfl, by rw [HR.out]; exact Row.nil _, HB2.out⟩
  ·obtain ⟨h1, h2⟩ := got_cons_bad (q := p) he
   obtain ⟨E, hE⟩ : ∃ E, errP [s] t = E := ⟨_, rfl⟩
   have HR : Hid (putP (s :: p) t x = []) := Lib.hid (put_none (by rw [h2]; exact he))
   rw [h2, hE]
   rw [hE] at he HP
   have he2 : (!E == 0) = true := by simpa using he
   generalize putP (s :: p) t x = R at *
   clear h1 h2 hE hsh hnm
   go_enter Tryz.func39, Tryz.ntmps39
   go_wp2_with fail
   refine HP.out.mono ?_
   rintro e w1 ⟨A1, m1, c1, rfl, hn1, hb1⟩
   have HB1 := Lib.hid hb1
   clear hn1 hb1 z0 z1 z2
   go_wp2_with fail
   exact bodyPost_ret (v := .tuple #[.slice none 0 0, .int .i64 E]) (by simp [results, Tryz.results39, go_sem]) rfl ⟨none, 0, 0, rfl, by rw [HR.out]; exact Row.nil _, HB1.out⟩
termination_by p => p.length
end
section
open Go.RowKit Np Rw Vp Up Qp Pw Ev
theorem cut_null {s : St} {p : List St} {t : Tr Nd} (h : t.nd.kind = 0) : cutE (s :: p) t = some t := by
 rw [cutE_cons, kid_null h, if_pos (by simp [asks, h])]
theorem cut_bad {s : St} {p : List St} {t : Tr Nd} (h : t.nd.kind ≠ 0) (h2 : t.nd.kind ≠ stKind s) : cutE (s :: p) t = none := by
 rw [cutE_cons, if_neg (by simp [asks, h, h2])]
theorem cut_kind {s : St} {p : List St} {t : Tr Nd} (h : t.nd.kind = stKind s) : cutE (s :: p) t = match Pw.kid s t with
   | none => some t
   | some k => if p = [] then some (withK t (t.ks.eraseIdx k)) else
    match cutE p (t.ks.getD k nullT) with
    | none => none
    | some y => some (withK t (t.ks.set k y)) := by
 rw [cutE_cons, if_pos (by simp [asks, h])]
 rfl
theorem cut_nmd (s : St) (p : List St) (nm : List UInt8) (t : Tr Nd) : cutE (s :: p) (nmd nm t) = (cutE (s :: p) t).map (nmd nm) := by
 rw [cutE_cons, cutE_cons]
 have e1 : asks s (nmd nm t) = asks s t := rfl
 have e2 : Pw.kid s (nmd nm t) = Pw.kid s t := rfl
 have e3 : (nmd nm t).ks = t.ks := rfl
 rw [e1, e2, e3]
 split
 ·cases Pw.kid s t with
  | none => rfl
  | some k =>
   simp only
   split
   ·rfl
   ·cases cutE p (t.ks.getD k nullT) <;> rfl
 ·rfl
theorem withK_set {t : Tr Nd} {k : Nat} {y : Tr Nd} (ht : Val t) : withK t (t.ks.set k y) = .mk t.nd (t.ks.set k y) := by
 have h1 := withK_self ht.ok
 have h2 : t.nd.many = t.ks.length := (okT_eq.1 ht.ok).1
 unfold withK
 rw [List.length_set, ← h2]
theorem put_one {s : St} {t y : Tr Nd} {k : Nat} (hk : Pw.kid s t = some k) (ht : Val t) (hy : y.nd.name = (t.ks.getD k nullT).nd.name) : errP [s] t = 0 ∧ putP [s] t (nmd [] y) = flat (withK t (t.ks.set k y)) := by
 obtain ⟨hl, hkind, -⟩ := kid_lt hk
 have he : errP [s] t = 0 := by rw [err_one, if_neg (by rw [hkind]; simp), hk]
 have hgd : t.ks.getD k t = t.ks.getD k nullT := by simp [List.getD, List.getElem?_eq_getElem hl]
 refine ⟨he, ?_⟩
 unfold putP
 rw [if_pos he, setP, hk]
 simp only
 rw [setP, hgd, ← hy, withK_set ht]
 have : nmd y.nd.name (nmd [] y) = y := by
  obtain ⟨n, ks⟩ := y
  rfl
 rw [this]
theorem map_erase {α β : Type} (f : α → β) : ∀ (l : List α) (k : Nat), (l.map f).eraseIdx k = (l.eraseIdx k).map f
 | [], k => by simp
 | x :: l, 0 => by simp
 | x :: l, k + 1 => by simp [map_erase f l k]
theorem erase_mid {α : Type} (e : α) : ∀ (a b : List α), (a ++ (e :: b)).eraseIdx a.length = a ++ b
 | [], b => rfl
 | x :: a, b => by simp [erase_mid e a b]
theorem kid_down {s : St} {t : Tr Nd} {k : Nat} (hk : Pw.kid s t = some k) (ht : Val t) (hsh : Short (flat t)) : (flat (nmd [] (t.ks.getD k nullT))).length ≤ (flat t).length ∧ Val (nmd [] (t.ks.getD k nullT)) ∧ Short (flat (nmd [] (t.ks.getD k nullT))) := by
 obtain ⟨hl, hkind, -⟩ := kid_lt hk
 have hst : stepE s t = some (nmd [] (t.ks.getD k nullT)) := by rw [step_kind hkind, hk]
 have hgd : t.ks.getD k t = t.ks.getD k nullT := by simp [List.getD, List.getElem?_eq_getElem hl]
 have hsub : subP [s] t = some (t.ks.getD k nullT) := by
  rw [subP, hk]; simp only; rw [hgd]; rfl
 refine ⟨step_len hst, step_val (rgt_of ht) hst, ?_⟩
 obtain ⟨pre, post, h3, -, -⟩ := row_at [s] t _ hsub
 rw [h3] at hsh
 exact short_nmd (by unfold maxLen; simp) (fun n hn => hsh n (List.mem_append_left _ (List.mem_append_right _ hn)))
theorem list_erase {t : Tr Nd} {k : Nat} (ht : Val t) (hk : t.nd.kind = 5) : hdN 5 (((t.ks.map fun u => flat (nmd [] u)).eraseIdx k).length) :: ((t.ks.map fun u => flat (nmd [] u)).eraseIdx k).flatten = flat (withK t (t.ks.eraseIdx k)) := by
 have h1 := ht.arr hk
 have hnd : t.nd = hdN 5 t.ks.length := by
  conv => lhs; rw [h1]
  rfl
 have hp : t.ks.map (fun u => flat (nmd [] u)) = t.ks.map flat := by
  apply List.map_congr_left
  intro u hu
  have h0 := nmd_self u
  rw [ht.unnamed hk u hu] at h0
  rw [h0]
 have hw : withK t (t.ks.eraseIdx k) = .mk (hdN 5 (t.ks.eraseIdx k).length) (t.ks.eraseIdx k) := by
  unfold withK
  rw [hnd]
  rfl
 rw [hp, hw, flat_mk, map_erase, List.length_map, flats_map]
theorem obj_erase {t : Tr Nd} {k : Nat} {s : St} {u : Tr Nd} (ht : Val t) (hk : t.nd.kind = 6) (hu : t.ks[k]? = some u) (hn : u.nd.name = s.name) : lessT s.name t = withK t (t.ks.eraseIdx k) := by
 have hc := ht.cut hk s.name
 have h1 := ht.obj hk
 have hnd : t.nd = hdN 6 t.ks.length := by
  conv => lhs; rw [h1]
  rfl
 have hw : withK t (t.ks.eraseIdx k) = objT (t.ks.eraseIdx k) := by
  unfold withK objT
  rw [hnd]
  rfl
 rw [hw]
 have hall := hc.all
 have hlt : ∀ {a b : List UInt8}, a < b → ¬ a = b := fun h1 h2 => List.lt_irrefl _ (h2 ▸ h1)
 have hkl := (List.getElem?_eq_some_iff.1 hu).1
 obtain ⟨hlo, hhi⟩ : ¬ k < (loT s.name t.ks).length ∧ ¬ (loT s.name t.ks).length + (eqT s.name t.ks).length ≤ k := by
  constructor
  ·intro h
   rw [hall, List.getElem?_append_left h] at hu
   exact hlt (hc.lo u (List.mem_of_getElem? hu)) hn
  ·intro h
   rw [hall, List.getElem?_append_right (by omega), List.getElem?_append_right (by omega)] at hu
   exact hlt (hc.hi u (List.mem_of_getElem? hu)) hn.symm
 have hone := hc.one
 have hkk : k = (loT s.name t.ks).length := by omega
 have hel : (eqT s.name t.ks).length = 1 := by omega
 obtain ⟨e, he⟩ : ∃ e, eqT s.name t.ks = [e] := by
  match hm : eqT s.name t.ks, hel with
  | [e], _ => exact ⟨e, rfl⟩
 have hset : t.ks.eraseIdx k = loT s.name t.ks ++ ([] ++ hiT s.name t.ks) := by
  conv => lhs; rw [hall, he, hkk]
  exact erase_mid e _ _
 rw [hset]
 rfl
end
end Go.Proofs.YtldioobbfkaebaaGreatDoor
