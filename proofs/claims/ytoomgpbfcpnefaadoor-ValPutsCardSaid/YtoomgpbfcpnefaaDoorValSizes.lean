/-
  The walk of the statement ValSizes: it returns true.
-/
import Derived.Test.YtoomgpbfcpnefaaDoorValBack
import Derived.Test.YtoomgpbfcpnefaaDoorValW13
namespace Go.Proofs.YtoomgpbfcpnefaaDoor
open Go.RowKit Np Rw Vp

theorem midT_obj {nm : List UInt8} {t : Tr Nd} (hk : t.nd.kind = 6) : midT nm t = eqT nm t.ks := by rw [midT, if_pos hk]; rfl
/-- What is found of a name: nothing, or a part. -/
theorem field_cases {nm : List UInt8} {t : Tr Nd} (h : Val t) (hk : t.nd.kind = 6) : (eqT nm t.ks = [] ∧ fieldV nm t = [] ∧ fieldB nm t = false) ∨ ∃ u, u ∈ t.ks ∧ eqT nm t.ks = [u] ∧ fieldV nm t = flat (nmd [] u) ∧ fieldB nm t = true := by
  rcases eq_cases h hk nm with he | ⟨u, he, hu⟩
  · exact .inl ⟨he, by rw [fieldV, midT_obj hk, he], by rw [fieldB, midT_obj hk, he]; rfl⟩
  · exact .inr ⟨u, hu, he, by rw [fieldV, midT_obj hk, he], by rw [fieldB, midT_obj hk, he]; rfl⟩
theorem field_len {nm : List UInt8} {t : Tr Nd} (h : Val t) (hk : t.nd.kind = 6) : (fieldV nm t).length = (flats (eqT nm t.ks)).length := by
  rcases field_cases h hk (nm := nm) with ⟨h1, h2, -⟩ | ⟨u, -, h1, h2, -⟩
  · rw [h1, h2]; rfl
  · rw [h1, h2, flat_nmd_len]; simp
theorem OwnsN.own' {w w' : World} {l : List Nd} {e : Ending} (h : OwnsN w l e w') : IsN w l l.length e w' := h.is rfl

set_option maxRecDepth 100000 in
set_option maxHeartbeats 4000000 in
theorem valSizes_list (u v : Value) (L : List (List Nd)) (l0 : List Nd) (nm : List UInt8) (w : World) (hu : Vls w u L) (hv : Nds w v l0) (hT : Tabs w) (hb1 : L.length ≤ 140737488355328) (hb2 : ∀ l ∈ L, l.length ≤ 140737488355328) (hs : nm.length ≤ maxLen) :
    Calls Tryd.prog 9 #[u, v, .string ⟨nm.toArray⟩] w fun e w' => e = .returned (.bool true) ∧ Below w.heap.size w w' := by
  have HT := Lib.hid hT
  have HAL := Lib.hid (fun (W : World) (hb : Below w.heap.size w W) => (alive_any W (HT.out.below hb)).mono fun (e : Ending) w' (h : e = .returned (.bool true) ∧ Below W.heap.size W w') => (⟨h.1, Below.after hb h.2⟩ : e = .returned (.bool true) ∧ Below w.heap.size w w'))
  have HFEW := Lib.hid (fun (W : World) (hb : Below w.heap.size w W) => refFew_any v l0 60 W (hv.below hb) (by decide))
  have HALL := Lib.hid (refAll_any u L 60 w hu (by decide) hb1 hb2)
  have HUTF := Lib.hid (fun (W : World) => (refUtf_any ⟨nm.toArray⟩ W hs).mono fun (e : Ending) w' (h : e = .returned (.bool (Lib.validD (ByteArray.mk nm.toArray).data.toList)) ∧ W = w') => (h : e = .returned (.bool (vld nm)) ∧ W = w'))
  have HV := Lib.hid hv
  have HU := Lib.hid hu
  clear hT hu hb1 hb2 hs
  cases hall : allFew 60 L with
  | false =>
    have HA := Lib.hid hall
    obtain ⟨us, -, ⟨A2, c2, rfl, -⟩, -⟩ := HU.out
    obtain ⟨A, c, rfl, -⟩ := hv
    clear hall
    generalize us.length = m at *
    generalize l0.length = n at *
    go_enter Tryd.func9, Tryd.ntmps9
    go_wp2_with (first | (go_at_call 23; refine HALL.out.mono ?_; rintro e w1 ⟨rfl, hb0⟩; rw [HA.out]) | (go_at_call 10; refine (HAL.out _ hb0).mono ?_; rintro e w2 ⟨rfl, hb1⟩))
    go_ret
    exact ⟨rfl, hb1⟩
  | true =>
    have HA := Lib.hid hall
    cases hf : few 60 l0 with
    | false =>
      have HF := Lib.hid hf
      obtain ⟨us, -, ⟨A2, c2, rfl, -⟩, -⟩ := HU.out
      obtain ⟨A, c, rfl, -⟩ := hv
      clear hf hall
      generalize us.length = m at *
      generalize l0.length = n at *
      go_enter Tryd.func9, Tryd.ntmps9
      go_wp2_with (first | (go_at_call 23; refine HALL.out.mono ?_; rintro e w1 ⟨rfl, hb0⟩; rw [HA.out]) | (go_at_call 28; refine (HFEW.out _ hb0).mono ?_; rintro e w2 ⟨rfl, hb1⟩; rw [HF.out]; have HB1 := Lib.hid (Below.after hb0 hb1); clear hb0 hb1) | (go_at_call 10; refine (HAL.out _ HB1.out).mono ?_; rintro e w3 ⟨rfl, hb3⟩))
      go_ret
      exact ⟨rfl, hb3⟩
    | true =>
      have HF := Lib.hid hf
      obtain ⟨hl60, hsh, hr0⟩ := few_all hf
      obtain ⟨hsum, hfew⟩ := allFew_all hall
      clear hf hall
      obtain ⟨t, ht, rfl⟩ := val_of_rightL hr0
      have hL60 : L.length ≤ 60 := by unfold sumL at hsum; omega
      have hS60 : (L.map List.length).sum ≤ 60 := by unfold sumL at hsum; omega
      have HLS := Lib.hid (⟨hL60, hS60, hl60⟩ : L.length ≤ 60 ∧ (L.map List.length).sum ≤ 60 ∧ (flat t).length ≤ 60)
      have HT0 := Lib.hid ht
      have HSH := Lib.hid hsh
      obtain ⟨zs, hels, hrow⟩ := vls_els HU.out
      have HE := Lib.hid hels
      have hzl := hels.1
      obtain ⟨A2, c2, rfl, hc2, hcm2, -, H2⟩ := hrow
      rw [hzl] at H2 HU HALL hc2 ⊢
      have HH2 := Lib.hid H2
      have hvo := hv
      obtain ⟨g, o, c, rfl, hc, hcm, hg, hx⟩ := hvo.opened (flat_pos t)
      have a0 : w.cell? ⟨g, o, none⟩ = some (.int .i64 t.nd.kind) := by
        have := (hx 0 t.nd (by rw [flat_eq]; rfl)).nd.c0
        simpa using this
      have hpos := flat_pos t
      clear hx hv hvo hels hsum hfew hsh hr0 hS60 hzl H2
      have HFL : Hid ((flat t).length = (flat t).length) := Lib.hid rfl
      generalize hn : (flat t).length = n at hl60 hc hpos HV HFEW ⊢
      have HN := Lib.hid hn; clear hn HFL
      generalize hm : L.length = m at *
      have HM := Lib.hid hm; clear hm
      by_cases hk : t.nd.kind = 6
      · rw [hk] at a0
        have HK := Lib.hid hk
        clear hk
        cases hvl : vld nm with
        | false =>
          have HVL : Hid (Lib.validD nm = false) := Lib.hid hvl
          clear hvl
          go_enter Tryd.func9, Tryd.ntmps9
          go_wp2_with (first | (go_at_call 23; refine HALL.out.mono ?_; rintro e w1 ⟨rfl, hb0⟩; rw [HA.out]) | (go_at_call 28; refine (HFEW.out _ hb0).mono ?_; rintro e w2 ⟨rfl, hb1⟩; rw [HF.out]; have HB1 := Lib.hid (Below.after hb0 hb1); have a1 := (HB1.out.cell (p := ⟨g, o, none⟩) hg).trans a0; clear hb0 hb1) | (go_at_call 31; refine (HUTF.out _).mono ?_; rintro e w' ⟨rfl, rfl⟩; rw [HVL.out]) | (go_at_call 10; refine (HAL.out _ HB1.out).mono ?_; rintro e w3 ⟨rfl, hb3⟩))
          go_ret
          exact ⟨rfl, hb3⟩
        | true =>
          have HVL : Hid (Lib.validD nm = true) := Lib.hid hvl
          clear hvl
          have HFC := Lib.hid (field_cases HT0.out HK.out (nm := nm))
          have HFL := Lib.hid (field_len HT0.out HK.out (nm := nm))
          have HLP := Lib.hid (len_parts HT0.out HK.out nm)
          have HWV := Lib.hid (val_put HT0.out HK.out HT0.out HVL.out)
          go_enter Tryd.func9, Tryd.ntmps9
          go_wp2_with (first | (go_at_call 23; refine HALL.out.mono ?_; rintro e w1 ⟨rfl, hb0⟩; rw [HA.out]) | (go_at_call 28; refine (HFEW.out _ hb0).mono ?_; rintro e w2 ⟨rfl, hb1⟩; rw [HF.out]; have HB1 := Lib.hid (Below.after hb0 hb1); have a1 := (HB1.out.cell (p := ⟨g, o, none⟩) hg).trans a0; clear hb0 hb1) | (go_at_call 31; refine (HUTF.out _).mono ?_; rintro e w' ⟨rfl, rfl⟩; rw [HVL.out]))
          clear a1
          go_loopw [7, 8] (fun nn i wr => ∃ k q : Nat, k ≤ m ∧ i = .int .i64 k ∧ nn = .int .i64 (q : Nat) ∧ q = 1 + ((L.take k).map List.length).sum ∧ q ≤ 61 ∧ wr = w2) (fun _ i _ => m - (intOf i).toNat)
          case atStart => exact ⟨0, 1, Nat.zero_le _, rfl, rfl, rfl, by omega, rfl⟩
          case round =>
            obtain ⟨k, q, hk, rfl, rfl, hq, hqb, rfl⟩ := hrel
            have HQ := Lib.hid hq
            clear hq
            by_cases hlt : k < m
            · obtain ⟨g2, o2, rfl, hg2, hx2⟩ := HH2.out (by omega)
              obtain ⟨z, hz⟩ : ∃ a, zs[k]? = some a := ⟨_, List.getElem?_eq_getElem (by rw [HE.out.1, HM.out]; exact hlt)⟩
              obtain ⟨a, ha⟩ : ∃ a, L[k]? = some a := ⟨_, List.getElem?_eq_getElem (by rw [HM.out]; exact hlt)⟩
              have b0 := (HB1.out.cell (p := ⟨g2, o2 + k, none⟩) hg2).trans (hx2 k z hz).one
              have hzz : z.2.1 = a.length := by
                obtain ⟨A', c', hv', -⟩ := HE.out.2 k z a hz ha
                injection hv' with _ e2 _
              have HQ2 : Hid (q + a.length = 1 + ((L.take (k + 1)).map List.length).sum) := Lib.hid (by rw [sum_take ha, HQ.out]; omega)
              have hqa : q + a.length ≤ 61 := by have := sum_take_le L (k + 1); have := HLS.out.2.1; rw [HQ2.out]; omega
              rw [hzz] at b0
              clear ha hz hx2 hzz
              go_wp2_with fail
              go_roundw
              case rel => exact ⟨k + 1, q + a.length, by omega, by go_num, by go_num, HQ2.out, by omega, by simp⟩
              case measure => simp [intOf]; omega
            · obtain ⟨wo, rfl⟩ : ∃ wo : World, wo = wr := ⟨_, rfl⟩
              obtain rfl : k = m := by omega
              obtain ⟨F, hF⟩ : ∃ F, (fieldV nm t).length = F := ⟨_, rfl⟩
              obtain ⟨Ls, hLs⟩ : ∃ F, (flat (lessT nm t)).length = F := ⟨_, rfl⟩
              obtain ⟨Wn, hWn⟩ : ∃ F, (flat (withT nm t t)).length = F := ⟨_, rfl⟩
              have hsum1 : Ls + F = n := by
                have h1 := HLP.out; have h2 := HFL.out; have h3 := len_less nm t; have h4 := HN.out
                omega
              have hsum2 : Wn = Ls + n := by
                have h3 := len_less nm t; have h4 := HN.out; have h5 := len_with nm t t
                omega
              have hFB : fieldB nm t = decide (0 < F) := by
                rcases HFC.out with ⟨-, h2, h3⟩ | ⟨u, -, -, h2, h3⟩
                · rw [h3, ← hF, h2]; rfl
                · rw [h3, ← hF, h2]; have := flat_pos (nmd [] u); simp [this]
              have HFF := Lib.hid hF
              have HLS2 := Lib.hid hLs
              have HWN := Lib.hid hWn
              have HFB := Lib.hid hFB
              obtain ⟨nk, hnk⟩ : ∃ nk, (withT nm t t).ks.length = nk := ⟨_, rfl⟩
              have hnk0 : 0 < nk := by rw [← hnk]; simp [withT, objT]; omega
              have hnk1 : nk ≤ 65536 := by
                have h1 := flats_len (withT nm t t).ks
                have h2 := hWn
                rw [flat_eq] at h2
                simp at h2
                omega
              have HNK := Lib.hid hnk
              have HNT : Hid (namesT (withT nm t t) = (withT nm t t).ks.map fun k => k.nd.name) := Lib.hid (by rw [namesT, if_pos (show (withT nm t t).nd.kind = 6 from rfl)])
              have HRI : Hid (((withT nm t t).ks.map fun k => k.nd.name).Pairwise (· < ·)) := Lib.hid (List.pairwise_map.2 (HWV.out.named rfl).1)
              have HQ1 : Hid (q = 1 + (L.map List.length).sum) := Lib.hid (by rw [HQ.out, List.take_of_length_le (by rw [HM.out]; exact Nat.le_refl _)])
              have HSUM := Lib.hid (⟨hsum1, hsum2⟩ : Ls + F = n ∧ Wn = Ls + n)
              have hLs60 : Ls ≤ 60 := by omega
              have hF60 : F ≤ 60 := by omega
              have hWn60 : Wn ≤ 120 := by omega
              clear hF hLs hWn hFB hnk hsum1 hsum2
              go_wp2_with fail
              have hFd := field_any _ t nm wo (HV.out.below HB1.out) (by rw [HN.out]; omega) HT0.out
              refine hFd.mono ?_
              rintro e w3 h3
              obtain ⟨A3, c3, h3e, -, hb3⟩ := h3.is HFF.out
              rw [HFB.out] at h3e
              subst h3e
              have HB3 := Lib.hid (Below.after HB1.out hb3)
              clear hFd h3 hb3
              go_wp2_with fail
              have hWo := withoutV_any _ t nm w3 (HV.out.below HB3.out) (by rw [HN.out]; omega) HT0.out HK.out
              refine hWo.mono ?_
              rintro e w4 h4
              obtain ⟨A4, c4, rfl, -, hb4⟩ := h4.is HLS2.out
              have HB4 := Lib.hid (Below.after HB3.out hb4)
              clear hWo h4 hb4
              go_wp2_with fail
              have hWi := withV_any _ _ t t nm w4 (HV.out.below HB4.out) (HV.out.below HB4.out) (by rw [HN.out]; omega) (by rw [HN.out]; omega) HT0.out HK.out
              refine hWi.mono ?_
              rintro e w5 h5
              obtain ⟨A5, c5, rfl, hw5, hb5⟩ := h5.is HWN.out
              have HW5 := Lib.hid hw5
              have HB5 := Lib.hid (Below.after HB4.out hb5)
              clear hWi h5 hb5 hw5
              go_wp2_with fail
              have hNm := names_any _ (withT nm t t) w5 HW5.out (by rw [HWN.out]; omega) HWV.out
              rw [HNT.out] at hNm
              refine hNm.mono ?_
              rintro e w6 h6
              obtain ⟨A6, c6, rfl, hn6, hb6⟩ := h6.is (n := nk) (by rw [List.length_map]; exact HNK.out)
              have HB6 := Lib.hid (Below.after HB5.out hb6)
              obtain ⟨g6, o6, c6', hv6, hc6, hcm6, hg6, hx6⟩ := hn6.opened (by rw [List.length_map, HNK.out]; exact hnk0)
              injection hv6 with e1 e2 e3
              subst e1 e3
              rw [List.length_map, HNK.out] at hc6
              have HX6 := Lib.hid hx6
              clear hNm h6 hb6 hn6 hx6 e2
              go_wp2_with fail
              go_loopw [13] (fun i wr => ∃ k : Nat, 1 ≤ k ∧ k ≤ nk ∧ i = .int .i64 k ∧ Below w6.heap.size w6 wr) (fun i _ => nk - (intOf i).toNat)
              case atStart => exact ⟨1, Nat.le_refl _, by omega, rfl, Below.refl _ _⟩
              case round =>
                obtain ⟨k, hk1, hk2, rfl, hb⟩ := hrel
                by_cases hlt3 : k < nk
                · obtain ⟨j, rfl⟩ : ∃ j, k = j + 1 := ⟨k - 1, by omega⟩
                  obtain ⟨na, hna⟩ : ∃ a, ((withT nm t t).ks.map fun k => k.nd.name)[j]? = some a := ⟨_, List.getElem?_eq_getElem (by rw [List.length_map, HNK.out]; omega)⟩
                  obtain ⟨nb, hnb⟩ : ∃ a, ((withT nm t t).ks.map fun k => k.nd.name)[j + 1]? = some a := ⟨_, List.getElem?_eq_getElem (by rw [List.length_map, HNK.out]; omega)⟩
                  have b0 := (hb.cell (p := ⟨g6, o6 + j, none⟩) hg6).trans (HX6.out j na hna).st
                  have b1 := (hb.cell (p := ⟨g6, o6 + (j + 1), none⟩) hg6).trans (HX6.out (j + 1) nb hnb).st
                  have hab : na < nb := by
                    obtain ⟨h1, rfl⟩ := List.getElem?_eq_some_iff.1 hna
                    obtain ⟨h2, rfl⟩ := List.getElem?_eq_some_iff.1 hnb
                    exact List.pairwise_iff_getElem.1 HRI.out j (j + 1) h1 h2 (by omega)
                  have hbl : Op.bytesLess na nb = true := by rw [bytesLess_eq]; simp [hab]
                  have hw1 : IntKind.i64.wrap ((j + 1 : Nat) - 1 : Int) = j := (IntWalk.i64_in _ (by omega)).trans (by omega)
                  have hji : (j : Int) < nk := by omega
                  have hj1 : ((j + 1 : Nat) : Int) < nk := by omega
                  have hjn : j < nk := by omega
                  have HB := Lib.hid hb
                  clear hna hnb hab hb
                  go_wp2_with fail
                  go_quiet (fail)
                  go_wp2_with fail
                  go_roundw
                  case rel => exact ⟨j + 1 + 1, by omega, by omega, by go_num, drewN_below HB.out _⟩
                  case measure => simp [intOf]; omega
                · have hke : k = nk := by omega
                  subst hke
                  have HB := Lib.hid (Below.after HB6.out hb)
                  have HLL := Lib.hid (list_any _ L wr (HU.out.below HB.out) (by rw [HM.out]; omega) (by have := HLS.out.2.1; omega))
                  have HLQ : Hid ((hdN 5 L.length :: laid (L.map fun l => ([], l))).length = q) := Lib.hid (by rw [List.length_cons, laid_len', HQ1.out]; omega)
                  have s1 : ((Ls : Int) + F != n) = false := by have := HSUM.out.1; simp; omega
                  have s2 : ((Wn : Int) == Ls + n) = true := by have := HSUM.out.2; simp; omega
                  clear hb
                  by_cases hF0 : 0 < F
                  all_goals
                    go_wp2_with (go_at_call 26; refine HLL.out.mono ?_; rintro e w8 h8; obtain ⟨A8, c8, rfl, -, hb8⟩ := h8.is HLQ.out; have HB8 := Lib.hid (Below.after HB.out hb8); clear h8 hb8)
                    refine (HAL.out _ HB8.out).mono ?_
                    rintro e w9 ⟨rfl, hb9⟩
                    have HB9 := Lib.hid hb9
                    clear hb9
                    go_wp2_with fail
                    have hWi := withV_any _ _ t t nm w9 (HV.out.below HB9.out) (HV.out.below HB9.out) (by rw [HN.out]; omega) (by rw [HN.out]; omega) HT0.out HK.out
                    refine hWi.mono ?_
                    rintro e w10 h10
                    obtain ⟨A10, c10, rfl, -, hb10⟩ := h10.is HWN.out
                    have HB10 := Lib.hid (Below.after HB9.out hb10)
                    clear hWi h10 hb10
                    go_wp2_with fail
                    go_ret
                    exact ⟨rfl, HB10.out⟩
      · have e6 : (t.nd.kind != 6) = true := by simp [hk]
        clear hk
        go_enter Tryd.func9, Tryd.ntmps9
        go_wp2_with (first | (go_at_call 23; refine HALL.out.mono ?_; rintro e w1 ⟨rfl, hb0⟩; rw [HA.out]) | (go_at_call 28; refine (HFEW.out _ hb0).mono ?_; rintro e w2 ⟨rfl, hb1⟩; rw [HF.out]; have HB1 := Lib.hid (Below.after hb0 hb1); have a1 := (HB1.out.cell (p := ⟨g, o, none⟩) hg).trans a0; clear hb0 hb1) | (go_at_call 10; refine (HAL.out _ HB1.out).mono ?_; rintro e w3 ⟨rfl, hb3⟩))
        go_ret
        exact ⟨rfl, hb3⟩
theorem valSizes_any (u v : Value) (L : List (List Nd)) (l0 : List Nd) (nm : ByteArray) (w : World) (hu : Vls w u L) (hv : Nds w v l0) (hT : Tabs w) (hb1 : L.length ≤ 140737488355328) (hb2 : ∀ l ∈ L, l.length ≤ 140737488355328) (hs : nm.size ≤ maxLen) :
    Calls Tryd.prog 9 #[u, v, .string nm] w fun e w' => e = .returned (.bool true) ∧ Below w.heap.size w w' := by
  obtain ⟨⟨nl⟩⟩ := nm
  exact valSizes_list u v L l0 nl w hu hv hT hb1 hb2 hs
end Go.Proofs.YtoomgpbfcpnefaaDoor
