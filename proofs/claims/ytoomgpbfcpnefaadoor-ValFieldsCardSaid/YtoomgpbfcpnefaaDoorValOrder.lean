/-
  The walk of the statement ValOrder: it returns true.
-/
import Derived.Test.YtoomgpbfcpnefaaDoorValLaw
namespace Go.Proofs.YtoomgpbfcpnefaaDoor
open Go.RowKit Np Rw Vp

theorem allFew_all {L : List (List Nd)} (h : allFew 60 L = true) : sumL L ≤ 60 ∧ (∀ l ∈ L, few 60 l = true) := by
  rw [allFew, Bool.and_eq_true, decide_eq_true_eq, List.all_eq_true] at h
  exact h
theorem few_all {l : List Nd} {m : Nat} (h : few m l = true) : l.length ≤ m ∧ Short l ∧ rightL l = true := by
  rw [few, Bool.and_eq_true, Bool.and_eq_true, decide_eq_true_eq] at h
  exact ⟨h.1.1, few_short h.1.2, h.2⟩

set_option maxRecDepth 100000 in
set_option maxHeartbeats 4000000 in
theorem valOrder_any (v u : Value) (names : List (List UInt8)) (L : List (List Nd)) (w : World) (hv : Sts w v names) (hu : Vls w u L) (hT : Tabs w) (hb1 : L.length ≤ 140737488355328) (hb2 : ∀ l ∈ L, l.length ≤ 140737488355328) (hs : ∀ s ∈ names, s.length ≤ maxLen) :
    Calls Tryd.prog 8 #[v, u] w fun e w' => e = .returned (.bool true) ∧ Below w.heap.size w w' := by
  have HT := Lib.hid hT
  have HS := Lib.hid hs
  have HAL := Lib.hid (fun (W : World) (hb : Below w.heap.size w W) => (alive_any W (HT.out.below hb)).mono fun (e : Ending) w' (h : e = .returned (.bool true) ∧ Below W.heap.size W w') => (⟨h.1, Below.after hb h.2⟩ : e = .returned (.bool true) ∧ Below w.heap.size w w'))
  have HALL := Lib.hid (refAll_any u L 60 w hu (by decide) hb1 hb2)
  have HV := Lib.hid hv
  have HU := Lib.hid hu
  obtain ⟨zs, hels, hrow⟩ := vls_els hu
  have HE := Lib.hid hels
  have HR := Lib.hid hrow
  obtain ⟨A, c, rfl, hc, hcm, -, H⟩ := hv
  obtain ⟨A2, c2, rfl, hc2, hcm2, -, H2⟩ := hrow
  have HH := Lib.hid H
  have HH2 := Lib.hid H2
  clear hT hs hb1 hb2 hu hels H H2
  by_cases hbig : 60 < names.length
  · have hd : decide ((60 : Int) < names.length) = true := by simp; omega
    generalize names.length = n at *
    go_enter Tryd.func8, Tryd.ntmps8
    go_wp2_with (go_at_call 10; refine (HAL.out _ (Below.refl _ _)).mono ?_; rintro e w1 ⟨rfl, hb1⟩)
    go_ret
    exact ⟨rfl, hb1⟩
  · have hd : decide ((60 : Int) < names.length) = false := by simp; omega
    cases hall : allFew 60 L with
    | false =>
      have HF := Lib.hid hall
      clear hall
      generalize names.length = n at *
      generalize zs.length = m at *
      go_enter Tryd.func8, Tryd.ntmps8
      go_wp2_with (first | (go_at_call 23; refine HALL.out.mono ?_; rintro e w1 ⟨rfl, hb0⟩; rw [HF.out]) | (go_at_call 10; refine (HAL.out _ hb0).mono ?_; rintro e w2 ⟨rfl, hb1⟩))
      go_ret
      exact ⟨rfl, hb1⟩
    | true =>
      have HF := Lib.hid hall
      obtain ⟨hsum, hfew⟩ := allFew_all hall
      have HFEW := Lib.hid hfew
      clear hall hfew
      have hL60 : L.length ≤ 60 := by unfold sumL at hsum; omega
      have hS60 : (L.map List.length).sum ≤ 60 := by unfold sumL at hsum; omega
      have HO := Lib.hid (fun (W : World) (hb : Below w.heap.size w W) => object_any _ _ names L W (HV.out.below hb) (HU.out.below hb) (by omega) (by omega) HS.out (HT.out.below hb))
      by_cases hl : names.length = L.length
      · have hzl : zs.length = L.length := HE.out.1
        have hne : ((names.length : Int) != zs.length) = false := by simp; omega
        have HL := Lib.hid hl
        have HZL := Lib.hid hzl
        have hN : (objV names L).length ≤ 61 := by
          cases hB : objB names L
          · rw [objV_bad hB]; simp
          · rw [objV_len hB]; omega
        obtain ⟨N, HN⟩ : ∃ N, Hid ((objV names L).length = N) := ⟨_, rfl⟩
        rw [HN.out] at hN
        rw [← HZL.out] at hl
        have HLS := Lib.hid (⟨hL60, hS60⟩ : L.length ≤ 60 ∧ (L.map List.length).sum ≤ 60)
        clear hsum hzl hL60 hS60
        generalize hzn : zs.length = m at *
        have HZN := Lib.hid hzn; clear hzn
        subst hl
        generalize hnn : names.length = n at *
        have HNN := Lib.hid hnn; clear hnn
        have hn60 : n ≤ 60 := by omega
        go_enter Tryd.func8, Tryd.ntmps8
        go_wp2_with (first | (go_at_call 23; refine HALL.out.mono ?_; rintro e w1 ⟨rfl, hb0⟩; rw [HF.out]) | (go_at_call 24; refine (HO.out _ hb0).mono ?_; rintro e w2 hO; obtain ⟨Ax, cx, hxe, hx, hbx⟩ := hO.is HN.out; subst hxe; have HX := Lib.hid hx; have HBX := Lib.hid (Below.after hb0 hbx); clear hO hx hb0 hbx))
        have HI1 : Hid (Own stc 1 9 w2.heap.size ((w2.alloc (.cells #[] 9)).alloc (.cells #[] 23)) (.slice (some ⟨w2.heap.size, 0, none⟩) 0 0) []) := Lib.hid ((Own.lit (base := w2.heap.size) (E := 9) stc_len w2 #[] [] (Nat.le_refl _) (by simp) rfl).alloc _)
        have HI2 : Hid (Own slc 1 23 w2.heap.size ((w2.alloc (.cells #[] 9)).alloc (.cells #[] 23)) (.slice (some ⟨w2.heap.size + 1, 0, none⟩) 0 0) []) := Lib.hid (by
          have := Own.lit (base := w2.heap.size) (E := 23) slc_len (w2.alloc (.cells #[] 9)) #[] [] (by simp) (by simp) rfl
          simpa using this)
        have HI3 : Hid (Below w2.heap.size w2 ((w2.alloc (.cells #[] 9)).alloc (.cells #[] 23))) := Lib.hid (((Below.refl _ _).alloc (Nat.le_refl _) _).alloc (by simp) _)
        go_loopw [7, 8, 9] (fun tv bv i wr => ∃ k : Nat, k ≤ n ∧ i = .int .i64 ((k : Int) - 1) ∧ Own stc 1 9 w2.heap.size wr tv (names.drop k).reverse ∧ Own slc 1 23 w2.heap.size wr bv (zs.drop k).reverse ∧ Below w2.heap.size w2 wr) (fun _ _ i _ => (intOf i + 1).toNat)
        case atStart => exact ⟨n, Nat.le_refl _, rfl, by rw [List.drop_of_length_le (by rw [HNN.out]; exact Nat.le_refl _)]; exact HI1.out, by rw [List.drop_of_length_le (by rw [HZN.out]; exact Nat.le_refl _)]; exact HI2.out, HI3.out⟩
        case round =>
          obtain ⟨k, hk, rfl, ho1, ho2, hb⟩ := hrel
          have HO1 := Lib.hid ho1
          have HO2 := Lib.hid ho2
          have HB := Lib.hid hb
          clear ho1 ho2 hb
          cases k with
          | zero =>
            have h0 : ((0 : Nat) : Int) - 1 = -1 := rfl
            have HOR := Lib.hid (object_any u7 u8 names.reverse L.reverse wr (by have := HO1.out.row stc_len; simpa using this) (((HE.out.below (Below.after HBX.out HB.out)).reverse).vls (by have := HO2.out.row slc_len; simpa using this)) (by have := HNN.out; simp; omega) (by have h := ((List.reverse_perm L).map List.length).sum_nat; have := HLS.out.2; omega) (by intro s hs; exact HS.out s (by simpa using hs)) (HT.out.below (Below.after HBX.out HB.out)))
            rw [h0]
            clear h0
            cases n with
            | zero =>
              have HB0 : Hid (objB names L = true) := Lib.hid (objB_iff.2 ⟨by rw [HNN.out, ← HL.out], by rw [List.eq_nil_of_length_eq_zero HNN.out]; simp, by rw [List.eq_nil_of_length_eq_zero HNN.out]; simp⟩)
              have HK : Hid (objE names L = 0) := Lib.hid (by rw [objE, HB0.out]; rfl)
              have HN1 : Hid (N = 1) := Lib.hid (by rw [← HN.out, objV_len HB0.out, List.eq_nil_of_length_eq_zero HL.out.symm]; simp)
              rw [HK.out, HN1.out]
              go_wp2_with (first | (go_at_call 24; refine HOR.out.mono ?_; rintro e w3 hO; obtain ⟨Ay, cy, hye, -, hby⟩ := hO.is (n := N) (by rw [objV_reverse]; exact HN.out); subst hye; have HBY := Lib.hid (Below.after (Below.after HBX.out HB.out) hby); clear hO hby) | (go_at_call 10; refine (HAL.out _ HBY.out).mono ?_; rintro e w4 ⟨rfl, hb1⟩))
              go_ret
              exact ⟨rfl, hb1⟩
            | succ n =>
              obtain ⟨g, o, rfl, hg, hx⟩ := HH.out (by omega)
              obtain ⟨g2, o2, rfl, hg2, hx2⟩ := HH2.out (by omega)
              obtain ⟨nm, hnm⟩ : ∃ a, names[0]? = some a := ⟨_, List.getElem?_eq_getElem (by rw [HNN.out]; omega)⟩
              obtain ⟨z, hz⟩ : ∃ a, zs[0]? = some a := ⟨_, List.getElem?_eq_getElem (by rw [HZN.out]; omega)⟩
              obtain ⟨l0, hl0⟩ : ∃ a, L[0]? = some a := ⟨_, List.getElem?_eq_getElem (by rw [← HL.out]; omega)⟩
              have hBw : Below w.heap.size w wr := Below.after HBX.out HB.out
              have HX0 : Hid (w.cell? ⟨g, o, none⟩ = some (.string ⟨nm.toArray⟩)) := Lib.hid (by have := (hx 0 nm hnm).st; simpa using this)
              have HX2 : Hid (w.cell? ⟨g2, o2, none⟩ = some (.slice z.1 z.2.1 z.2.2)) := Lib.hid (by have := (hx2 0 z hz).one; simpa using this)
              have HZ0 : Hid (Nds w (.slice z.1 z.2.1 z.2.2) l0) := Lib.hid (HE.out.2 0 z l0 hz hl0)
              have HMEM : Hid (nm ∈ names.reverse) := Lib.hid (by simpa using List.mem_of_getElem? hnm)
              have HL0 := Lib.hid (List.mem_of_getElem? hl0)
              have HGG := Lib.hid (⟨hg, hg2⟩ : g < w.heap.size ∧ g2 < w.heap.size)
              have HR1 : Hid (names.reverse.length + [nm].length ≤ 61) := Lib.hid (by simp [HNN.out]; omega)
              have HR2 : Hid (zs.reverse.length + [z].length ≤ 61) := Lib.hid (by simp [HZN.out]; omega)
              have HBW := Lib.hid hBw
              clear hx hx2 hnm hz hl0 hBw
              have HO1' : Hid (Own stc 1 9 w2.heap.size wr u7 names.reverse) := Lib.hid (by simpa using HO1.out)
              have HO2' : Hid (Own slc 1 23 w2.heap.size wr u8 zs.reverse) := Lib.hid (by simpa using HO2.out)
              have hn0 : (((n + 1 : Nat) : Int) == 0) = false := by simp; omega
              go_wp2_with (first | (go_at_call 24; refine HOR.out.mono ?_; rintro e w3 hO; obtain ⟨Ay, cy, hye, hy, hby⟩ := hO.own (n := N) (by rw [objV_reverse]; exact HN.out); rw [objE_reverse] at hye; rw [objV_reverse] at hy; subst hye; have a0 := ((Below.after HBW.out hby).cell (p := ⟨g, o, none⟩) HGG.out.1).trans HX0.out; have HP1 := Lib.hid (HO1'.out.below hby); have HP2 := Lib.hid (HO2'.out.below hby); have HBY := Lib.hid hby; have HY := Lib.hid hy; clear hO hby hy) | (at_builtin; refine wpList_append_row (base := w2.heap.size) elText rfl _ _ rfl rfl (HP1.out.alloc _) rfl (row_one stc_len w3 _ rfl 9 #[.string ⟨nm.toArray⟩] nm rfl) ?_ ?_ ?_ ?_))
              · have := HR1.out; unfold maxLen; omega
              · have := HR1.out; omega
              · have := HB.out.size; have := HBY.out.size; simp; omega
              · intro A' c' w4 hown4 hg4 hwh
                have HP4 : Hid (Own stc 1 9 w2.heap.size w4 (.slice A' (names.reverse ++ [nm]).length c') (names.reverse ++ [nm])) := Lib.hid (by simpa using hown4)
                have HQ4 : Hid (Own slc 1 23 w2.heap.size w4 u8 zs.reverse) := Lib.hid (Own.aside (HP2.out.alloc _) (HP1.out.alloc _) (by decide) hg4)
                have HB23 : Hid (Below w2.heap.size w2 w3) := Lib.hid (HB.out.trans (HBY.out.mono HB.out.size))
                have HB4 : Hid (Below w2.heap.size w2 w4) := Lib.hid ((HB23.out.alloc (HB23.out.size) _).trans ((HP1.out.alloc _).kept hg4 (by have := HB23.out.size; simp; omega)))
                have HY4 : Hid (OwnN wr.heap.size w4 (.slice Ay N cy) (objV names L)) := Lib.hid (Own.aside (HY.out.alloc _) (HP1.out.alloc _) (by decide) hg4)
                clear hown4 hg4 hwh a0
                have b1 := ((Below.after HBX.out HB4.out).cell (p := ⟨g2, o2, none⟩) HGG.out.2).trans HX2.out
                have HRL : Hid ((names.reverse ++ [nm]).length = n + 1 + 1) := Lib.hid (by simp [HNN.out])
                have HRL2 : Hid ((zs.reverse ++ [z]).length = n + 1 + 1) := Lib.hid (by simp [HZN.out])
                rw [HRL.out] at HP4
                simp only [HNN.out]
                go_wp2_with (at_builtin; refine wpList_append_row (base := w2.heap.size) elVal rfl _ _ rfl rfl (HQ4.out.alloc _) rfl (row_one slc_len w4 _ rfl 23 #[.slice z.1 z.2.1 z.2.2] z rfl) ?_ ?_ ?_ ?_)
                · have := HR2.out; unfold maxLen; omega
                · have := HR2.out; omega
                · have := HB4.out.size; simp; omega
                · intro A'' c'' w5 hown5 hg5 hwh5
                  have HP5 : Hid (Own slc 1 23 w2.heap.size w5 (.slice A'' (zs.reverse ++ [z]).length c'') (zs.reverse ++ [z])) := Lib.hid (by simpa using hown5)
                  have HQ5 : Hid (Own stc 1 9 w2.heap.size w5 (.slice A' (n + 1 + 1) c') (names.reverse ++ [nm])) := Lib.hid (Own.aside (HP4.out.alloc _) (HQ4.out.alloc _) (by decide) hg5)
                  have HY5 : Hid (OwnN wr.heap.size w5 (.slice Ay N cy) (objV names L)) := Lib.hid (Own.aside (HY4.out.alloc _) (HQ4.out.alloc _) (by decide) hg5)
                  have HB5 : Hid (Below w2.heap.size w2 w5) := Lib.hid ((HB4.out.alloc (HB4.out.size) _).trans ((HQ4.out.alloc _).kept hg5 (by have := HB4.out.size; simp; omega)))
                  clear hown5 hg5 hwh5 b1
                  rw [HRL2.out] at HP5
                  simp only [HZN.out]
                  have HBW5 : Hid (Below w.heap.size w w5) := Lib.hid (Below.after HBX.out HB5.out)
                  have HO3 := Lib.hid (object_any _ _ (names.reverse ++ [nm]) (L.reverse ++ [l0]) w5 (HQ5.out.row stc_len) (((HE.out.below HBW5.out).reverse.snoc (HZ0.out.below HBW5.out)).vls (HP5.out.row slc_len)) (by rw [HRL.out]; omega) (by
                    have h := ((List.reverse_perm L).map List.length).sum_nat
                    have h1 := HLS.out.2
                    have h2 := (few_all (HFEW.out l0 HL0.out)).1
                    simp; omega) (by
                    intro s hs
                    rcases List.mem_append.1 hs with hs | hs
                    · exact HS.out s (by simpa using hs)
                    · simp at hs; subst hs; exact HS.out _ (by simpa using HMEM.out)) (HT.out.below HBW5.out))
                  have HBAD : Hid (objB (names.reverse ++ [nm]) (L.reverse ++ [l0]) = false) := Lib.hid (by
                    have := objE_twice names.reverse (L.reverse ++ [l0]) nm HMEM.out
                    rcases objE_cases (names.reverse ++ [nm]) (L.reverse ++ [l0]) with ⟨h1, h2⟩ | ⟨h1, h2⟩
                    · rw [h2] at this; cases this
                    · exact h1)
                  have HX5 : Hid (Nds w5 (.slice Ax N cx) (objV names L)) := Lib.hid (HX.out.below HB5.out)
                  rcases objE_cases names L with ⟨hob, hok⟩ | ⟨hob, hok⟩
                  · have HOB := Lib.hid hob
                    rw [hok]
                    obtain ⟨us, hus, hfl, hul, -, -⟩ := objV_tree HOB.out (fun l hl => (few_all (HFEW.out l hl)).2.2)
                    have HFL := Lib.hid hfl
                    have HUS := Lib.hid hus
                    have HUL := Lib.hid hul
                    clear hob hok hus hfl hul
                    go_wp2_with (first | (go_at_call 24; refine HO3.out.mono ?_; rintro e w6 hO; obtain ⟨Az, cz, hze, -, hbz⟩ := hO.is (n := 0) (by rw [objV_bad HBAD.out]; rfl); rw [show objE (names.reverse ++ [nm]) (L.reverse ++ [l0]) = 4 by rw [objE, HBAD.out]; rfl] at hze; subst hze; have HB6 := Lib.hid (Below.after HBW5.out hbz); have HX6 := Lib.hid (HX5.out.below hbz); have HY6 := Lib.hid ((HY5.out.row ndc_len).below hbz); clear hO hbz) | (go_at_call 10; refine (alive_any _ (HT.out.below HB6.out)).mono ?_; rintro e w7 ⟨rfl, hb7⟩; have HB7 := Lib.hid (Below.after HB6.out hb7); have HX7 := Lib.hid (HX6.out.below hb7); have HY7 := Lib.hid (HY6.out.below hb7); clear hb7) | (go_at_call 14; refine (refSame_any _ _ _ _ _ HX7.out HY7.out).mono ?_; rintro e w8 ⟨rfl, hb8⟩; rw [show decide (objV names L = objV names L) = true by simp]; have HB8 := Lib.hid (Below.after HB7.out hb8); have HX8 := Lib.hid (HX7.out.below hb8); clear hb8) )
                    have hp := parts_any _ (objT us) w8 (by rw [HFL.out]; exact HX8.out) (by rw [HFL.out, HN.out]; omega) HUS.out
                    refine hp.mono ?_
                    rintro e w9 h9
                    obtain ⟨Ap, cp, rfl, -, hb9⟩ := h9.is (n := n + 1) (by rw [List.length_map]; show us.length = _; rw [HUL.out]; exact HL.out.symm)
                    clear hp h9
                    go_wp2_with fail
                    go_ret
                    exact ⟨rfl, Below.after HB8.out hb9⟩
                  · have HOB := Lib.hid hob
                    rw [hok]
                    clear hob hok
                    go_wp2_with (first | (go_at_call 24; refine HO3.out.mono ?_; rintro e w6 hO; obtain ⟨Az, cz, hze, -, hbz⟩ := hO.is (n := 0) (by rw [objV_bad HBAD.out]; rfl); rw [show objE (names.reverse ++ [nm]) (L.reverse ++ [l0]) = 4 by rw [objE, HBAD.out]; rfl] at hze; subst hze; have HB6 := Lib.hid (Below.after HBW5.out hbz); have HX6 := Lib.hid (HX5.out.below hbz); have HY6 := Lib.hid ((HY5.out.row ndc_len).below hbz); clear hO hbz) | (go_at_call 10; refine (alive_any _ (HT.out.below HB6.out)).mono ?_; rintro e w7 ⟨rfl, hb7⟩; have HB7 := Lib.hid (Below.after HB6.out hb7); have HX7 := Lib.hid (HX6.out.below hb7); have HY7 := Lib.hid (HY6.out.below hb7); clear hb7) | (go_at_call 14; refine (refSame_any _ _ _ _ _ HX7.out HY7.out).mono ?_; rintro e w8 ⟨rfl, hb8⟩; rw [show decide (objV names L = objV names L) = true by simp]; have HB8 := Lib.hid (Below.after HB7.out hb8); have HX8 := Lib.hid (HX7.out.below hb8); clear hb8) )
                    go_ret
                    exact ⟨rfl, HB8.out⟩
          | succ k =>
            obtain ⟨g, o, rfl, hg, hx⟩ := HH.out (by omega)
            obtain ⟨g2, o2, rfl, hg2, hx2⟩ := HH2.out (by omega)
            obtain ⟨nm, hnm⟩ : ∃ a, names[k]? = some a := ⟨_, List.getElem?_eq_getElem (by rw [HNN.out]; omega)⟩
            obtain ⟨z, hz⟩ : ∃ a, zs[k]? = some a := ⟨_, List.getElem?_eq_getElem (by rw [HZN.out]; omega)⟩
            have hBw : Below w.heap.size w wr := Below.after HBX.out HB.out
            have a0 := (hBw.cell (p := ⟨g, o + k, none⟩) hg).trans (hx k nm hnm).st
            have b0 := (hBw.cell (p := ⟨g2, o2 + k, none⟩) hg2).trans (hx2 k z hz).one
            have HD1 : Hid ((names.drop (k + 1)).reverse ++ [nm] = (names.drop k).reverse) := Lib.hid (by rw [drop_at hnm]; simp)
            have HD2 : Hid ((zs.drop (k + 1)).reverse ++ [z] = (zs.drop k).reverse) := Lib.hid (by rw [drop_at hz]; simp)
            have hk1 : ((k + 1 : Nat) : Int) - 1 = k := by omega
            have hkn : (k : Int) < n := by omega
            have hkn2 : k < n := by omega
            have HG2 := Lib.hid hg2
            have HBW := Lib.hid hBw
            have HB0 := Lib.hid b0
            clear hx hx2 hnm hz hBw b0
            rw [hk1]
            have HLA : Hid ((names.drop (k + 1)).reverse.length + [nm].length ≤ 61) := Lib.hid (by simp [HNN.out]; omega)
            have HLB : Hid ((zs.drop (k + 1)).reverse.length + [z].length ≤ 61) := Lib.hid (by simp [HZN.out]; omega)
            generalize (names.drop (k + 1)).reverse = r1 at HO1 HD1 HLA
            generalize (zs.drop (k + 1)).reverse = r2 at HO2 HD2 HLB
            go_wp2_with (at_builtin; refine wpList_append_row (base := w2.heap.size) elText rfl _ _ rfl rfl (HO1.out.alloc _) rfl (row_one stc_len wr _ rfl 9 #[.string ⟨nm.toArray⟩] nm rfl) ?_ ?_ ?_ ?_)
            · have := HLA.out; unfold maxLen; omega
            · have := HLA.out; omega
            · have := HB.out.size; simp; omega
            · intro A' c' w3 hown3 hg3 hwh
              have HO3 : Hid (Own stc 1 9 w2.heap.size w3 (.slice A' (r1.length + 1) c') (names.drop k).reverse) := Lib.hid (by rw [← HD1.out]; exact hown3)
              have HQ3 : Hid (Own slc 1 23 w2.heap.size w3 u8 r2) := Lib.hid (Own.aside (HO2.out.alloc _) (HO1.out.alloc _) (by decide) hg3)
              have HB3 : Hid (Below w2.heap.size w2 w3) := Lib.hid ((HB.out.alloc (HB.out.size) _).trans ((HO1.out.alloc _).kept hg3 (by have := HB.out.size; simp; omega)))
              clear hown3 hg3 hwh a0
              generalize r1.length + 1 = q at HO3 ⊢
              have b1 := ((Below.after HBX.out HB3.out).cell (p := ⟨g2, o2 + k, none⟩) HG2.out).trans ((HBW.out.cell (p := ⟨g2, o2 + k, none⟩) HG2.out).symm.trans HB0.out)
              go_wp2_with (at_builtin; refine wpList_append_row (base := w2.heap.size) elVal rfl _ _ rfl rfl (HQ3.out.alloc _) rfl (row_one slc_len w3 _ rfl 23 #[.slice z.1 z.2.1 z.2.2] z rfl) ?_ ?_ ?_ ?_)
              · have := HLB.out; unfold maxLen; omega
              · have := HLB.out; omega
              · have := HB3.out.size; simp; omega
              · intro A'' c'' w4 hown4 hg4 hwh4
                have HO4 : Hid (Own slc 1 23 w2.heap.size w4 (.slice A'' (r2.length + 1) c'') (zs.drop k).reverse) := Lib.hid (by rw [← HD2.out]; exact hown4)
                have HQ4 : Hid (Own stc 1 9 w2.heap.size w4 (.slice A' q c') (names.drop k).reverse) := Lib.hid (Own.aside (HO3.out.alloc _) (HQ3.out.alloc _) (by decide) hg4)
                have HB4 : Hid (Below w2.heap.size w2 w4) := Lib.hid ((HB3.out.alloc (HB3.out.size) _).trans ((HQ3.out.alloc _).kept hg4 (by have := HB3.out.size; simp; omega)))
                clear hown4 hg4 hwh4 b1
                generalize r2.length + 1 = q2 at HO4 ⊢
                go_wp2_with fail
                go_roundw
                case rel => exact ⟨k, by omega, rfl, HQ4.out, HO4.out, HB4.out⟩
                case measure => simp [intOf]
      · have HB : Hid (objB names L = false) := Lib.hid (by simp [objB, hl])
        have hzl : zs.length = L.length := HE.out.1
        have hne : ((names.length : Int) != zs.length) = true := by simp; omega
        clear hsum hl hzl hL60 hS60
        generalize names.length = n at *
        generalize zs.length = m at *
        go_enter Tryd.func8, Tryd.ntmps8
        go_wp2_with (first | (go_at_call 23; refine HALL.out.mono ?_; rintro e w1 ⟨rfl, hb0⟩; rw [HF.out]) | (go_at_call 24; refine (HO.out _ hb0).mono ?_; rintro e w2 hO; obtain ⟨Ax, cx, hxe, hx, hbx⟩ := hO.is (n := 0) (by rw [objV_bad HB.out]; rfl); rw [show objE names L = 4 by rw [objE, HB.out]; rfl] at hxe; subst hxe; clear hx) | (go_at_call 10; refine (HAL.out _ (Below.after hb0 hbx)).mono ?_; rintro e w3 ⟨rfl, hb1⟩))
        go_ret
        exact ⟨rfl, hb1⟩
end Go.Proofs.YtoomgpbfcpnefaaDoor
