/-
  The walk of the statement ValBack: it returns true.
-/
import Derived.Test.YtoomgpbfcpnefaaDoorValOrder
import Derived.Test.YtoomgpbfcpnefaaDoorBackP
import Derived.Test.YtoomgpbfcpnefaaDoorValW8
namespace Go.Proofs.YtoomgpbfcpnefaaDoor
open Go.RowKit Np Rw Vp

theorem short_part {t k : Tr Nd} (h : Short (flat t)) (hk : k ∈ t.ks) : Short (flat (nmd [] k)) := by
  intro n hn
  rw [nmd, flat_mk] at hn
  have h1 : ∀ m ∈ flat k, m.name.length ≤ maxLen ∧ m.s.length ≤ maxLen := fun m hm => h m (by rw [flat_eq]; exact List.mem_cons_of_mem _ (mem_flats hk hm))
  rcases List.mem_cons.1 hn with rfl | hn
  · exact ⟨by simp [nmN], (h1 k.nd (by rw [flat_eq]; simp)).2⟩
  · exact h1 n (by rw [flat_eq]; exact List.mem_cons_of_mem _ hn)
theorem short_flats : ∀ {ts : List (Tr Nd)}, (∀ t ∈ ts, Short (flat t)) → Short (flats ts)
  | [], _, n, hn => by simp at hn
  | t :: ts, h, n, hn => by
    rw [flats_cons, List.mem_append] at hn
    rcases hn with hn | hn
    · exact h t (by simp) n hn
    · exact short_flats (fun x hx => h x (by simp [hx])) n hn
theorem short_arr {ts : List (Tr Nd)} (h : ∀ t ∈ ts, Short (flat t)) : Short (flat (arrT ts)) := by
  intro n hn
  rw [flat_arrT] at hn
  rcases List.mem_cons.1 hn with rfl | hn
  · simp [hdN]
  · exact short_flats h n hn
theorem clr_nmd (k : Tr Nd) : clr k = nmd [] k := rfl

set_option maxRecDepth 100000 in
set_option maxHeartbeats 4000000 in
theorem valBack_any (v u : Value) (l0 : List Nd) (L : List (List Nd)) (w : World) (hv : Nds w v l0) (hu : Vls w u L) (hT : Tabs w) (hb1 : L.length ≤ 140737488355328) (hb2 : ∀ l ∈ L, l.length ≤ 140737488355328) :
    Calls Tryd.prog 6 #[v, u] w fun e w' => e = .returned (.bool true) ∧ Below w.heap.size w w' := by
  have HT := Lib.hid hT
  have HAL := Lib.hid (fun (W : World) (hb : Below w.heap.size w W) => (alive_any W (HT.out.below hb)).mono fun (e : Ending) w' (h : e = .returned (.bool true) ∧ Below W.heap.size W w') => (⟨h.1, Below.after hb h.2⟩ : e = .returned (.bool true) ∧ Below w.heap.size w w'))
  have HFEW := Lib.hid (refFew_any v l0 60 w hv (by decide))
  have HALL := Lib.hid (fun (W : World) (hb : Below w.heap.size w W) => refAll_any u L 60 W (hu.below hb) (by decide) hb1 hb2)
  have HV := Lib.hid hv
  have HU := Lib.hid hu
  clear hT hu hb1 hb2
  cases hf : few 60 l0 with
  | false =>
    have HF := Lib.hid hf
    obtain ⟨A, c, rfl, -⟩ := hv
    clear hf
    go_enter Tryd.func6, Tryd.ntmps6
    go_wp2_with (first | (go_at_call 28; refine HFEW.out.mono ?_; rintro e w1 ⟨rfl, hb0⟩; rw [HF.out]) | (go_at_call 10; refine (HAL.out _ hb0).mono ?_; rintro e w2 ⟨rfl, hb1⟩))
    go_ret
    exact ⟨rfl, hb1⟩
  | true =>
    have HF := Lib.hid hf
    obtain ⟨hl60, hsh, hr0⟩ := few_all hf
    clear hf
    cases hall : allFew 60 L with
    | false =>
      have HA := Lib.hid hall
      obtain ⟨A, c, rfl, -⟩ := hv
      clear hall hsh hr0
      generalize l0.length = n at *
      go_enter Tryd.func6, Tryd.ntmps6
      go_wp2_with (first | (go_at_call 28; refine HFEW.out.mono ?_; rintro e w1 ⟨rfl, hb0⟩; rw [HF.out]) | (go_at_call 23; refine (HALL.out _ hb0).mono ?_; rintro e w2 ⟨rfl, hb1⟩; rw [HA.out]; have HB1 := Lib.hid (Below.after hb0 hb1); clear hb0 hb1) | (go_at_call 10; refine (HAL.out _ HB1.out).mono ?_; rintro e w3 ⟨rfl, hb3⟩))
      go_ret
      exact ⟨rfl, hb3⟩
    | true =>
      have HA := Lib.hid hall
      obtain ⟨hsum, hfew⟩ := allFew_all hall
      obtain ⟨ts, hts, hLt⟩ := rows_trees L (fun l hl => (few_all (hfew l hl)).2.2)
      obtain ⟨t, ht, rfl⟩ := val_of_rightL hr0
      subst hLt
      have hall2 : (∀ x ∈ ts, Short (flat x)) := fun x hx => (few_all (hfew _ (List.mem_map_of_mem hx))).2.1
      have hL60 : ts.length ≤ 60 := by unfold sumL at hsum; simp at hsum; omega
      have hS60 : (flats ts).length ≤ 60 := by unfold sumL at hsum; rw [sum_flats] at hsum; omega
      have hS60' : ((ts.map flat).map List.length).sum ≤ 60 := by rw [sum_flats]; exact hS60
      have HLIST := Lib.hid (fun (W : World) (hb : Below w.heap.size w W) => list_any u (ts.map flat) W (HU.out.below hb) (by simp; omega) (by omega))
      rw [list_tree hts] at HLIST
      have HVT := Lib.hid hts
      have HT0 := Lib.hid ht
      have HSH := Lib.hid hsh
      have HS2 := Lib.hid hall2
      have hfl : (flat (arrT ts)).length = 1 + (flats ts).length := by rw [flat_arrT]; simp; omega
      have HFL := Lib.hid hfl
      have HL60 := Lib.hid (⟨hL60, hS60, hl60⟩ : ts.length ≤ 60 ∧ (flats ts).length ≤ 60 ∧ (flat t).length ≤ 60)
      obtain ⟨A2, c2, rfl⟩ : ∃ A2 c2, u = .slice A2 ts.length c2 := by
        obtain ⟨us, h1, ⟨A2, c2, h2, -⟩, -⟩ := HU.out
        refine ⟨A2, c2, ?_⟩
        rw [h2, h1, List.length_map]
      clear hall hfew hsum hts ht hsh hall2 hL60 hS60 hS60' hfl hr0 hl60
      have hvo := hv
      obtain ⟨g, o, c, rfl, hc, hcm, hg, hx⟩ := hvo.opened (flat_pos t)
      have a0 : w.cell? ⟨g, o, none⟩ = some (.int .i64 t.nd.kind) := by
        have := (hx 0 t.nd (by rw [flat_eq]; rfl)).nd.c0
        simpa using this
      have hpos := flat_pos t
      clear hx hv hvo
      generalize hn : (flat t).length = n at *
      have HN := Lib.hid hn; clear hn
      generalize hm : ts.length = m at *
      have HM := Lib.hid hm; clear hm
      go_enter Tryd.func6, Tryd.ntmps6
      go_wp2_with (first | (go_at_call 28; refine HFEW.out.mono ?_; rintro e w1 ⟨rfl, hb0⟩; rw [HF.out]) | (go_at_call 23; refine (HALL.out _ hb0).mono ?_; rintro e w2 ⟨rfl, hb1⟩; rw [HA.out]; have HB1 := Lib.hid (Below.after hb0 hb1); clear hb0 hb1) | (go_at_call 26; refine (HLIST.out _ HB1.out).mono ?_; rintro e w3 h3; obtain ⟨A3, c3, rfl, hl3, hb3⟩ := h3.is HFL.out; have HL3 := Lib.hid hl3; have HB3 := Lib.hid (Below.after HB1.out hb3); clear h3 hl3 hb3))
      have hR := refRightV_any _ (flat (arrT ts)) w3 HL3.out (by rw [HFL.out]; have := HL60.out.2.1; omega) (short_arr HS2.out)
      rw [rightL_val (val_arrT HVT.out)] at hR
      refine hR.mono ?_
      rintro e w4 ⟨rfl, hb4⟩
      have HL4 := Lib.hid (HL3.out.below hb4)
      have HB4 := Lib.hid (Below.after HB3.out hb4)
      clear hR hb4 HL3 HB3
      go_wp2_with fail
      have hP := parts_any _ (arrT ts) w4 HL4.out (by rw [HFL.out]; have := HL60.out.2.1; omega) (val_arrT HVT.out)
      have he : ((arrT ts).ks.map fun k => flat (clr k)) = ts.map flat := nmd_all (fun k hk => (HVT.out k hk).nm)
      rw [he] at hP
      refine hP.mono ?_
      rintro e w5 h5
      obtain ⟨A5, c5, rfl, hp5, hb5⟩ := h5.is (n := m) (by simp [HM.out])
      have HP5 := Lib.hid hp5
      have HL5 := Lib.hid (HL4.out.below hb5)
      have HB5 := Lib.hid (Below.after HB4.out hb5)
      clear hP he h5 hp5 hb5 HL4 HB4
      go_wp2_with fail
      have hQ := refLists_quiet _ _ _ _ w5 HP5.out (HU.out.below HB5.out)
      rw [show decide (ts.map flat = ts.map flat) = true by simp] at hQ
      refine hQ.mono ?_
      rintro e w6 ⟨rfl, hq6⟩
      have HL6 := Lib.hid (HL5.out.below (below_quiet hq6))
      have HB6 := Lib.hid (Below.after HB5.out (below_quiet hq6))
      clear hQ hq6 HL5 HB5 HP5
      go_wp2_with fail
      have hN := names_any _ (arrT ts) w6 HL6.out (by rw [HFL.out]; have := HL60.out.2.1; omega) (val_arrT HVT.out)
      refine hN.mono ?_
      rintro e w7 h7
      obtain ⟨A7, c7, rfl, -, hb7⟩ := h7.is (n := 0) (by rfl)
      have HB7 := Lib.hid (Below.after HB6.out hb7)
      clear hN h7 hb7 HL6 HB6
      go_wp2_with fail
      have hP := parts_any _ t w7 (by have := HV.out.below HB7.out; exact this) (by rw [HN.out]; have := HL60.out.2.2; omega) HT0.out
      refine hP.mono ?_
      rintro e w8 h8
      obtain ⟨A8, c8, rfl, hp8, hb8⟩ := h8.is (n := t.ks.length) (by simp)
      have hps : (t.ks.map fun k => flat (clr k)) = t.ks.map fun k => flat (nmd [] k) := rfl
      rw [hps] at hp8
      have HP8 := Lib.hid hp8
      have HB8 := Lib.hid (Below.after HB7.out hb8)
      clear hP h8 hb8 hps
      obtain ⟨us, hul, hur, hue⟩ := hp8
      obtain ⟨A8', c8', hv8, -, -, -, hx8⟩ := hur
      injection hv8 with e1 e2 e3
      subst e1 e3
      rw [← e2] at hx8
      have HX8 := Lib.hid hx8
      have HUE := Lib.hid hue
      have HUL : Hid (us.length = t.ks.length) := Lib.hid e2.symm
      clear hul hx8 hue e2
      generalize hq : t.ks.length = q at *
      have HQ := Lib.hid hq; clear hq
      have hq60 : q ≤ 60 := by
        have h1 := flats_len t.ks
        have h2 := HL60.out.2.2
        have h3 := HN.out
        rw [flat_eq] at h3
        simp at h3
        have := HQ.out
        omega
      go_wp2_with fail
      go_loopw [7] (fun i wr => ∃ k : Nat, k ≤ q ∧ i = .int .i64 k ∧ Below w8.heap.size w8 wr) (fun i _ => q - (intOf i).toNat)
      case atStart => exact ⟨0, Nat.zero_le _, rfl, Below.refl _ _⟩
      case round =>
        obtain ⟨k, hk, rfl, hb⟩ := hrel
        have HB := Lib.hid hb
        by_cases hlt : k < q
        · obtain ⟨g8, o8, rfl, hg8, hx8⟩ := HX8.out (by omega)
          obtain ⟨x, hxk⟩ : ∃ a, us[k]? = some a := ⟨_, List.getElem?_eq_getElem (by rw [HUL.out]; exact hlt)⟩
          obtain ⟨kk, hkk⟩ : ∃ a, t.ks[k]? = some a := ⟨_, List.getElem?_eq_getElem (by rw [HQ.out]; exact hlt)⟩
          have b0 := (hb.cell (p := ⟨g8, o8 + k, none⟩) hg8).trans (hx8 k x hxk).one
          have HRX : Hid (Nds wr x (flat (nmd [] kk))) := Lib.hid ((HUE.out k x _ hxk (by rw [List.getElem?_map, hkk]; rfl)).below hb)
          have hmem := List.mem_of_getElem? hkk
          have HMEM := Lib.hid hmem
          have HKL : Hid ((flat (nmd [] kk)).length ≤ 60) := Lib.hid (by
            rw [flat_nmd_len]
            have h1 := len_flats hmem
            have h2 := HL60.out.2.2
            have h3 := HN.out
            rw [flat_eq] at h3
            simp at h3
            omega)
          clear hmem hkk hxk hx8 hb
          have HG8 := Lib.hid (⟨hg8, HB.out.size⟩ : g8 < w8.heap.size ∧ w8.heap.size ≤ wr.heap.size)
          have HC := Lib.hid b0
          have HPV := Lib.hid (part_val HT0.out HMEM.out)
          have HDP : ∃ dk dt : Nat, depth (nmd [] kk) = dk ∧ depth t = dt ∧ dk < dt := ⟨_, _, rfl, rfl, part_depth HT0.out HMEM.out⟩
          obtain ⟨dk, dt, hdk, hdt, hdd⟩ := HDP
          have HDK := Lib.hid hdk
          have HDT := Lib.hid hdt
          have hddI : (dk : Int) < dt := by omega
          clear hdk hdt
          go_wp2_with fail
          have hR := refRightV_any x (flat (nmd [] kk)) wr HRX.out (by have := HKL.out; omega) (short_part HSH.out HMEM.out)
          rw [rightL_val HPV.out] at hR
          refine hR.mono ?_
          rintro e w9 ⟨rfl, hb9⟩
          have b1 := (hb9.cell (p := ⟨g8, o8 + k, none⟩) (Nat.lt_of_lt_of_le HG8.out.1 HG8.out.2)).trans HC.out
          have HR9 := Lib.hid (HRX.out.below hb9)
          have HB9 := Lib.hid (Below.after HB.out hb9)
          clear hR hb9 b0
          go_wp2_with fail
          have hD := depthV_any x (nmd [] kk) w9 HR9.out (by have := HKL.out; omega) HPV.out
          rw [HDK.out] at hD
          refine hD.mono ?_
          rintro e w10 ⟨rfl, hb10⟩
          have HB10 := Lib.hid (Below.after HB9.out hb10)
          clear hD hb10 b1
          go_wp2_with fail
          have hE := depthV_any _ t w10 (HV.out.below (Below.after HB8.out HB10.out)) (by rw [HN.out]; have := HL60.out.2.2; omega) HT0.out
          rw [HDT.out] at hE
          refine hE.mono ?_
          rintro e w11 ⟨rfl, hb11⟩
          have HB11 := Lib.hid (Below.after HB10.out hb11)
          clear hE hb11
          go_wp2_with fail
          go_roundw
          case rel => exact ⟨k + 1, by omega, by go_num, HB11.out⟩
          case measure => simp [intOf]; omega
        · have a1 := ((Below.after HB8.out HB.out).cell (p := ⟨g, o, none⟩) hg).trans a0
          have HBW := Lib.hid (Below.after HB8.out HB.out)
          have HPS : Hid (Vls wr (.slice A8 q c8) (t.ks.map fun k => flat (nmd [] k))) := Lib.hid (HP8.out.below HB.out)
          clear a0 hb
          have HSUM : ∀ (R : List Nd), hdN 5 (t.ks.map fun k => flat (nmd [] k)).length :: laid ((t.ks.map fun k => flat (nmd [] k)).map fun l => ([], l)) = R → ((t.ks.map fun k => flat (nmd [] k)).map List.length).sum + 1 = R.length := by
            intro R hR
            rw [← hR, List.length_cons, laid_len']
          have HSUM := Lib.hid HSUM
          have HKN : Hid (∀ k ∈ t.ks, k.nd.name.length ≤ maxLen) := Lib.hid (fun k hk => (HSH.out k.nd (by rw [flat_eq]; exact List.mem_cons_of_mem _ (mem_flats hk (by rw [flat_eq]; simp)))).1)
          by_cases h5 : t.nd.kind = 5
          · rw [h5] at a1
            have HA5 := Lib.hid (arr_again HT0.out h5)
            clear h5
            go_wp2_with (go_at_call 10; refine (alive_any _ (HT.out.below HBW.out)).mono ?_; rintro e w12 ⟨rfl, hb12⟩)
            have hLL := list_any _ _ w12 (HPS.out.below hb12) (by rw [List.length_map, HQ.out]; omega) (by have h := HSUM.out _ HA5.out; rw [HN.out] at h; have := HL60.out.2.2; omega)
            rw [HA5.out] at hLL
            refine hLL.mono ?_
            rintro e w13 h13
            obtain ⟨A13, c13, rfl, hl13, hb13⟩ := h13.is HN.out
            have HL13 := Lib.hid hl13
            have HB13 := Lib.hid (Below.after (Below.after HBW.out hb12) hb13)
            clear hLL h13 hl13 hb12 hb13
            go_wp2_with fail
            have hS := refSame_any _ _ _ _ w13 HL13.out (HV.out.below HB13.out)
            rw [show decide (flat t = flat t) = true by simp] at hS
            refine hS.mono ?_
            rintro e w14 ⟨rfl, hb14⟩
            go_wp2_with fail
            go_ret
            exact ⟨rfl, Below.after HB13.out hb14⟩
          · by_cases h6 : t.nd.kind = 6
            · rw [h6] at a1
              have HO6 := Lib.hid (obj_again HT0.out h6)
              have HNT : Hid (namesT t = t.ks.map fun k => k.nd.name) := Lib.hid (by rw [namesT, if_pos h6])
              clear h5 h6
              go_wp2_with fail
              have hNm := names_any _ t wr (HV.out.below HBW.out) (by rw [HN.out]; have := HL60.out.2.2; omega) HT0.out
              rw [HNT.out] at hNm
              refine hNm.mono ?_
              rintro e w12 h12
              obtain ⟨A12, c12, rfl, hn12, hb12⟩ := h12.is (n := q) (by rw [List.length_map]; exact HQ.out)
              have HN12 := Lib.hid hn12
              have HB12 := Lib.hid hb12
              have HBW12 := Lib.hid (Below.after HBW.out hb12)
              clear hNm h12 hn12 hb12
              go_wp2_with fail
              have hO := object_any _ _ (t.ks.map fun k => k.nd.name) (t.ks.map fun k => flat (nmd [] k)) w12 HN12.out (HPS.out.below HB12.out) (by rw [List.length_map, HQ.out]; omega) (by
                have h := objV_len HO6.out.1
                rw [HO6.out.2, HN.out] at h
                have := HL60.out.2.2
                omega) (by
                intro s hs
                obtain ⟨k, hk, rfl⟩ := List.mem_map.1 hs
                exact HKN.out k hk) (HT.out.below HBW12.out)
              refine hO.mono ?_
              rintro e w13 h13
              obtain ⟨A13, c13, h13e, hl13, hb13⟩ := h13.is (n := n) (by rw [HO6.out.2]; exact HN.out)
              rw [HO6.out.2] at hl13
              rw [show objE (t.ks.map fun k => k.nd.name) (t.ks.map fun k => flat (nmd [] k)) = 0 by rw [objE, HO6.out.1]; rfl] at h13e
              subst h13e
              have HL13 := Lib.hid hl13
              have HB13 := Lib.hid (Below.after HBW12.out hb13)
              clear hO h13 hl13 hb13
              go_wp2_with (go_at_call 10; refine (alive_any _ (HT.out.below HB13.out)).mono ?_; rintro e w14 ⟨rfl, hb14⟩)
              have hS := refSame_any _ _ _ _ w14 (HL13.out.below hb14) (HV.out.below (Below.after HB13.out hb14))
              rw [show decide (flat t = flat t) = true by simp] at hS
              refine hS.mono ?_
              rintro e w15 ⟨rfl, hb15⟩
              have HB15 := Lib.hid (Below.after (Below.after HB13.out hb14) hb15)
              clear hS hb14 hb15
              go_wp2_with fail
              go_ret
              exact ⟨rfl, HB15.out⟩
            · have hq0 : q = 0 := by rw [← HQ.out, HT0.out.leaf h5 h6]; rfl
              have HD0 := Lib.hid (depth_leaf h5 h6)
              have e5 : (t.nd.kind == 5) = false := by simp [h5]
              have e6 : (t.nd.kind == 6) = false := by simp [h6]
              subst hq0
              clear h5 h6
              go_wp2_with (go_at_call 10; refine (alive_any _ (HT.out.below HBW.out)).mono ?_; rintro e w12 ⟨rfl, hb12⟩)
              have hE := depthV_any _ t w12 (HV.out.below (Below.after HBW.out hb12)) (by rw [HN.out]; have := HL60.out.2.2; omega) HT0.out
              rw [HD0.out] at hE
              refine hE.mono ?_
              rintro e w13 ⟨rfl, hb13⟩
              have HB13 := Lib.hid (Below.after (Below.after HBW.out hb12) hb13)
              clear hE hb12 hb13
              go_wp2_with fail
              go_ret
              exact ⟨rfl, HB13.out⟩
end Go.Proofs.YtoomgpbfcpnefaaDoor
