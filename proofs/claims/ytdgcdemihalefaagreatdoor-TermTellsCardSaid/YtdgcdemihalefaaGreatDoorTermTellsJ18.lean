/-
  Joined: FrH, TermTells, TermTellsCardA, TermTellsCardH.
-/
import Derived.Test.YtdgcdemihalefaaGreatDoorTermTellsJ10
import Derived.Test.YtdgcdemihalefaaGreatDoorTermTellsJ2
import Derived.Test.YtdgcdemihalefaaGreatDoorRefW6
import Derived.Test.YtdgcdemihalefaaGreatDoorTermTellsJ11
import Derived.Test.YtdgcdemihalefaaGreatDoorTermTellsJ16
import Derived.Test.YtdgcdemihalefaaGreatDoorTermTellsJ1
import Derived.Test.YtdgcdemihalefaaGreatDoorTermTellsJ14
import Derived.Test.YtdgcdemihalefaaGreatDoorTermTellsJ4
namespace Go.Proofs.YtdgcdemihalefaaGreatDoor
open Go.RowKit Np Rw Vp Pw Fw
set_option maxHeartbeats 4000000 in
theorem refShortF_any (v : Value) (l : List Tm) (m : Nat) (w : World) (hv : Tms w v l) (hm : m ≤ 65536) :
    Calls Tryz.prog 5 #[v, .int .i64 m] w fun e w' => e = .returned (.bool (shrtF m l)) ∧ Below w.heap.size w w' := by
  have hB : Below w.heap.size w w := Below.refl _ _
  have hlen := hv.len
  unfold maxLen at hlen
  rcases Nat.eq_zero_or_pos l.length with h0 | h0
  · have e1 := List.eq_nil_of_length_eq_zero h0
    subst e1
    obtain ⟨A, c, rfl, -⟩ := hv
    have HE : Hid (shrtF m [] = true) := Lib.hid (by simp [shrtF])
    clear h0 hlen
    simp only [List.length_nil]
    go_enter Tryz.func5, Tryz.ntmps5
    go_wp2
    go_loopw [5] (fun i wr => i = .int .i64 0 ∧ wr = w) (fun _ _ => 0)
    case atStart => exact ⟨rfl, rfl⟩
    case round =>
      obtain ⟨rfl, rfl⟩ := hrel
      go_wp2
      go_ret
      exact ⟨ret_bool HE.out.symm, hB⟩
  · obtain ⟨g, o, c, rfl, hc, hcm, hg, hx⟩ := hv.opened h0
    have HX := Lib.hid hx; clear hx
    have HF : Hid (shrtF m l = (decide (l.length ≤ m) && l.all shortT)) := Lib.hid rfl
    generalize hn : l.length = n at *
    have HN := Lib.hid hn; clear hn
    go_enter Tryz.func5, Tryz.ntmps5
    go_wp2
    go_loopw [5] (fun i wr => ∃ k : Nat, k ≤ n ∧ k ≤ m ∧ i = .int .i64 k ∧ wr = w ∧ (l.take k).all shortT = true) (fun i _ => n - (intOf i).toNat)
    case atStart => exact ⟨0, Nat.zero_le _, Nat.zero_le _, rfl, rfl, rfl⟩
    case round =>
      obtain ⟨k, hk, hkm, rfl, rfl, hal⟩ := hrel
      have HAL := Lib.hid hal; clear hal
      by_cases hlt : k < n
      · obtain ⟨x, hx⟩ : ∃ s, l[k]? = some s := ⟨_, List.getElem?_eq_getElem (by rw [HN.out]; exact hlt)⟩
        obtain ⟨-, -, a2, a3, -, -, -, -, a8, -, -⟩ := (HX.out k _ hx).tm
        have HXX := Lib.hid hx; clear hx
        have HS : Hid (shortT x = (decide (x.s.length ≤ 100) && decide (x.name.length ≤ 100) && decide (x.c.s.length ≤ 100))) := Lib.hid rfl
        by_cases hm1 : k < m
        · have em : decide (m ≤ k) = false := by simp; omega
          by_cases h1 : x.s.length ≤ 100
          · by_cases h2 : x.name.length ≤ 100
            · by_cases h3 : x.c.s.length ≤ 100
              · have HE : Hid ((l.take (k + 1)).all shortT = true) := Lib.hid (all_snoc HAL.out HXX.out (by rw [HS.out]; simp [h1, h2, h3]))
                have e1 : decide (100 < x.s.length) = false := by simp; omega
                have e2 : decide (100 < x.name.length) = false := by simp; omega
                have e3 : decide (100 < x.c.s.length) = false := by simp; omega
                go_wp2
                go_roundw
                case rel => exact ⟨k + 1, by omega, by omega, by go_num, by simp, HE.out⟩
                case measure => simp [intOf]; omega
              · have HE : Hid (l.all shortT = false) := Lib.hid (all_bad HXX.out (by rw [HS.out]; simp [h3]))
                have e1 : decide (100 < x.s.length) = false := by simp; omega
                have e2 : decide (100 < x.name.length) = false := by simp; omega
                have e3 : decide (100 < x.c.s.length) = true := by simp; omega
                go_wp2
                go_ret
                exact ⟨ret_bool (by rw [HF.out, HE.out, Bool.and_false]), hB⟩
            · have HE : Hid (l.all shortT = false) := Lib.hid (all_bad HXX.out (by rw [HS.out]; simp [h2]))
              have e1 : decide (100 < x.s.length) = false := by simp; omega
              have e2 : decide (100 < x.name.length) = true := by simp; omega
              go_wp2
              go_ret
              exact ⟨ret_bool (by rw [HF.out, HE.out, Bool.and_false]), hB⟩
          · have HE : Hid (l.all shortT = false) := Lib.hid (all_bad HXX.out (by rw [HS.out]; simp [h1]))
            have e1 : decide (100 < x.s.length) = true := by simp; omega
            go_wp2
            go_ret
            exact ⟨ret_bool (by rw [HF.out, HE.out, Bool.and_false]), hB⟩
        · have em : decide (m ≤ k) = true := by simp; omega
          have HE : Hid (decide (n ≤ m) = false) := Lib.hid (by simp; omega)
          go_wp2
          go_ret
          exact ⟨ret_bool (by rw [HF.out, HE.out]; rfl), hB⟩
      · have HE : Hid (l.all shortT = true) := Lib.hid (by have := HAL.out; rwa [List.take_of_length_le (by rw [HN.out]; omega)] at this)
        have HM : Hid (decide (n ≤ m) = true) := Lib.hid (by simp; omega)
        go_wp2
        go_ret
        exact ⟨ret_bool (by rw [HF.out, HE.out, HM.out]; rfl), hB⟩
end Go.Proofs.YtdgcdemihalefaaGreatDoor
namespace Go.Proofs.YtdgcdemihalefaaGreatDoor
open Go.RowKit Np Rw Vp Up Qp Tp Pw Fw
theorem shrtF_parts {m : Nat} {l : List Tm} (h : shrtF m l = true) : l.length ≤ m ∧ l.all shortT = true := by
  unfold shrtF at h
  rw [Bool.and_eq_true, decide_eq_true_eq] at h
  exact h
theorem flt_sx {l : List Tm} (h : shrtF 30 l = true) (hk : HeldF l) (hr : rightF l = true) : ∃ t, l = flat t ∧ SxT t := by
  obtain ⟨h1, h2⟩ := shrtF_parts h
  obtain ⟨t, ht, rfl⟩ := flt_of_rightF hr
  exact ⟨t, rfl, ht.ok, ht.rt, fun x hx => ⟨List.all_eq_true.1 h2 x hx, hk x hx⟩, h1⟩
set_option maxRecDepth 100000 in
set_option maxHeartbeats 8000000 in
theorem termTells_any (v1 v2 : Value) (l1 l2 : List Tm) (w : World) (h1 : Tms w v1 l1) (h2 : Tms w v2 l2) (k1 : HeldF l1) (_k2 : HeldF l2) (hT : Fv w) :
    Calls Tryz.prog 3 #[v1, v2] w fun e w' => e = .returned (.bool true) ∧ Below w.heap.size w w' := by
  have HT := Lib.hid hT
  have HAL : Hid (∀ W, Below w.heap.size w W → Calls Tryz.prog 6 #[] W fun e w' => e = .returned (.bool true) ∧ Below w.heap.size w w') := Lib.hid (fun W hW => (falive_any W (HT.out.below hW)).mono fun e w' h => ⟨h.1, hW.trans (h.2.mono hW.size)⟩)
  have HS1 := Lib.hid (fun (W : World) (hW : Below w.heap.size w W) => refShortF_any v1 l1 30 W (h1.below hW) (by decide))
  have HS2 := Lib.hid (fun (W : World) (hW : Below w.heap.size w W) => refShortF_any v2 l2 30 W (h2.below hW) (by decide))
  have HRR : Hid (shrtF 30 l1 = true → ∀ W, Below w.heap.size w W → Calls Tryz.prog 7 #[v1] W fun e w' => e = .returned (.bool (rightF l1)) ∧ Below W.heap.size W w') := Lib.hid (fun h W hW => refRightF_any v1 l1 W (h1.below hW) (by have := (shrtF_parts h).1; omega) (short_held (shrtF_parts h).2 k1))
  have HPR : Hid (shrtF 30 l1 = true → ∀ W, Below w.heap.size w W → Calls Tryz.prog 8 #[v1] W fun e w' => e = .returned (.bool (rightF l1)) ∧ Below W.heap.size W w') := Lib.hid (fun h W hW => tright_any v1 l1 W (h1.below hW) (by have := (shrtF_parts h).1; omega) (fun t ht => fitTm_short (List.all_eq_true.1 (shrtF_parts h).2 t ht) (k1 t ht)) (HT.out.below hW).pv)
  have HSA := Lib.hid (fun (W : World) (hW : Below w.heap.size w W) => tsame_any v1 v2 l1 l2 W (h1.below hW) (h2.below hW))
  have HSB := Lib.hid (fun (W : World) (hW : Below w.heap.size w W) => refSameT_any v1 v2 l1 l2 W (h1.below hW) (h2.below hW))
  have H1 := Lib.hid h1
  have K1 := Lib.hid k1
  obtain ⟨A1, c1, rfl⟩ : ∃ (A : Option Addr) (c : Nat), v1 = .slice A l1.length c := by obtain ⟨A, c, h, -⟩ := h1; exact ⟨A, c, h⟩
  obtain ⟨A2, c2, rfl⟩ : ∃ (A : Option Addr) (c : Nat), v2 = .slice A l2.length c := by obtain ⟨A, c, h, -⟩ := h2; exact ⟨A, c, h⟩
  have hb0 := Below.refl w.heap.size w
  clear h1 h2 hT k1 _k2
  generalize decide (l1 = l2) = same at *
  go_enter Tryz.func3, Tryz.ntmps3
  cases hs1 : shrtF 30 l1
  · rw [hs1] at HS1
    go_wp2_with fail
    refine (HS1.out _ hb0).mono ?_
    rintro e w1 ⟨rfl, hb1⟩
    go_wp2_with fail
    refine (HAL.out _ hb1).mono ?_
    rintro e w2 ⟨rfl, hb2⟩
    go_wp2_with fail
    go_ret
    exact ⟨rfl, hb2⟩
  · rw [hs1] at HS1
    cases hs2 : shrtF 30 l2
    · rw [hs2] at HS2
      go_wp2_with fail
      refine (HS1.out _ hb0).mono ?_
      rintro e w1 ⟨rfl, hb1⟩
      go_wp2_with fail
      refine (HS2.out _ hb1).mono ?_
      rintro e w2 ⟨rfl, hb2'⟩
      have hb2 := hb1.trans (hb2'.mono hb1.size)
      go_wp2_with fail
      refine (HAL.out _ hb2).mono ?_
      rintro e w3 ⟨rfl, hb3⟩
      go_wp2_with fail
      go_ret
      exact ⟨rfl, hb3⟩
    · rw [hs2] at HS2
      have HRR2 := Lib.hid (HRR.out hs1)
      have HPR2 := Lib.hid (HPR.out hs1)
      have hlen := (shrtF_parts hs1).1
      have HSX : Hid (rightF l1 = true → ∃ t, l1 = flat t ∧ SxT t) := Lib.hid (fun h => flt_sx hs1 K1.out h)
      clear HRR HPR hs1 hs2
      generalize hrt : rightF l1 = rt at *
      have HRT := Lib.hid hrt
      clear hrt
      go_wp2_with fail
      refine (HS1.out _ hb0).mono ?_
      rintro e w1 ⟨rfl, hb1⟩
      go_wp2_with fail
      refine (HS2.out _ hb1).mono ?_
      rintro e w2 ⟨rfl, hb2'⟩
      have hb2 := hb1.trans (hb2'.mono hb1.size)
      clear hb1 hb2'
      go_wp2_with fail
      refine (HRR2.out _ hb2).mono ?_
      rintro e w3 ⟨rfl, hb3'⟩
      have hb3 := hb2.trans (hb3'.mono hb2.size)
      clear hb2 hb3'
      go_wp2_with fail
      refine (HPR2.out _ hb3).mono ?_
      rintro e w4 ⟨rfl, hb4'⟩
      have hb4 := hb3.trans (hb4'.mono hb3.size)
      clear hb3 hb4'
      go_wp2_with fail
      refine (HSA.out _ hb4).mono ?_
      rintro e w5 ⟨rfl, hb5'⟩
      have hb5 := hb4.trans (hb5'.mono hb4.size)
      clear hb4 hb5'
      go_wp2_with fail
      refine (HSB.out _ hb5).mono ?_
      rintro e w6 ⟨rfl, hb6'⟩
      have hb6 := hb5.trans (hb6'.mono hb5.size)
      clear hb5 hb6' HSA HSB HS1 HS2 HRR2 HPR2
      cases rt with
      | false =>
        go_wp2_with fail
        refine (HAL.out _ hb6).mono ?_
        rintro e w7 ⟨rfl, hb7⟩
        go_wp2_with fail
        go_ret
        exact ⟨rfl, hb7⟩
      | true =>
        obtain ⟨t, e1, sx⟩ := HSX.out rfl
        clear HSX HRT
        subst e1
        have SX := Lib.hid sx
        have hpos := flat_pos t
        have HPX := Lib.hid (fun (W : World) (hW : Below w.heap.size w W) => tparts_any _ t W (H1.out.below hW) (by omega) SX.out.ok)
        have HPY := Lib.hid (fun (W : World) (hW : Below w.heap.size w W) => refPartsL_any _ t W (H1.out.below hW) (by omega) SX.out.ok)
        have HTA := Lib.hid (fun (W : World) (hW : Below w.heap.size w W) => ttext_any t _ W SX.out.fit (H1.out.below hW) (HT.out.below hW).pv.pow (HT.out.below hW).wds (HT.out.below hW).sgs)
        have HTB := Lib.hid (fun (W : World) (hW : Below w.heap.size w W) => refTextF_any t SX.out _ W (H1.out.below hW))
        have HKL : Hid (t.ks.length ≤ 30) := Lib.hid (by
          have h1 := flats_len t.ks
          rw [flat_eq] at hlen
          simp at hlen
          omega)
        clear sx K1 H1
        generalize (flat t).length = M at *
        go_wp2_with fail
        refine (HPX.out _ hb6).mono ?_
        rintro e w7 ⟨v7, rfl, hf7, hb7'⟩
        have hb7 := hb6.trans (hb7'.mono hb6.size)
        have HF7 := Lib.hid hf7
        obtain ⟨A7, n7, c7, rfl⟩ : ∃ (A : Option Addr) (n c : Nat), v7 = .slice A n c := by obtain ⟨us, -, ⟨A, c, h, -⟩, -⟩ := hf7; exact ⟨A, _, c, h⟩
        clear hb6 hb7' hf7
        go_wp2_with fail
        refine (HPY.out _ hb7).mono ?_
        rintro e w8 ⟨v8, rfl, hf8, hb8'⟩
        have hb8 := hb7.trans (hb8'.mono hb7.size)
        have HF8 := Lib.hid hf8
        have HF7 := Lib.hid (show Fls w8 (.slice A7 n7 c7) _ from HF7.out.below hb8')
        clear hb7 hb8' hf8
        obtain ⟨us, hul, ⟨A7', c7', hv7, hc7, hcm7, -, hx7⟩, hur⟩ := HF7.out
        injection hv7 with e1 e2 e3
        subst e1 e2 e3
        obtain ⟨vs, hvl, ⟨A8, c8, rfl, hc8, hcm8, -, hx8⟩, hvr⟩ := HF8.out
        rw [List.length_map] at hul hvl
        have HUR := Lib.hid hur
        have HVR := Lib.hid hvr
        have HX7 := Lib.hid hx7
        have HX8 := Lib.hid hx8
        have HUL := Lib.hid hul
        have HVL := Lib.hid hvl
        rw [hul] at hc7 ⊢
        rw [hvl] at hc8 ⊢
        have hq30 := HKL.out
        unfold maxLen at hcm7 hcm8
        clear hul hvl hur hvr hx7 hx8 HF7 HF8
        generalize hq : t.ks.length = q at *
        have HQ := Lib.hid hq
        clear hq
        go_wp2_with fail
        refine (HTA.out _ hb8).mono ?_
        rintro e w9 ⟨rfl, hb9'⟩
        have hb9 := hb8.trans (hb9'.mono hb8.size)
        have HB89 := Lib.hid hb9'
        clear hb9'
        go_wp2_with fail
        refine (HTB.out _ hb9).mono ?_
        rintro e w10 ⟨rfl, hb10'⟩
        have hb10 := hb9.trans (hb10'.mono hb9.size)
        have HB810 : Hid (Below w8.heap.size w8 w10) := Lib.hid (Below.after HB89.out hb10')
        have HB10 := Lib.hid hb10
        clear hb10' hb9 hb10 hb8 HTA HTB HPX HPY HB89
        go_wp2_with fail
        go_loopw [8] (fun iv wr => ∃ k : Nat, k ≤ q ∧ iv = .int .i64 k ∧ Hid (Below w10.heap.size w10 wr)) (fun iv _ => q - (intOf iv).toNat)
        case atStart => exact ⟨0, Nat.zero_le _, rfl, Lib.hid (Below.refl _ _)⟩
        case round =>
          obtain ⟨k, hk, rfl, HBR⟩ := hrel
          by_cases hlt : k < q
          · obtain ⟨u, hu⟩ : ∃ u, t.ks[k]? = some u := ⟨_, List.getElem?_eq_getElem (by rw [HQ.out]; exact hlt)⟩
            obtain ⟨x, hx⟩ : ∃ x, us[k]? = some x := ⟨_, List.getElem?_eq_getElem (by rw [HUL.out]; exact hlt)⟩
            obtain ⟨y, hy⟩ : ∃ y, vs[k]? = some y := ⟨_, List.getElem?_eq_getElem (by rw [HVL.out]; exact hlt)⟩
            have hum : u ∈ t.ks := List.mem_of_getElem? hu
            have hrx := HUR.out k x (flat (clrF u)) hx (by rw [List.getElem?_map, hu]; rfl)
            have hry := HVR.out k y (flat (clrF u)) hy (by rw [List.getElem?_map, hu]; rfl)
            obtain ⟨g2, o2, rfl, hg2, hxx⟩ := HX7.out (by rw [HUL.out]; omega)
            obtain ⟨g3, o3, rfl, hg3, hyy⟩ := HX8.out (by rw [HVL.out]; omega)
            have hxk := (hxx k x hx).one
            have hyk := (hyy k y hy).one
            obtain ⟨g4, o4, c4, rfl, hc4, -, -, -⟩ := hrx.opened (flat_pos _)
            obtain ⟨g5, o5, c5, rfl, hc5, -, -, -⟩ := hry.opened (flat_pos _)
            have SU := Lib.hid (SX.out.kid hum)
            have HWB : Hid (∀ W, Below wr.heap.size wr W → Below w8.heap.size w8 W ∧ Below w.heap.size w W) := Lib.hid (fun W hW => ⟨Below.after (Below.after HB810.out HBR.out) hW, Below.after (Below.after HB10.out HBR.out) hW⟩)
            have HEX : Hid (∀ W, Below wr.heap.size wr W → W.cell? ⟨g2, o2 + k, none⟩ = some (.slice (some ⟨g4, o4, none⟩) (flat (clrF u)).length c4)) := Lib.hid (fun W hW => ((HWB.out W hW).1.cell (p := ⟨g2, o2 + k, none⟩) hg2).trans hxk)
            have HEY : Hid (∀ W, Below wr.heap.size wr W → W.cell? ⟨g3, o3 + k, none⟩ = some (.slice (some ⟨g5, o5, none⟩) (flat (clrF u)).length c5)) := Lib.hid (fun W hW => ((HWB.out W hW).1.cell (p := ⟨g3, o3 + k, none⟩) hg3).trans hyk)
            have HSM := Lib.hid (fun (W : World) (hW : Below wr.heap.size wr W) => refSameT_any _ _ _ _ W (hrx.below (HWB.out W hW).1) (hry.below (HWB.out W hW).1))
            rw [show decide (flat (clrF u) = flat (clrF u)) = true by simp] at HSM
            have HTX := Lib.hid (fun (W : World) (hW : Below wr.heap.size wr W) => ttext_any (clrF u) _ W SU.out.fit (hrx.below (HWB.out W hW).1) (HT.out.below (HWB.out W hW).2).pv.pow (HT.out.below (HWB.out W hW).2).wds (HT.out.below (HWB.out W hW).2).sgs)
            have HTY := Lib.hid (fun (W : World) (hW : Below wr.heap.size wr W) => refTextF_any (clrF u) SU.out _ W (hry.below (HWB.out W hW).1))
            have hm0 : 0 < (flat (clrF u)).length := flat_pos _
            clear hu hx hy hrx hry hxx hyy hxk hyk
            generalize (flat (clrF u)).length = m at *
            generalize ByteArray.mk (txF (clrF u)).toArray = T at *
            have ex := HEX.out wr (Below.refl _ _)
            have ey := HEY.out wr (Below.refl _ _)
            go_wp2_with fail
            clear ex ey
            refine wp_region_held_drew (S := fun w' => Below wr.heap.size wr w') (by kernel_rfl) ((Below.refl _ _).drew) (fun hH => ?_)
            refine rtk 0 (.slice (some ⟨g2, o2, none⟩) q c7) ?_ ?_
            · intro w' hSw; go_simp
            try simp only [List.set_cons_succ, List.set_cons_zero]
            refine rtk 1 (.int .i64 (k : Int)) ?_ ?_
            · intro w' hSw; go_simp
            try simp only [List.set_cons_succ, List.set_cons_zero]
            refine rtk 2 (.pointer (some ⟨g2, o2 + k, none⟩)) ?_ ?_
            · intro w' hSw; go_simp
            try simp only [List.set_cons_succ, List.set_cons_zero]
            refine rtk 3 (.slice (some ⟨g4, o4, none⟩) m c4) ?_ ?_
            · intro w' hSw; have hel := HEX.out w' hSw; go_simp
            try simp only [List.set_cons_succ, List.set_cons_zero]
            refine rtk 4 (.slice (some ⟨g3, o3, none⟩) q c8) ?_ ?_
            · intro w' hSw; go_simp
            try simp only [List.set_cons_succ, List.set_cons_zero]
            refine rtk 5 (.int .i64 (k : Int)) ?_ ?_
            · intro w' hSw; go_simp
            try simp only [List.set_cons_succ, List.set_cons_zero]
            refine rtk 6 (.pointer (some ⟨g3, o3 + k, none⟩)) ?_ ?_
            · intro w' hSw; go_simp
            try simp only [List.set_cons_succ, List.set_cons_zero]
            refine rtk 7 (.slice (some ⟨g5, o5, none⟩) m c5) ?_ ?_
            · intro w' hSw; have hel := HEY.out w' hSw; go_simp
            try simp only [List.set_cons_succ, List.set_cons_zero]
            refine wpAnyH_ready (rs := [8]) (by kernel_rfl) (by simp) ?_
            refine AllReadyH.cons rfl (fun K8 hK8 => ?_) AllReadyH.nil
            go_simp
            go_at_call 10
            refine (HSM.out _ hH).mono ?_
            rintro e w11 ⟨rfl, hb8⟩
            go_wp2_with fail
            refine hK8.out _ _ (hH.trans (hb8.mono hH.size)) (fun hH8 => ?_)
            clear hK8 K8
            try simp only [List.set_cons_succ, List.set_cons_zero]
            refine rtk 9 (.bool false) ?_ ?_
            · intro w' hSw; go_simp
            try simp only [List.set_cons_succ, List.set_cons_zero]
            refine rtk 10 (.bool false) ?_ ?_
            · intro w' hSw; go_simp
            try simp only [List.set_cons_succ, List.set_cons_zero]
            refine rtk 11 (.slice (some ⟨g2, o2, none⟩) q c7) ?_ ?_
            · intro w' hSw; go_simp
            try simp only [List.set_cons_succ, List.set_cons_zero]
            refine rtk 12 (.int .i64 (k : Int)) ?_ ?_
            · intro w' hSw; go_simp
            try simp only [List.set_cons_succ, List.set_cons_zero]
            refine rtk 13 (.pointer (some ⟨g2, o2 + k, none⟩)) ?_ ?_
            · intro w' hSw; go_simp
            try simp only [List.set_cons_succ, List.set_cons_zero]
            refine rtk 14 (.slice (some ⟨g4, o4, none⟩) m c4) ?_ ?_
            · intro w' hSw; have hel := HEX.out w' hSw; go_simp
            try simp only [List.set_cons_succ, List.set_cons_zero]
            refine rtk 16 (.slice (some ⟨g3, o3, none⟩) q c8) ?_ ?_
            · intro w' hSw; go_simp
            try simp only [List.set_cons_succ, List.set_cons_zero]
            refine rtk 17 (.int .i64 (k : Int)) ?_ ?_
            · intro w' hSw; go_simp
            try simp only [List.set_cons_succ, List.set_cons_zero]
            refine rtk 18 (.pointer (some ⟨g3, o3 + k, none⟩)) ?_ ?_
            · intro w' hSw; go_simp
            try simp only [List.set_cons_succ, List.set_cons_zero]
            refine rtk 19 (.slice (some ⟨g5, o5, none⟩) m c5) ?_ ?_
            · intro w' hSw; have hel := HEY.out w' hSw; go_simp
            try simp only [List.set_cons_succ, List.set_cons_zero]
            refine wpAnyH_ready (rs := [15]) (by kernel_rfl) (by simp) ?_
            refine AllReadyH.cons rfl (fun K15 hK15 => ?_) AllReadyH.nil
            go_simp
            go_at_call 13
            refine (HTX.out _ hH8).mono ?_
            rintro e w12 ⟨rfl, hb15⟩
            go_wp2_with fail
            refine hK15.out _ _ (hH8.trans (hb15.mono hH8.size)) (fun hH15 => ?_)
            clear hK15 K15
            try simp only [List.set_cons_succ, List.set_cons_zero]
            refine wpAnyH_ready (rs := [20]) (by kernel_rfl) (by simp) ?_
            refine AllReadyH.cons rfl (fun K20 hK20 => ?_) AllReadyH.nil
            go_simp
            go_at_call 14
            refine (HTY.out _ hH15).mono ?_
            rintro e w13 ⟨rfl, hb20⟩
            go_wp2_with fail
            refine hK20.out _ _ (hH15.trans (hb20.mono hH15.size)) (fun hH20 => ?_)
            clear hK20 K20
            try simp only [List.set_cons_succ, List.set_cons_zero]
            refine rtk 21 (.bool false) ?_ ?_
            · intro w' hSw; go_simp
            try simp only [List.set_cons_succ, List.set_cons_zero]
            refine rtk 22 (.bool false) ?_ ?_
            · intro w' hSw; go_simp
            try simp only [List.set_cons_succ, List.set_cons_zero]
            refine wpAnyH_done (by kernel_rfl) ?_ _
            have HBQ : Hid (Below w10.heap.size w10 w13) := Lib.hid (Below.after HBR.out hH20)
            clear HWB HEX HEY HSM HTX HTY
            go_wp2_with fail
            go_roundw
            case rel => exact ⟨k + 1, by omega, by go_num, HBQ⟩
            case measure => simp [intOf]; omega
          · have hkn : k = q := by omega
            subst hkn
            have HBW : Hid (Below w.heap.size w wr) := Lib.hid (Below.after HB10.out HBR.out)
            go_wp2_with fail
            refine (HAL.out _ HBW.out).mono ?_
            rintro e w11 ⟨rfl, hb11⟩
            go_wp2_with fail
            go_ret
            exact ⟨rfl, hb11⟩
end Go.Proofs.YtdgcdemihalefaaGreatDoor
namespace Go.Proofs.YtdgcdemihalefaaGreatDoor
open Go.ChangeShapes Go.WideShapes Go.ChangeAt Go.RowKit Go.ChangeMaps Pw
set_option maxRecDepth 100000 in
theorem termTells_lifted (os : Os) (started : os.Started) (H : Type) (enc : TypeId × Value → H) :
    ReturnsInHanded {} Tryz.checked os 3 .any (fun w args => (Rows.termTellsSpec.pre enc Tryz.prog Tryz.f3 [] false w args ∧ laidMetH Tryz.prog seatLaid w) ∧ sizedMet enc Tryz.prog Tryz.f3 (OpenSpec.ofChange Rows.termTellsSpec) false w args)
      (Rows.termTellsSpec.post enc Tryz.prog Tryz.f3 false true false false) := by
  refine returnsInHanded_of_change_and (C := Tryz.checked) (X := fun w _ => laidMetH Tryz.prog seatLaid w) (fun _ _ _ hh h => h.of_heap hh) ownKn started (by kernel_rfl) Tryz.func3
    (ChangeSpec.witness_shaped (enc := enc) (C := Tryz.checked) (os := os) (X := fun w _ => laidMetH Tryz.prog seatLaid w) false (World.laidAll Tryz.prog os seatLaid)
      #[.slice none 0 0, .slice none 0 0] 8 (World.laidAll_os _ _ _)
      (World.shaped_of_ZipB (by kernel_rfl) (by kernel_rfl)) (by kernel_rfl) (by kernel_rfl) (by kernel_rfl) (laid_met os _)) ?_
  intro W base args ds gs before hval0 hW _ hwt0 hL _
  have hval : ∀ (j : Nat) t v, Tryz.f3.params[j]? = some t → args[j]? = some v → Value.okWide Tryz.prog W .any base t v := hval0
  have hW' := hW
  obtain ⟨p, q, hA0, hV, rfl, _, _⟩ := hW
  have hA : DataW.TrodAll enc Tryz.prog W 0 (fun _ => true) true Tryz.f3.params.toList args.toList ds p := hA0
  have hwt : (DataW.weightsEach Tryz.prog (Tryz.f3.params.toList ++ Rows.termTellsSpec.plain.varTypes Tryz.prog) (ds ++ gs)).all (· ≤ reachBytes) = true := hwt0
  rw [Tryz.params3] at hA hval
  obtain ⟨v0, v1, d0, d1, p0, p1, rfl, rfl, rfl, h0, h1⟩ := trodAll_two hA
  obtain ⟨rfl, rfl⟩ := trodVars_none hV
  obtain ⟨p0, hp0, hs0⟩ := open_filter (base := 0) (sp := fun _ => true) (held := true) (hval 0 _ v0 rfl rfl) h0
  obtain ⟨p1, hp1, hs1⟩ := open_filter (base := 0) (sp := fun _ => true) (held := true) (hval 1 _ v1 rfl rfl) h1
  refine (termTells_any v0 v1 p0 p1 W hp0 hp1 hs0 hs1 (fv_of_laid hL)).mono fun e W' ⟨he, hb⟩ => ?_
  subst he
  exact ⟨_, rfl, law_post (tb := 4) laidOut hW' rfl Tryz.underlying4 (by kernel_rfl) rfl (by
    rw [Tryz.params3]
    intro t ht
    have hall : ([23, 23].all fun t => Tryz.prog.readableRec t && decide (t < Tryz.prog.types.size)) = true := by kernel_rfl
    obtain ⟨h1, h2⟩ := Bool.and_eq_true_iff.1 (List.all_eq_true.1 hall t ht)
    exact ⟨h1, of_decide_eq_true h2⟩) hb⟩
end Go.Proofs.YtdgcdemihalefaaGreatDoor
namespace Go.Proofs.YtdgcdemihalefaaGreatDoor
open Go.ChangeShapes Go.WideShapes Go.ChangeAt Go.RowKit Go.ChangeMaps Pw
theorem termTells_holds : Rows.TermTellsSaid :=
  OpenClaim.holds_of_wide 3 Tryz.f3 rfl rfl rfl rfl rfl rfl rfl ⟨rfl, rfl, rfl, rfl, rfl⟩ rfl rfl rfl rfl rfl (by kernel_rfl) Tryz.func3 termTells_joined
    (of_decide_eq_true (by kernel_rfl)) (by unfold Func.isWrapper; first | (rw [if_pos (by decide +kernel)]; kernel_rfl) | (rw [if_neg (by decide +kernel)]; exact ⟨rfl, rfl⟩))
    (fun os started H enc _ => termTells_lifted os started H enc)
end Go.Proofs.YtdgcdemihalefaaGreatDoor
