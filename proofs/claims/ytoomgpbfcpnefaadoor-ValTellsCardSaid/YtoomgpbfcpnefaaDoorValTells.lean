/-
  The walk of the statement ValTells: it returns true.
-/
import Derived.Test.YtoomgpbfcpnefaaDoorRefW8
namespace Go.Proofs.YtoomgpbfcpnefaaDoor
open Go.RowKit Np Rw Vp

set_option maxRecDepth 100000 in
set_option maxHeartbeats 4000000 in
theorem valTells_any (v u : Value) (l0 l1 : List Nd) (w : World) (hv : Nds w v l0) (hu : Nds w u l1) (hT : Tabs w) (hsh : Short l0) (hft : Fits l0) :
    Calls Tryd.prog 3 #[v, u] w fun e w' => e = .returned (.bool true) ∧ Below w.heap.size w w' := by
  have HT := Lib.hid hT
  have HV := Lib.hid hv
  have HU := Lib.hid hu
  have HSH := Lib.hid hsh
  have HFT := Lib.hid hft
  obtain ⟨A, c, rfl, -⟩ := hv
  obtain ⟨A2, c2, rfl, -⟩ := hu
  clear hT hsh hft
  have HL1 : Hid (∃ n, l0.length = n) := Lib.hid ⟨_, rfl⟩
  by_cases hb1 : 60 < l0.length
  · have hd : decide ((60 : Int) < l0.length) = true := by simp; omega
    generalize l0.length = n at *
    generalize l1.length = m at *
    go_enter Tryd.func3, Tryd.ntmps3
    go_wp2_with (go_at_call 10; refine (alive_any _ HT.out).mono ?_; rintro e w1 ⟨rfl, hb1⟩)
    go_ret
    exact ⟨rfl, by assumption⟩
  · have hd : decide ((60 : Int) < l0.length) = false := by simp; omega
    by_cases hb2 : 60 < l1.length
    · have hd2 : decide ((60 : Int) < l1.length) = true := by simp; omega
      generalize l0.length = n at *
      generalize l1.length = m at *
      go_enter Tryd.func3, Tryd.ntmps3
      go_wp2_with (go_at_call 10; refine (alive_any _ HT.out).mono ?_; rintro e w1 ⟨rfl, hb1⟩)
      go_ret
      exact ⟨rfl, by assumption⟩
    · have hd2 : decide ((60 : Int) < l1.length) = false := by simp; omega
      have HN1 : Hid (l0.length ≤ 60) := Lib.hid (by omega)
      have HR1 := Lib.hid (fun (W : World) (hb : Below w.heap.size w W) => refRightV_any _ l0 W (HV.out.below hb) (by have := HN1.out; omega) HSH.out)
      have HR2 := Lib.hid (fun (W : World) (hb : Below w.heap.size w W) => rightV_any _ l0 W (HV.out.below hb) (by have := HN1.out; omega) HSH.out HFT.out (HT.out.below hb))
      have HS1 := Lib.hid (fun (W : World) (hb : Below w.heap.size w W) => same_any _ _ _ _ W (HV.out.below hb) (HU.out.below hb))
      have HS2 := Lib.hid (fun (W : World) (hb : Below w.heap.size w W) => refSame_any _ _ _ _ W (HV.out.below hb) (HU.out.below hb))
      generalize hn : l0.length = n at *
      have HN := Lib.hid hn
      clear hn
      generalize l1.length = m at *
      generalize hsm : decide (l0 = l1) = sm at HS1 HS2
      clear hsm
      cases hr : rightL l0 with
      | false =>
        rw [hr] at HR1 HR2
        clear hr
        cases sm
        all_goals
          go_enter Tryd.func3, Tryd.ntmps3
          go_wp2_with fail
          refine (HR1.out _ (Below.refl _ _)).mono ?_
          rintro e w1 ⟨rfl, hb1⟩
          have HB1 := Lib.hid hb1
          clear hb1
          go_wp2_with fail
          refine (HR2.out _ HB1.out).mono ?_
          rintro e w2 ⟨rfl, hb2⟩
          have HB2 := Lib.hid (Below.after HB1.out hb2)
          clear hb2
          go_wp2_with fail
          refine (HS1.out _ HB2.out).mono ?_
          rintro e w3 ⟨rfl, hb3⟩
          have HB3 := Lib.hid (Below.after HB2.out hb3)
          clear hb3
          go_wp2_with fail
          refine (HS2.out _ HB3.out).mono ?_
          rintro e w4 ⟨rfl, hb4⟩
          have HB4 := Lib.hid (Below.after HB3.out hb4)
          clear hb4
          go_wp2_with fail
          refine (alive_any _ (HT.out.below HB4.out)).mono ?_
          rintro e w5 ⟨rfl, hb5⟩
          go_wp2_with fail
          go_ret
          exact ⟨rfl, Below.after HB4.out hb5⟩
      | true =>
        rw [hr] at HR1 HR2
        obtain ⟨t, ht, rfl⟩ := val_of_rightL hr
        have HT0 := Lib.hid ht
        have hl : (flat t).length ≤ 65536 := by rw [HN.out]; omega
        have HLT := Lib.hid hl
        clear hr ht hl
        cases sm
        all_goals
          go_enter Tryd.func3, Tryd.ntmps3
          go_wp2_with fail
          refine (HR1.out _ (Below.refl _ _)).mono ?_
          rintro e w1 ⟨rfl, hb1⟩
          have HB1 := Lib.hid hb1
          clear hb1
          go_wp2_with fail
          refine (HR2.out _ HB1.out).mono ?_
          rintro e w2 ⟨rfl, hb2⟩
          have HB2 := Lib.hid (Below.after HB1.out hb2)
          clear hb2
          go_wp2_with fail
          refine (HS1.out _ HB2.out).mono ?_
          rintro e w3 ⟨rfl, hb3⟩
          have HB3 := Lib.hid (Below.after HB2.out hb3)
          clear hb3
          go_wp2_with fail
          refine (HS2.out _ HB3.out).mono ?_
          rintro e w4 ⟨rfl, hb4⟩
          have HB4 := Lib.hid (Below.after HB3.out hb4)
          clear hb4
          go_wp2_with fail
          refine (alive_any _ (HT.out.below HB4.out)).mono ?_
          rintro e w5 ⟨rfl, hb5⟩
          have HB5 := Lib.hid (Below.after HB4.out hb5)
          clear hb5
          go_wp2_with fail
          refine (depthV_any _ t w5 (HV.out.below HB5.out) HLT.out HT0.out).mono ?_
          rintro e w6 ⟨rfl, hb6⟩
          have HB6 := Lib.hid (Below.after HB5.out hb6)
          clear hb6
          go_wp2_with fail
          refine (refDepth_upto _ t (Nat.le_refl _) _ w6 (HV.out.below HB6.out) HLT.out HT0.out).mono ?_
          rintro e w7 ⟨rfl, hb7⟩
          have HB7 := Lib.hid (Below.after HB6.out hb7)
          clear hb7
          go_wp2_with fail
          refine (parts_any _ t w7 (HV.out.below HB7.out) HLT.out HT0.out).mono ?_
          rintro e w8 ⟨p8, rfl, hp8, hb8⟩
          have HP8 : Hid (Vls w8 p8 (t.ks.map fun k => flat (nmd [] k))) := Lib.hid hp8
          have HB8 := Lib.hid (Below.after HB7.out hb8)
          clear hp8 hb8
          go_wp2_with fail
          refine (refParts_any _ t w8 (HV.out.below HB8.out) HLT.out HT0.out).mono ?_
          rintro e w9 ⟨p9, rfl, hp9, hb9⟩
          have HP9 := Lib.hid hp9
          have HP8' := Lib.hid (HP8.out.below hb9)
          have HB9 := Lib.hid (Below.after HB8.out hb9)
          clear hp9 hb9 HP8
          go_wp2_with fail
          have hLs := refLists_quiet _ _ _ _ w9 HP8'.out HP9.out
          rw [show decide ((t.ks.map fun k => flat (nmd [] k)) = (t.ks.map fun k => flat (nmd [] k))) = true by simp] at hLs
          refine hLs.mono ?_
          rintro e w10 ⟨rfl, hq10⟩
          have HB10 := Lib.hid (Below.after HB9.out (below_quiet hq10))
          clear hLs hq10 HP8' HP9
          go_wp2_with fail
          refine (names_any _ t w10 (HV.out.below HB10.out) HLT.out HT0.out).mono ?_
          rintro e w11 ⟨p11, rfl, hp11, hb11⟩
          have HP11 := Lib.hid hp11
          have HB11 := Lib.hid (Below.after HB10.out hb11)
          clear hp11 hb11
          go_wp2_with fail
          refine (refNames_any _ t w11 (HV.out.below HB11.out) HLT.out HT0.out).mono ?_
          rintro e w12 ⟨p12, rfl, hp12, hb12⟩
          have HP12 := Lib.hid hp12
          have HP11' := Lib.hid (HP11.out.below hb12)
          have HB12 := Lib.hid (Below.after HB11.out hb12)
          clear hp12 hb12 HP11
          go_wp2_with fail
          have hTx := refTexts_quiet _ _ _ _ w12 HP11'.out HP12.out
          rw [show decide (namesT t = namesT t) = true by simp] at hTx
          refine hTx.mono ?_
          rintro e w13 ⟨rfl, hq13⟩
          have HB13 := Lib.hid (Below.after HB12.out (below_quiet hq13))
          clear hTx hq13
          go_wp2_with fail
          go_ret
          exact ⟨rfl, HB13.out⟩
end Go.Proofs.YtoomgpbfcpnefaaDoor
