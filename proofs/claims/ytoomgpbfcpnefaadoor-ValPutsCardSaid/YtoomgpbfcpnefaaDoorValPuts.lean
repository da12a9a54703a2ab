/-
  The walk of the statement ValPuts: it returns true.
-/
import Derived.Test.YtoomgpbfcpnefaaDoorValSizes
namespace Go.Proofs.YtoomgpbfcpnefaaDoor
open Go.RowKit Np Rw Vp

theorem short_kid {t u : Tr Nd} (h : Short (flat t)) (hu : u ∈ t.ks) : Short (flat u) := fun n hn => h n (by rw [flat_eq]; exact List.mem_cons_of_mem _ (mem_flats hu hn))
theorem short_nmd {x : Tr Nd} {nm : List UInt8} (h : Short (flat x)) (hn : nm.length ≤ maxLen) : Short (flat (nmd nm x)) := by
  intro n hm
  rw [nmd, flat_mk] at hm
  rcases List.mem_cons.1 hm with rfl | hm
  · exact ⟨hn, (h x.nd (by rw [flat_eq]; simp)).2⟩
  · exact h n (by rw [flat_eq]; exact List.mem_cons_of_mem _ hm)
theorem short_obj {ts : List (Tr Nd)} (h : ∀ t ∈ ts, Short (flat t)) : Short (flat (objT ts)) := by
  intro n hn
  rw [flat_objT] at hn
  rcases List.mem_cons.1 hn with rfl | hn
  · simp [hdN]
  · exact short_flats h n hn
theorem short_with {x t : Tr Nd} {nm : List UInt8} (h : Short (flat t)) (hx : Short (flat x)) (hn : nm.length ≤ maxLen) : Short (flat (withT nm x t)) := by
  refine short_obj fun u hu => ?_
  rcases List.mem_append.1 hu with hu | hu
  · exact short_kid h (List.mem_filter.1 hu).1
  · rcases List.mem_append.1 hu with hu | hu
    · simp at hu; subst hu; exact short_nmd hx hn
    · exact short_kid h (List.mem_filter.1 hu).1
theorem short_less {t : Tr Nd} {nm : List UInt8} (h : Short (flat t)) : Short (flat (lessT nm t)) := by
  refine short_obj fun u hu => ?_
  rcases List.mem_append.1 hu with hu | hu
  · exact short_kid h (List.mem_filter.1 hu).1
  · simp at hu; exact short_kid h (List.mem_filter.1 hu).1
/-- What is found, of one with a part put in: of that name the part, else what was there. -/
theorem field_with {t x : Tr Nd} {nm : List UInt8} (h : Val t) (hk : t.nd.kind = 6) (hx : Val x) (hn : vld nm = true) : fieldV nm (withT nm x t) = flat x ∧ fieldB nm (withT nm x t) = true := by
  have h1 : midT nm (withT nm x t) = [nmd nm x] := by rw [midT_obj rfl, eqT_with h hk hx hn]
  refine ⟨?_, by rw [fieldB, h1]; rfl⟩
  rw [fieldV, h1]
  show flat (nmd [] (nmd nm x)) = _
  rw [nmd_val hx]
theorem field_less {t : Tr Nd} {nm : List UInt8} (h : Val t) (hk : t.nd.kind = 6) : fieldV nm (lessT nm t) = [] ∧ fieldB nm (lessT nm t) = false := by
  have h1 : midT nm (lessT nm t) = [] := by rw [midT_obj rfl, eqT_less h hk]
  exact ⟨by rw [fieldV, h1], by rw [fieldB, h1]; rfl⟩
theorem field_other {t x : Tr Nd} {nm mm : List UInt8} (h : Val t) (hk : t.nd.kind = 6) (hne : mm ≠ nm) : fieldV mm (withT nm x t) = fieldV mm t ∧ fieldB mm (withT nm x t) = fieldB mm t := by
  have h1 : midT mm (withT nm x t) = midT mm t := by rw [midT_obj rfl, midT_obj hk, eqT_other h hk hne]
  exact ⟨by rw [fieldV, fieldV, h1], by rw [fieldB, fieldB, h1]⟩

set_option maxRecDepth 100000 in
set_option maxHeartbeats 4000000 in
theorem valPuts_list (v p : Value) (l0 l1 : List Nd) (nm mm : List UInt8) (w : World) (hv : Nds w v l0) (hp : Nds w p l1) (hT : Tabs w) (hs : nm.length ≤ maxLen) :
    Calls Tryd.prog 7 #[v, .agg #[.string ⟨nm.toArray⟩, .string ⟨mm.toArray⟩], p] w fun e w' => e = .returned (.bool true) ∧ Below w.heap.size w w' := by
  have HT := Lib.hid hT
  have HAL := Lib.hid (fun (W : World) (hb : Below w.heap.size w W) => (alive_any W (HT.out.below hb)).mono fun (e : Ending) w' (h : e = .returned (.bool true) ∧ Below W.heap.size W w') => (⟨h.1, Below.after hb h.2⟩ : e = .returned (.bool true) ∧ Below w.heap.size w w'))
  have HF0 := Lib.hid (fun (W : World) (hb : Below w.heap.size w W) => refFew_any v l0 60 W (hv.below hb) (by decide))
  have HF1 := Lib.hid (fun (W : World) (hb : Below w.heap.size w W) => refFew_any p l1 60 W (hp.below hb) (by decide))
  have HUTF := Lib.hid (fun (W : World) => (refUtf_any ⟨nm.toArray⟩ W hs).mono fun (e : Ending) w' (h : e = .returned (.bool (Lib.validD (ByteArray.mk nm.toArray).data.toList)) ∧ W = w') => (h : e = .returned (.bool (vld nm)) ∧ W = w'))
  have HV := Lib.hid hv
  have HP := Lib.hid hp
  have HS := Lib.hid hs
  have HW0 : Hid (Below w.heap.size w (w.alloc (.cells #[.string ⟨nm.toArray⟩, .string ⟨mm.toArray⟩] 50))) := Lib.hid ((Below.refl _ _).alloc (Nat.le_refl _) _)
  obtain ⟨A1, c1, rfl, -⟩ := hp
  clear hT hs
  cases hf0 : few 60 l0 with
  | false =>
    have HFF := Lib.hid hf0
    obtain ⟨A, c, rfl, -⟩ := hv
    clear hf0
    generalize l0.length = n at *
    generalize l1.length = m at *
    go_enter Tryd.func7, Tryd.ntmps7
    go_wp2_with (first | (go_at_call 28; refine (HF0.out _ HW0.out).mono ?_; rintro e w1 ⟨rfl, hb0⟩; rw [HFF.out]; have HB1 := Lib.hid (Below.after HW0.out hb0); have HK1 := Lib.hid hb0; clear hb0) | (go_at_call 10; refine (HAL.out _ HB1.out).mono ?_; rintro e w2 ⟨rfl, hb1⟩))
    go_ret
    exact ⟨rfl, hb1⟩
  | true =>
    have HFF := Lib.hid hf0
    obtain ⟨hl60, hsh, hr0⟩ := few_all hf0
    cases hf1 : few 60 l1 with
    | false =>
      have HFX := Lib.hid hf1
      obtain ⟨A, c, rfl, -⟩ := hv
      clear hf0 hf1 hsh hr0
      generalize l0.length = n at *
      generalize l1.length = m at *
      go_enter Tryd.func7, Tryd.ntmps7
      go_wp2_with fail
      refine (HF0.out _ HW0.out).mono ?_
      rintro e w1 ⟨rfl, hb0⟩
      rw [HFF.out]
      have HB1 := Lib.hid (Below.after HW0.out hb0)
      clear hb0
      go_wp2_with fail
      refine (HF1.out _ HB1.out).mono ?_
      rintro e w2 ⟨rfl, hb1⟩
      rw [HFX.out]
      have HB2 := Lib.hid (Below.after HB1.out hb1)
      clear hb1
      go_wp2_with (go_at_call 10; refine (HAL.out _ HB2.out).mono ?_; rintro e w3 ⟨rfl, hb3⟩)
      go_ret
      exact ⟨rfl, hb3⟩
    | true =>
      have HFX := Lib.hid hf1
      obtain ⟨hx60, hshx, hrx⟩ := few_all hf1
      clear hf0 hf1
      obtain ⟨t, ht, rfl⟩ := val_of_rightL hr0
      obtain ⟨x, hx, rfl⟩ := val_of_rightL hrx
      have ht2 := ht
      have hx2 := hx
      have HT0 := Lib.hid ht
      have HX0 := Lib.hid hx
      have HSH := Lib.hid hsh
      have HSX := Lib.hid hshx
      have hvo := hv
      obtain ⟨g, o, c, rfl, hc, hcm, hg, hxx⟩ := hvo.opened (flat_pos t)
      have a0 : w.cell? ⟨g, o, none⟩ = some (.int .i64 t.nd.kind) := by
        have := (hxx 0 t.nd (by rw [flat_eq]; rfl)).nd.c0
        simpa using this
      have hpos := flat_pos t
      clear hxx hv hvo hsh hshx hr0 hrx ht hx
      generalize hn : (flat t).length = n at *
      have HN := Lib.hid hn; clear hn
      generalize hm : (flat x).length = m at *
      have HM := Lib.hid hm; clear hm
      have HA0 := Lib.hid a0
      clear a0
      by_cases hk : t.nd.kind = 6
      · have HK := Lib.hid hk
        cases hvl : vld nm with
        | false =>
          have HVL : Hid (Lib.validD nm = false) := Lib.hid hvl
          clear hvl hk
          go_enter Tryd.func7, Tryd.ntmps7
          go_wp2_with fail
          refine (HF0.out _ HW0.out).mono ?_
          rintro e w1 ⟨rfl, hb0⟩
          rw [HFF.out]
          have HB1 := Lib.hid (Below.after HW0.out hb0)
          have HC1 := Lib.hid hb0
          clear hb0
          go_wp2_with fail
          refine (HF1.out _ HB1.out).mono ?_
          rintro e w2 ⟨rfl, hb1⟩
          rw [HFX.out]
          have HB2 := Lib.hid (Below.after HB1.out hb1)
          have HC2 := Lib.hid (Below.after HC1.out hb1)
          clear hb1
          have a1 : w2.cell? ⟨g, o, none⟩ = some (.int .i64 6) := (HB2.out.cell (p := ⟨g, o, none⟩) hg).trans (by rw [HA0.out, HK.out])
          have q0 : w2.cell? ⟨w.heap.size, 0, none⟩ = some (.string ⟨nm.toArray⟩) := (HC2.out.cell (p := ⟨w.heap.size, 0, none⟩) (by simp)).trans (by simp)
          go_wp2_with (first | (go_at_call 31; refine (HUTF.out _).mono ?_; rintro e w' ⟨rfl, rfl⟩; rw [HVL.out]) | (go_at_call 10; refine (HAL.out _ HB2.out).mono ?_; rintro e w3 ⟨rfl, hb3⟩))
          go_ret
          exact ⟨rfl, hb3⟩
        | true =>
          have HVL : Hid (Lib.validD nm = true) := Lib.hid hvl
          have HWV := Lib.hid (val_put ht2 hk hx2 hvl)
          have HLV := Lib.hid (val_less (nm := nm) ht2 hk)
          have hlw := len_with nm x t
          have hll := len_less nm t
          have hlp := len_parts ht2 hk nm
          have hfl := field_len ht2 hk (nm := nm)
          rw [HM.out] at hlw
          rw [HN.out] at hlp
          obtain ⟨Wn, hWn⟩ : ∃ F, (flat (withT nm x t)).length = F := ⟨_, rfl⟩
          obtain ⟨Ls, hLs⟩ : ∃ F, (flat (lessT nm t)).length = F := ⟨_, rfl⟩
          obtain ⟨F, hF⟩ : ∃ F, (fieldV nm t).length = F := ⟨_, rfl⟩
          obtain ⟨P1, hP1⟩ : ∃ F, (fieldV mm t).length = F := ⟨_, rfl⟩
          obtain ⟨P2, hP2⟩ : ∃ F, (fieldV mm (withT nm x t)).length = F := ⟨_, rfl⟩
          have hW60 : Wn ≤ 200 := by omega
          have hL60 : Ls ≤ 60 := by omega
          have hF60 : F ≤ 60 := by omega
          have HWN := Lib.hid hWn
          have HLN := Lib.hid hLs
          have HFN := Lib.hid hF
          have HP1 := Lib.hid hP1
          have HP2 := Lib.hid hP2
          have HFW := Lib.hid (field_with ht2 hk hx2 hvl)
          have HFL := Lib.hid (field_less (nm := nm) ht2 hk)
          have HLW := Lib.hid (less_with ht2 hk hx2 hvl)
          have HQ0 : Hid (∀ W, Below (w.alloc (.cells #[.string ⟨nm.toArray⟩, .string ⟨mm.toArray⟩] 50)).heap.size (w.alloc (.cells #[.string ⟨nm.toArray⟩, .string ⟨mm.toArray⟩] 50)) W → W.cell? ⟨w.heap.size, 0, none⟩ = some (.string ⟨nm.toArray⟩)) := Lib.hid (fun W hb => (hb.cell (p := ⟨w.heap.size, 0, none⟩) (by simp)).trans (by simp))
          have HQ1 : Hid (∀ W, Below (w.alloc (.cells #[.string ⟨nm.toArray⟩, .string ⟨mm.toArray⟩] 50)).heap.size (w.alloc (.cells #[.string ⟨nm.toArray⟩, .string ⟨mm.toArray⟩] 50)) W → W.cell? ⟨w.heap.size, 1, none⟩ = some (.string ⟨mm.toArray⟩)) := Lib.hid (fun W hb => (hb.cell (p := ⟨w.heap.size, 1, none⟩) (by simp)).trans (by simp))
          have HOT := Lib.hid (fun (h : mm ≠ nm) => field_other (x := x) ht2 hk h)
          have HCASE := Lib.hid (field_cases ht2 hk (nm := nm))
          have HWWA := Lib.hid (fun (y : Tr Nd) => with_with (y := y) ht2 hk hx2 hvl)
          have HWLA := Lib.hid (fun (y : Tr Nd) => with_less (y := y) (nm := nm) ht2 hk)
          have HOWN := Lib.hid (fun (u : Tr Nd) (h : eqT nm t.ks = [u]) => with_own ht2 hk h)
          have HOWL := Lib.hid (fun (h : eqT nm t.ks = []) => less_own ht2 hk h)
          clear hlw hll hlp hfl hWn hLs hF hP1 hP2 hvl hk ht2 hx2
          go_enter Tryd.func7, Tryd.ntmps7
          go_wp2_with fail
          refine (HF0.out _ HW0.out).mono ?_
          rintro e w1 ⟨rfl, hb0⟩
          rw [HFF.out]
          have HB1 := Lib.hid (Below.after HW0.out hb0)
          have HC1 := Lib.hid hb0
          clear hb0
          go_wp2_with fail
          refine (HF1.out _ HB1.out).mono ?_
          rintro e w2 ⟨rfl, hb1⟩
          rw [HFX.out]
          have HB2 := Lib.hid (Below.after HB1.out hb1)
          have HC2 := Lib.hid (Below.after HC1.out hb1)
          clear hb1
          have a1 : w2.cell? ⟨g, o, none⟩ = some (.int .i64 6) := (HB2.out.cell (p := ⟨g, o, none⟩) hg).trans (by rw [HA0.out, HK.out])
          have q0 : w2.cell? ⟨w.heap.size, 0, none⟩ = some (.string ⟨nm.toArray⟩) := HQ0.out _ HC2.out
          go_wp2_with (go_at_call 31; refine (HUTF.out _).mono ?_; rintro e w' ⟨rfl, rfl⟩; rw [HVL.out])
          have hc := withV_any _ _ t x nm w2 (HV.out.below HB2.out) (HP.out.below HB2.out) (by rw [HN.out]; omega) (by rw [HM.out]; omega) HT0.out HK.out
          refine hc.mono ?_
          rintro e w3 hh
          obtain ⟨A13, c13, rfl, hr, hb⟩ := hh.is (n := Wn) HWN.out
          have RW3 : Hid (Nds w3 (.slice A13 Wn c13) (flat (withT nm x t))) := Lib.hid hr
          have HB3 := Lib.hid (Below.after HB2.out hb)
          have HC3 := Lib.hid (Below.after HC2.out hb)
          clear hc hb hh hr a1 q0 HB2 HC2
          have q0 : w3.cell? ⟨w.heap.size, 0, none⟩ = some (.string ⟨nm.toArray⟩) := HQ0.out _ HC3.out
          go_wp2_with fail
          have hc := field_any _ (withT nm x t) nm w3 RW3.out (by rw [HWN.out]; omega) HWV.out
          refine hc.mono ?_
          rintro e w4 hh
          obtain ⟨A14, c14, he, hr, hb⟩ := hh.is (n := m) (by rw [HFW.out.1]; exact HM.out)
          rw [HFW.out.2] at he
          rw [HFW.out.1] at hr
          subst he
          have RG4 : Hid (Nds w4 (.slice A14 m c14) (flat x)) := Lib.hid hr
          have HB4 := Lib.hid (Below.after HB3.out hb)
          have HC4 := Lib.hid (Below.after HC3.out hb)
          have RW4 := Lib.hid (RW3.out.below hb)
          clear hc hb hh hr q0 RW3 HB3 HC3
          have q0 : w4.cell? ⟨w.heap.size, 0, none⟩ = some (.string ⟨nm.toArray⟩) := HQ0.out _ HC4.out
          go_wp2_with fail
          have hc := withoutV_any _ t nm w4 (HV.out.below HB4.out) (by rw [HN.out]; omega) HT0.out HK.out
          refine hc.mono ?_
          rintro e w5 hh
          obtain ⟨A15, c15, rfl, hr, hb⟩ := hh.is (n := Ls) HLN.out
          have RL5 : Hid (Nds w5 (.slice A15 Ls c15) (flat (lessT nm t))) := Lib.hid hr
          have HB5 := Lib.hid (Below.after HB4.out hb)
          have HC5 := Lib.hid (Below.after HC4.out hb)
          have RW5 := Lib.hid (RW4.out.below hb)
          have RG5 := Lib.hid (RG4.out.below hb)
          clear hc hb hh hr q0 RW4 RG4 HB4 HC4
          have q0 : w5.cell? ⟨w.heap.size, 0, none⟩ = some (.string ⟨nm.toArray⟩) := HQ0.out _ HC5.out
          go_wp2_with fail
          have hc := field_any _ (lessT nm t) nm w5 RL5.out (by rw [HLN.out]; omega) HLV.out
          refine hc.mono ?_
          rintro e w6 hh
          obtain ⟨A16, c16, he, hr, hb⟩ := hh.is (n := 0) (by rw [HFL.out.1]; rfl)
          rw [HFL.out.2] at he
          subst he
          have HB6 := Lib.hid (Below.after HB5.out hb)
          have HC6 := Lib.hid (Below.after HC5.out hb)
          have RW6 := Lib.hid (RW5.out.below hb)
          have RG6 := Lib.hid (RG5.out.below hb)
          have RL6 := Lib.hid (RL5.out.below hb)
          clear hc hb hh hr q0 RW5 RG5 RL5 HB5 HC5
          have q0 : w6.cell? ⟨w.heap.size, 0, none⟩ = some (.string ⟨nm.toArray⟩) := HQ0.out _ HC6.out
          go_wp2_with fail
          have hc := field_any _ t nm w6 (HV.out.below HB6.out) (by rw [HN.out]; omega) HT0.out
          refine hc.mono ?_
          rintro e w7 hh
          obtain ⟨A17, c17, he, hr, hb⟩ := hh.is (n := F) HFN.out
          subst he
          have RA7 : Hid (Nds w7 (.slice A17 F c17) (fieldV nm t)) := Lib.hid hr
          have HB7 := Lib.hid (Below.after HB6.out hb)
          have HC7 := Lib.hid (Below.after HC6.out hb)
          have RW7 := Lib.hid (RW6.out.below hb)
          have RG7 := Lib.hid (RG6.out.below hb)
          have RL7 := Lib.hid (RL6.out.below hb)
          clear hc hb hh hr q0 RW6 RG6 RL6 HB6 HC6
          go_wp2_with fail
          have hc := refSame_any _ _ _ _ w7 RG7.out (HP.out.below HB7.out)
          rw [show decide (flat x = flat x) = true by simp] at hc
          refine hc.mono ?_
          rintro e w8 ⟨rfl, hb⟩
          have HB8 := Lib.hid (Below.after HB7.out hb)
          have HC8 := Lib.hid (Below.after HC7.out hb)
          have RW8 := Lib.hid (RW7.out.below hb)
          have RG8 := Lib.hid (RG7.out.below hb)
          have RL8 := Lib.hid (RL7.out.below hb)
          have RA8 := Lib.hid (RA7.out.below hb)
          clear hc hb RW7 RG7 RL7 RA7 HB7 HC7
          go_wp2_with fail
          have hc := refRightV_any _ (flat (withT nm x t)) w8 RW8.out (by rw [HWN.out]; omega) (short_with HSH.out HSX.out HS.out)
          rw [rightL_val HWV.out] at hc
          refine hc.mono ?_
          rintro e w9 ⟨rfl, hb⟩
          have HB9 := Lib.hid (Below.after HB8.out hb)
          have HC9 := Lib.hid (Below.after HC8.out hb)
          have RW9 := Lib.hid (RW8.out.below hb)
          have RG9 := Lib.hid (RG8.out.below hb)
          have RL9 := Lib.hid (RL8.out.below hb)
          have RA9 := Lib.hid (RA8.out.below hb)
          clear hc hb RW8 RG8 RL8 RA8 HB8 HC8
          go_wp2_with fail
          have hc := refRightV_any _ (flat (lessT nm t)) w9 RL9.out (by rw [HLN.out]; omega) (short_less HSH.out)
          rw [rightL_val HLV.out] at hc
          refine hc.mono ?_
          rintro e w10 ⟨rfl, hb⟩
          have HB10 := Lib.hid (Below.after HB9.out hb)
          have HC10 := Lib.hid (Below.after HC9.out hb)
          have RW10 := Lib.hid (RW9.out.below hb)
          have RG10 := Lib.hid (RG9.out.below hb)
          have RL10 := Lib.hid (RL9.out.below hb)
          have RA10 := Lib.hid (RA9.out.below hb)
          clear hc hb RW9 RG9 RL9 RA9 HB9 HC9
          have q0 : w10.cell? ⟨w.heap.size, 0, none⟩ = some (.string ⟨nm.toArray⟩) := HQ0.out _ HC10.out
          go_wp2_with fail
          have hc := withoutV_any _ (withT nm x t) nm w10 RW10.out (by rw [HWN.out]; omega) HWV.out rfl
          rw [HLW.out] at hc
          refine hc.mono ?_
          rintro e w11 hh
          obtain ⟨A21, c21, rfl, hr, hb⟩ := hh.is (n := Ls) HLN.out
          have RX11 : Hid (Nds w11 (.slice A21 Ls c21) (flat (lessT nm t))) := Lib.hid hr
          have HB11 := Lib.hid (Below.after HB10.out hb)
          have HC11 := Lib.hid (Below.after HC10.out hb)
          have RW11 := Lib.hid (RW10.out.below hb)
          have RG11 := Lib.hid (RG10.out.below hb)
          have RL11 := Lib.hid (RL10.out.below hb)
          have RA11 := Lib.hid (RA10.out.below hb)
          clear hc hb hh hr q0 RW10 RG10 RL10 RA10 HB10 HC10
          go_wp2_with fail
          have hc := refSame_any _ _ _ _ w11 RX11.out RL11.out
          rw [show decide (flat (lessT nm t) = flat (lessT nm t)) = true by simp] at hc
          refine hc.mono ?_
          rintro e w12 ⟨rfl, hb⟩
          have HB12 := Lib.hid (Below.after HB11.out hb)
          have HC12 := Lib.hid (Below.after HC11.out hb)
          have RW12 := Lib.hid (RW11.out.below hb)
          have RG12 := Lib.hid (RG11.out.below hb)
          have RL12 := Lib.hid (RL11.out.below hb)
          have RA12 := Lib.hid (RA11.out.below hb)
          have RX12 := Lib.hid (RX11.out.below hb)
          clear hc hb RW11 RG11 RL11 RA11 RX11 HB11 HC11
          rcases HCASE.out with ⟨he0, hv0, hb0⟩ | ⟨u, hu, he0, hv0, hb0⟩
          · have HOL := Lib.hid (HOWL.out he0)
            rw [hb0]
            clear hv0 hb0 he0
            go_wp2_with fail
            have hc := refSame_any _ _ _ _ w12 RL12.out (HV.out.below HB12.out)
            rw [HOL.out] at hc
            rw [show decide (flat t = flat t) = true by simp] at hc
            refine hc.mono ?_
            rintro e w13 ⟨rfl, hb⟩
            have HB13 := Lib.hid (Below.after HB12.out hb)
            have HC13 := Lib.hid (Below.after HC12.out hb)
            have RW13 := Lib.hid (RW12.out.below hb)
            have RL13 := Lib.hid (RL12.out.below hb)
            have RA13 := Lib.hid (RA12.out.below hb)
            clear hc hb RW12 RL12 RA12 HB12 HC12
            by_cases hnm : mm = nm
            · subst hnm
              have q1 : w13.cell? ⟨w.heap.size, 1, none⟩ = some (.string ⟨mm.toArray⟩) := HQ1.out _ HC13.out
              go_wp2_with fail
              have hc := field_any _ t mm w13 (HV.out.below HB13.out) (by rw [HN.out]; omega) HT0.out
              refine hc.mono ?_
              rintro e w14 hh
              obtain ⟨A24, c24, he, hr, hb⟩ := hh.is (n := P1) HP1.out
              subst he
              have RP14 : Hid (Nds w14 (.slice A24 P1 c24) (fieldV mm t)) := Lib.hid hr
              have HB14 := Lib.hid (Below.after HB13.out hb)
              have HC14 := Lib.hid (Below.after HC13.out hb)
              have RW14 := Lib.hid (RW13.out.below hb)
              have RL14 := Lib.hid (RL13.out.below hb)
              have RA14 := Lib.hid (RA13.out.below hb)
              clear hc hb hh hr q1 RW13 RL13 RA13 HB13 HC13
              have q1 : w14.cell? ⟨w.heap.size, 1, none⟩ = some (.string ⟨mm.toArray⟩) := HQ1.out _ HC14.out
              go_wp2_with fail
              have hc := field_any _ (withT mm x t) mm w14 RW14.out (by rw [HWN.out]; omega) HWV.out
              refine hc.mono ?_
              rintro e w15 hh
              obtain ⟨A25, c25, he, hr, hb⟩ := hh.is (n := P2) HP2.out
              subst he
              have HB15 := Lib.hid (Below.after HB14.out hb)
              have HC15 := Lib.hid (Below.after HC14.out hb)
              have RW15 := Lib.hid (RW14.out.below hb)
              have RL15 := Lib.hid (RL14.out.below hb)
              have RA15 := Lib.hid (RA14.out.below hb)
              have RP15 := Lib.hid (RP14.out.below hb)
              clear hc hb hh hr q1 RW14 RL14 RA14 RP14 HB14 HC14
              go_wp2_with fail
              have hc := alive_any w15 (HT.out.below HB15.out)
              refine hc.mono ?_
              rintro e w16 ⟨rfl, hb⟩
              have HB16 := Lib.hid (Below.after HB15.out hb)
              have HC16 := Lib.hid (Below.after HC15.out hb)
              have RW16 := Lib.hid (RW15.out.below hb)
              have RL16 := Lib.hid (RL15.out.below hb)
              have RA16 := Lib.hid (RA15.out.below hb)
              have RP16 := Lib.hid (RP15.out.below hb)
              clear hc hb RW15 RL15 RA15 RP15 HB15 HC15
              have q0 : w16.cell? ⟨w.heap.size, 0, none⟩ = some (.string ⟨mm.toArray⟩) := HQ0.out _ HC16.out
              have q1 : w16.cell? ⟨w.heap.size, 1, none⟩ = some (.string ⟨mm.toArray⟩) := HQ1.out _ HC16.out
              go_wp2_with fail
              go_ret
              exact ⟨rfl, HB16.out⟩
            · have HO := Lib.hid (HOT.out hnm)
              have hne : (nm == mm) = false := by simp; exact fun e => hnm e.symm
              clear hnm
              have q1 : w13.cell? ⟨w.heap.size, 1, none⟩ = some (.string ⟨mm.toArray⟩) := HQ1.out _ HC13.out
              go_wp2_with fail
              have hc := field_any _ t mm w13 (HV.out.below HB13.out) (by rw [HN.out]; omega) HT0.out
              refine hc.mono ?_
              rintro e w14 hh
              obtain ⟨A24, c24, he, hr, hb⟩ := hh.is (n := P1) HP1.out
              subst he
              have RP14 : Hid (Nds w14 (.slice A24 P1 c24) (fieldV mm t)) := Lib.hid hr
              have HB14 := Lib.hid (Below.after HB13.out hb)
              have HC14 := Lib.hid (Below.after HC13.out hb)
              have RW14 := Lib.hid (RW13.out.below hb)
              have RL14 := Lib.hid (RL13.out.below hb)
              have RA14 := Lib.hid (RA13.out.below hb)
              clear hc hb hh hr q1 RW13 RL13 RA13 HB13 HC13
              have q1 : w14.cell? ⟨w.heap.size, 1, none⟩ = some (.string ⟨mm.toArray⟩) := HQ1.out _ HC14.out
              go_wp2_with fail
              have hc := field_any _ (withT nm x t) mm w14 RW14.out (by rw [HWN.out]; omega) HWV.out
              refine hc.mono ?_
              rintro e w15 hh
              obtain ⟨A25, c25, he, hr, hb⟩ := hh.is (n := P2) HP2.out
              rw [HO.out.2] at he
              rw [HO.out.1] at hr
              subst he
              have RQ15 : Hid (Nds w15 (.slice A25 P2 c25) (fieldV mm t)) := Lib.hid hr
              have HB15 := Lib.hid (Below.after HB14.out hb)
              have HC15 := Lib.hid (Below.after HC14.out hb)
              have RW15 := Lib.hid (RW14.out.below hb)
              have RL15 := Lib.hid (RL14.out.below hb)
              have RA15 := Lib.hid (RA14.out.below hb)
              have RP15 := Lib.hid (RP14.out.below hb)
              clear hc hb hh hr q1 RW14 RL14 RA14 RP14 HB14 HC14
              go_wp2_with fail
              have hc := alive_any w15 (HT.out.below HB15.out)
              refine hc.mono ?_
              rintro e w16 ⟨rfl, hb⟩
              have HB16 := Lib.hid (Below.after HB15.out hb)
              have HC16 := Lib.hid (Below.after HC15.out hb)
              have RW16 := Lib.hid (RW15.out.below hb)
              have RL16 := Lib.hid (RL15.out.below hb)
              have RA16 := Lib.hid (RA15.out.below hb)
              have RP16 := Lib.hid (RP15.out.below hb)
              have RQ16 := Lib.hid (RQ15.out.below hb)
              clear hc hb RW15 RL15 RA15 RP15 RQ15 HB15 HC15
              have q0 : w16.cell? ⟨w.heap.size, 0, none⟩ = some (.string ⟨nm.toArray⟩) := HQ0.out _ HC16.out
              have q1 : w16.cell? ⟨w.heap.size, 1, none⟩ = some (.string ⟨mm.toArray⟩) := HQ1.out _ HC16.out
              go_wp2_with fail
              have hc := refSame_any _ _ _ _ w16 RP16.out RQ16.out
              rw [show decide (fieldV mm t = fieldV mm t) = true by simp] at hc
              refine hc.mono ?_
              rintro e w17 ⟨rfl, hb⟩
              have HB17 := Lib.hid (Below.after HB16.out hb)
              have HC17 := Lib.hid (Below.after HC16.out hb)
              have RW17 := Lib.hid (RW16.out.below hb)
              have RL17 := Lib.hid (RL16.out.below hb)
              have RA17 := Lib.hid (RA16.out.below hb)
              have RP17 := Lib.hid (RP16.out.below hb)
              have RQ17 := Lib.hid (RQ16.out.below hb)
              clear hc hb q0 q1 RW16 RL16 RA16 RP16 RQ16 HB16 HC16
              go_wp2_with fail
              go_ret
              exact ⟨rfl, HB17.out⟩
          · have HON := Lib.hid (HOWN.out u he0)
            rw [hb0]
            have HUV := Lib.hid (part_val HT0.out hu)
            have HFU := Lib.hid hv0
            have HUN : Hid ((flat (nmd [] u)).length = F) := Lib.hid (by rw [← hv0]; exact HFN.out)
            have RU12 : Hid (Nds w12 (.slice A17 F c17) (flat (nmd [] u))) := Lib.hid (by have := RA12.out; rwa [hv0] at this)
            clear hv0 hb0 he0 hu
            have q0 : w12.cell? ⟨w.heap.size, 0, none⟩ = some (.string ⟨nm.toArray⟩) := HQ0.out _ HC12.out
            go_wp2_with fail
            have hc := withV_any _ _ (withT nm x t) (nmd [] u) nm w12 RW12.out RU12.out (by rw [HWN.out]; omega) (by rw [HUN.out]; omega) HWV.out rfl
            rw [HWWA.out, HON.out] at hc
            refine hc.mono ?_
            rintro e w13 hh
            obtain ⟨A23, c23, rfl, hr, hb⟩ := hh.is (n := n) HN.out
            have RB13 : Hid (Nds w13 (.slice A23 n c23) (flat t)) := Lib.hid hr
            have HB13 := Lib.hid (Below.after HB12.out hb)
            have HC13 := Lib.hid (Below.after HC12.out hb)
            have RW13 := Lib.hid (RW12.out.below hb)
            have RL13 := Lib.hid (RL12.out.below hb)
            have RA13 := Lib.hid (RA12.out.below hb)
            have RU13 := Lib.hid (RU12.out.below hb)
            clear hc hb hh hr q0 RW12 RL12 RA12 RU12 HB12 HC12
            go_wp2_with fail
            have hc := refSame_any _ _ _ _ w13 RB13.out (HV.out.below HB13.out)
            rw [show decide (flat t = flat t) = true by simp] at hc
            refine hc.mono ?_
            rintro e w14 ⟨rfl, hb⟩
            have HB14 := Lib.hid (Below.after HB13.out hb)
            have HC14 := Lib.hid (Below.after HC13.out hb)
            have RW14 := Lib.hid (RW13.out.below hb)
            have RL14 := Lib.hid (RL13.out.below hb)
            have RA14 := Lib.hid (RA13.out.below hb)
            have RU14 := Lib.hid (RU13.out.below hb)
            have RB14 := Lib.hid (RB13.out.below hb)
            clear hc hb RW13 RL13 RA13 RU13 RB13 HB13 HC13
            have q0 : w14.cell? ⟨w.heap.size, 0, none⟩ = some (.string ⟨nm.toArray⟩) := HQ0.out _ HC14.out
            go_wp2_with fail
            have hc := withV_any _ _ (lessT nm t) (nmd [] u) nm w14 RL14.out RU14.out (by rw [HLN.out]; omega) (by rw [HUN.out]; omega) HLV.out rfl
            rw [HWLA.out, HON.out] at hc
            refine hc.mono ?_
            rintro e w15 hh
            obtain ⟨A25, c25, rfl, hr, hb⟩ := hh.is (n := n) HN.out
            have RD15 : Hid (Nds w15 (.slice A25 n c25) (flat t)) := Lib.hid hr
            have HB15 := Lib.hid (Below.after HB14.out hb)
            have HC15 := Lib.hid (Below.after HC14.out hb)
            have RW15 := Lib.hid (RW14.out.below hb)
            have RL15 := Lib.hid (RL14.out.below hb)
            have RA15 := Lib.hid (RA14.out.below hb)
            have RU15 := Lib.hid (RU14.out.below hb)
            clear hc hb hh hr q0 RW14 RL14 RA14 RU14 HB14 HC14
            go_wp2_with fail
            have hc := refSame_any _ _ _ _ w15 RD15.out (HV.out.below HB15.out)
            rw [show decide (flat t = flat t) = true by simp] at hc
            refine hc.mono ?_
            rintro e w16 ⟨rfl, hb⟩
            have HB16 := Lib.hid (Below.after HB15.out hb)
            have HC16 := Lib.hid (Below.after HC15.out hb)
            have RW16 := Lib.hid (RW15.out.below hb)
            have RL16 := Lib.hid (RL15.out.below hb)
            have RA16 := Lib.hid (RA15.out.below hb)
            have RU16 := Lib.hid (RU15.out.below hb)
            have RD16 := Lib.hid (RD15.out.below hb)
            clear hc hb RW15 RL15 RA15 RU15 RD15 HB15 HC15
            by_cases hnm : mm = nm
            · subst hnm
              have q1 : w16.cell? ⟨w.heap.size, 1, none⟩ = some (.string ⟨mm.toArray⟩) := HQ1.out _ HC16.out
              go_wp2_with fail
              have hc := field_any _ t mm w16 (HV.out.below HB16.out) (by rw [HN.out]; omega) HT0.out
              refine hc.mono ?_
              rintro e w17 hh
              obtain ⟨A27, c27, he, hr, hb⟩ := hh.is (n := P1) HP1.out
              subst he
              have RP17 : Hid (Nds w17 (.slice A27 P1 c27) (fieldV mm t)) := Lib.hid hr
              have HB17 := Lib.hid (Below.after HB16.out hb)
              have HC17 := Lib.hid (Below.after HC16.out hb)
              have RW17 := Lib.hid (RW16.out.below hb)
              have RL17 := Lib.hid (RL16.out.below hb)
              have RA17 := Lib.hid (RA16.out.below hb)
              have RU17 := Lib.hid (RU16.out.below hb)
              have RD17 := Lib.hid (RD16.out.below hb)
              clear hc hb hh hr q1 RW16 RL16 RA16 RU16 RD16 HB16 HC16
              have q1 : w17.cell? ⟨w.heap.size, 1, none⟩ = some (.string ⟨mm.toArray⟩) := HQ1.out _ HC17.out
              go_wp2_with fail
              have hc := field_any _ (withT mm x t) mm w17 RW17.out (by rw [HWN.out]; omega) HWV.out
              refine hc.mono ?_
              rintro e w18 hh
              obtain ⟨A28, c28, he, hr, hb⟩ := hh.is (n := P2) HP2.out
              subst he
              have HB18 := Lib.hid (Below.after HB17.out hb)
              have HC18 := Lib.hid (Below.after HC17.out hb)
              have RW18 := Lib.hid (RW17.out.below hb)
              have RL18 := Lib.hid (RL17.out.below hb)
              have RA18 := Lib.hid (RA17.out.below hb)
              have RU18 := Lib.hid (RU17.out.below hb)
              have RD18 := Lib.hid (RD17.out.below hb)
              have RP18 := Lib.hid (RP17.out.below hb)
              clear hc hb hh hr q1 RW17 RL17 RA17 RU17 RD17 RP17 HB17 HC17
              go_wp2_with fail
              have hc := alive_any w18 (HT.out.below HB18.out)
              refine hc.mono ?_
              rintro e w19 ⟨rfl, hb⟩
              have HB19 := Lib.hid (Below.after HB18.out hb)
              have HC19 := Lib.hid (Below.after HC18.out hb)
              have RW19 := Lib.hid (RW18.out.below hb)
              have RL19 := Lib.hid (RL18.out.below hb)
              have RA19 := Lib.hid (RA18.out.below hb)
              have RU19 := Lib.hid (RU18.out.below hb)
              have RD19 := Lib.hid (RD18.out.below hb)
              have RP19 := Lib.hid (RP18.out.below hb)
              clear hc hb RW18 RL18 RA18 RU18 RD18 RP18 HB18 HC18
              have q0 : w19.cell? ⟨w.heap.size, 0, none⟩ = some (.string ⟨mm.toArray⟩) := HQ0.out _ HC19.out
              have q1 : w19.cell? ⟨w.heap.size, 1, none⟩ = some (.string ⟨mm.toArray⟩) := HQ1.out _ HC19.out
              go_wp2_with fail
              go_ret
              exact ⟨rfl, HB19.out⟩
            · have HO := Lib.hid (HOT.out hnm)
              have hne : (nm == mm) = false := by simp; exact fun e => hnm e.symm
              clear hnm
              have q1 : w16.cell? ⟨w.heap.size, 1, none⟩ = some (.string ⟨mm.toArray⟩) := HQ1.out _ HC16.out
              go_wp2_with fail
              have hc := field_any _ t mm w16 (HV.out.below HB16.out) (by rw [HN.out]; omega) HT0.out
              refine hc.mono ?_
              rintro e w17 hh
              obtain ⟨A27, c27, he, hr, hb⟩ := hh.is (n := P1) HP1.out
              subst he
              have RP17 : Hid (Nds w17 (.slice A27 P1 c27) (fieldV mm t)) := Lib.hid hr
              have HB17 := Lib.hid (Below.after HB16.out hb)
              have HC17 := Lib.hid (Below.after HC16.out hb)
              have RW17 := Lib.hid (RW16.out.below hb)
              have RL17 := Lib.hid (RL16.out.below hb)
              have RA17 := Lib.hid (RA16.out.below hb)
              have RU17 := Lib.hid (RU16.out.below hb)
              have RD17 := Lib.hid (RD16.out.below hb)
              clear hc hb hh hr q1 RW16 RL16 RA16 RU16 RD16 HB16 HC16
              have q1 : w17.cell? ⟨w.heap.size, 1, none⟩ = some (.string ⟨mm.toArray⟩) := HQ1.out _ HC17.out
              go_wp2_with fail
              have hc := field_any _ (withT nm x t) mm w17 RW17.out (by rw [HWN.out]; omega) HWV.out
              refine hc.mono ?_
              rintro e w18 hh
              obtain ⟨A28, c28, he, hr, hb⟩ := hh.is (n := P2) HP2.out
              rw [HO.out.2] at he
              rw [HO.out.1] at hr
              subst he
              have RQ18 : Hid (Nds w18 (.slice A28 P2 c28) (fieldV mm t)) := Lib.hid hr
              have HB18 := Lib.hid (Below.after HB17.out hb)
              have HC18 := Lib.hid (Below.after HC17.out hb)
              have RW18 := Lib.hid (RW17.out.below hb)
              have RL18 := Lib.hid (RL17.out.below hb)
              have RA18 := Lib.hid (RA17.out.below hb)
              have RU18 := Lib.hid (RU17.out.below hb)
              have RD18 := Lib.hid (RD17.out.below hb)
              have RP18 := Lib.hid (RP17.out.below hb)
              clear hc hb hh hr q1 RW17 RL17 RA17 RU17 RD17 RP17 HB17 HC17
              go_wp2_with fail
              have hc := alive_any w18 (HT.out.below HB18.out)
              refine hc.mono ?_
              rintro e w19 ⟨rfl, hb⟩
              have HB19 := Lib.hid (Below.after HB18.out hb)
              have HC19 := Lib.hid (Below.after HC18.out hb)
              have RW19 := Lib.hid (RW18.out.below hb)
              have RL19 := Lib.hid (RL18.out.below hb)
              have RA19 := Lib.hid (RA18.out.below hb)
              have RU19 := Lib.hid (RU18.out.below hb)
              have RD19 := Lib.hid (RD18.out.below hb)
              have RP19 := Lib.hid (RP18.out.below hb)
              have RQ19 := Lib.hid (RQ18.out.below hb)
              clear hc hb RW18 RL18 RA18 RU18 RD18 RP18 RQ18 HB18 HC18
              have q0 : w19.cell? ⟨w.heap.size, 0, none⟩ = some (.string ⟨nm.toArray⟩) := HQ0.out _ HC19.out
              have q1 : w19.cell? ⟨w.heap.size, 1, none⟩ = some (.string ⟨mm.toArray⟩) := HQ1.out _ HC19.out
              go_wp2_with fail
              have hc := refSame_any _ _ _ _ w19 RP19.out RQ19.out
              rw [show decide (fieldV mm t = fieldV mm t) = true by simp] at hc
              refine hc.mono ?_
              rintro e w20 ⟨rfl, hb⟩
              have HB20 := Lib.hid (Below.after HB19.out hb)
              have HC20 := Lib.hid (Below.after HC19.out hb)
              have RW20 := Lib.hid (RW19.out.below hb)
              have RL20 := Lib.hid (RL19.out.below hb)
              have RA20 := Lib.hid (RA19.out.below hb)
              have RU20 := Lib.hid (RU19.out.below hb)
              have RD20 := Lib.hid (RD19.out.below hb)
              have RP20 := Lib.hid (RP19.out.below hb)
              have RQ20 := Lib.hid (RQ19.out.below hb)
              clear hc hb q0 q1 RW19 RL19 RA19 RU19 RD19 RP19 RQ19 HB19 HC19
              go_wp2_with fail
              go_ret
              exact ⟨rfl, HB20.out⟩
      · have e6 : (t.nd.kind != 6) = true := by simp [hk]
        clear hk
        go_enter Tryd.func7, Tryd.ntmps7
        go_wp2_with fail
        refine (HF0.out _ HW0.out).mono ?_
        rintro e w1 ⟨rfl, hb0⟩
        rw [HFF.out]
        have HB1 := Lib.hid (Below.after HW0.out hb0)
        clear hb0
        go_wp2_with fail
        refine (HF1.out _ HB1.out).mono ?_
        rintro e w2 ⟨rfl, hb1⟩
        rw [HFX.out]
        have HB2 := Lib.hid (Below.after HB1.out hb1)
        clear hb1
        have a1 := (HB2.out.cell (p := ⟨g, o, none⟩) hg).trans HA0.out
        go_wp2_with (go_at_call 10; refine (HAL.out _ HB2.out).mono ?_; rintro e w3 ⟨rfl, hb3⟩)
        go_ret
        exact ⟨rfl, hb3⟩
theorem valPuts_any (v p : Value) (l0 l1 : List Nd) (nm mm : ByteArray) (w : World) (hv : Nds w v l0) (hp : Nds w p l1) (hT : Tabs w) (hs : nm.size ≤ maxLen) :
    Calls Tryd.prog 7 #[v, .agg #[.string nm, .string mm], p] w fun e w' => e = .returned (.bool true) ∧ Below w.heap.size w w' := by
  obtain ⟨⟨nl⟩⟩ := nm
  obtain ⟨⟨ml⟩⟩ := mm
  exact valPuts_list v p l0 l1 nl ml w hv hp hT hs
end Go.Proofs.YtoomgpbfcpnefaaDoor
