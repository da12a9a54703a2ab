/-
  Joined: PFew, PaLw, EvalDels.
-/
import Derived.Test.YtdgcdemihalefaaGreatDoorEvalDelsJ8
import Derived.Test.YtdgcdemihalefaaGreatDoorEvalDelsJ18
import Derived.Test.YtdgcdemihalefaaGreatDoorRefW6
import Derived.Test.YtdgcdemihalefaaGreatDoorEvalDelsJ13

/-
  Is a path short enough to be tried: no more than 31 steps, no name longer than 100 bytes.
-/
namespace Go.Proofs.YtdgcdemihalefaaGreatDoor
open Go.RowKit Np Rw Vp Pw

end Go.Proofs.YtdgcdemihalefaaGreatDoor

/-
  What path's laws share: trees out of short values; how long a value is with something else there, and its texts; errors.
-/
namespace Go.Proofs.YtdgcdemihalefaaGreatDoor
open Go.RowKit Np Rw Vp Up Qp Pw

/-- What a path's steps are, as they come. -/
def Stp (p : List St) : Prop := ∀ s ∈ p, s.name.length ≤ maxLen ∧ -9223372036854775808 ≤ s.n ∧ s.n ≤ 9223372036854775807
theorem Stp.nm {p : List St} (h : Stp p) : ∀ s ∈ p, s.name.length ≤ maxLen := fun s hs => (h s hs).1
end Go.Proofs.YtdgcdemihalefaaGreatDoor

/-
  The walk of EvalDels: it answers true.
-/
namespace Go.Proofs.YtdgcdemihalefaaGreatDoor
open Go.RowKit Go.Shelf Np Rw Vp Pw Ev

theorem few_tr40 {l : List Nd} (h : few 40 l = true) : ∃ t : Tr Nd, Val t ∧ l = flat t ∧ (flat t).length ≤ 40 := by
  rw [few, Bool.and_eq_true, Bool.and_eq_true, decide_eq_true_eq] at h
  obtain ⟨t, ht, rfl⟩ := val_of_rightL h.2
  exact ⟨t, ht, rfl, h.1.1⟩
theorem OutV.v {w w' : World} {t : Tr Nd} {e : Ending} (h : OutV w (.ok t) e w') : ∃ (A : Option Addr) (c : Nat), e = .returned (.tuple #[.slice A (flat t).length c, .int .i64 0]) ∧ Nds w' (.slice A (flat t).length c) (flat t) ∧ Below w.heap.size w w' := by
  obtain ⟨v', h1, h2, h3⟩ := h
  obtain ⟨A, c, rfl, -⟩ := id h2
  exact ⟨A, c, h1, h2, h3⟩
def lstR : Option (Tr Nd) → List Nd
  | some u => flat u
  | none => []
def errR : Option (Tr Nd) → Int
  | some _ => 0
  | none => 5
theorem OutV.g {w w' : World} {R : Option (Tr Nd)} {e : Ending} (h : OutV w (ofO R) e w') : ∃ (A : Option Addr) (c : Nat), e = .returned (.tuple #[.slice A (lstR R).length c, .int .i64 (errR R)]) ∧ Nds w' (.slice A (lstR R).length c) (lstR R) ∧ Below w.heap.size w w' := by
  cases R with
  | some u => exact h.v
  | none => exact ⟨none, 0, h.1, Row.nil _, h.2⟩
set_option maxRecDepth 100000 in
set_option maxHeartbeats 8000000 in
theorem evalDels_any (pv qv vv : Value) (p q : List St) (l : List Nd) (w : World) (hp : Sps w pv p) (hq : Sps w qv q) (hps : Stp p) (hqs : Stp q) (hvv : Nds w vv l) (hT : Pv w) :
    Calls Tryz.prog 4 #[.agg #[pv, qv], vv] w fun e w' => e = .returned (.bool true) ∧ Below w.heap.size w w' := by
  have HT := Lib.hid hT
  have HAL : Hid (∀ W, Below w.heap.size w W → Calls Tryz.prog 18 #[] W fun e w' => e = .returned (.bool true) ∧ Below w.heap.size w w') := Lib.hid (fun W hW => (evAlive_any W (HT.out.below hW)).mono fun e w' h => ⟨h.1, Below.after hW h.2⟩)
  have HFW := Lib.hid (fun (W : World) (hW : Below w.heap.size w W) => refFew_any vv l 40 W (hvv.below hW) (by decide))
  have HR0 := Lib.hid (fun (W : World) (hW : Below w.heap.size w W) => refRightP_any pv p W (hp.below hW) hps.nm)
  have HR1 := Lib.hid (fun (W : World) (hW : Below w.heap.size w W) => refRightP_any qv q W (hq.below hW) hqs.nm)
  have HFI := Lib.hid (fun (W : World) (hW : Below w.heap.size w W) => refFields_any pv p W (hp.below hW))
  have HAP := Lib.hid (fun (W : World) (hW : Below w.heap.size w W) => refApart_any pv qv p q W (hp.below hW) (hq.below hW))
  have HP := Lib.hid hp
  have HQ := Lib.hid hq
  have HV := Lib.hid hvv
  obtain ⟨PA, pc, rfl, -⟩ := hp
  obtain ⟨QA, qc, rfl, -⟩ := hq
  obtain ⟨VA, vc, rfl, -⟩ := hvv
  obtain ⟨W0, hW0⟩ : ∃ W0, W0 = w.alloc (.cells #[.slice PA p.length pc, .slice QA q.length qc] 33) := ⟨_, rfl⟩
  have HB : Hid (Below w.heap.size w W0) := Lib.hid (by rw [hW0]; exact (Below.refl _ _).alloc (Nat.le_refl _) _)
  have hlt : w.heap.size < W0.heap.size := by rw [hW0]; simp
  have HPC : Hid (∀ W, Below W0.heap.size W0 W → W.cell? ⟨w.heap.size, 0, none⟩ = some (.slice PA p.length pc) ∧ W.cell? ⟨w.heap.size, 1, none⟩ = some (.slice QA q.length qc)) := Lib.hid (fun W hW => by
    have h := heap_alloc_new w (.cells #[.slice PA p.length pc, .slice QA q.length qc] 33)
    rw [← hW0] at h
    exact ⟨(hW.cell (p := ⟨w.heap.size, 0, none⟩) hlt).trans (by rw [Lib.cell_of_heap h]; rfl), (hW.cell (p := ⟨w.heap.size, 1, none⟩) hlt).trans (by rw [Lib.cell_of_heap h]; rfl)⟩)
  have HW : Hid (Below W0.heap.size W0 W0) := Lib.hid (Below.refl _ _)
  clear hps hqs hT
  go_enter Tryz.func4, Tryz.ntmps4
  go_wp2_with fail
  rw [← hW0]
  clear hW0
  refine (HFW.out _ HB.out).mono ?_
  rintro e w1 ⟨rfl, hb1⟩
  have HW1 := Lib.hid (Below.after HW.out hb1)
  have HB1 := Lib.hid (Below.after HB.out hb1)
  clear hb1 HW HB
  rename Hid (Below W0.heap.size W0 w1) => HW
  rename Hid (Below w.heap.size w w1) => HB
  cases hfw : few 40 l
  · go_wp2_with fail
    refine (HAL.out _ HB.out).mono ?_
    rintro e wa ⟨rfl, hba⟩
    go_wp2_with fail
    go_ret
    exact ⟨rfl, hba⟩
  · obtain ⟨c0, c1⟩ := HPC.out _ HW.out
    go_wp2_with fail
    clear c0 c1
    refine (HR0.out _ HB.out).mono ?_
    rintro e w2 ⟨rfl, rfl⟩
    cases hr0 : rightP p
    · go_wp2_with fail
      refine (HAL.out _ HB.out).mono ?_
      rintro e wa ⟨rfl, hba⟩
      go_wp2_with fail
      go_ret
      exact ⟨rfl, hba⟩
    · obtain ⟨c0, c1⟩ := HPC.out _ HW.out
      go_wp2_with fail
      clear c0 c1
      refine (HR1.out _ HB.out).mono ?_
      rintro e w2 ⟨rfl, rfl⟩
      cases hr1 : rightP q
      · go_wp2_with fail
        refine (HAL.out _ HB.out).mono ?_
        rintro e wa ⟨rfl, hba⟩
        go_wp2_with fail
        go_ret
        exact ⟨rfl, hba⟩
      · obtain ⟨c0, c1⟩ := HPC.out _ HW.out
        go_wp2_with fail
        clear c0 c1
        refine (HFI.out _ HB.out).mono ?_
        rintro e w2 ⟨rfl, rfl⟩
        cases hfl : fields p
        · go_wp2_with fail
          refine (HAL.out _ HB.out).mono ?_
          rintro e wa ⟨rfl, hba⟩
          go_wp2_with fail
          go_ret
          exact ⟨rfl, hba⟩
        · by_cases h0 : p.length = 0
          · have hz : ((p.length : Int) == 0) = true := by simp [h0]
            obtain ⟨c0, c1⟩ := HPC.out _ HW.out
            go_wp2_with fail
            clear c0 c1
            refine (HAL.out _ HB.out).mono ?_
            rintro e wa ⟨rfl, hba⟩
            go_wp2_with fail
            go_ret
            exact ⟨rfl, hba⟩
          · have hz : ((p.length : Int) == 0) = false := by simpa using h0
            obtain ⟨t, ht, rfl, hl40⟩ := few_tr40 hfw
            have hpn : p ≠ [] := fun e => h0 (by rw [e]; rfl)
            have hpr : ∀ s ∈ p, rightS s = true := by
              rw [rightP, Bool.and_eq_true] at hr0
              exact fun s hs => List.all_eq_true.1 hr0.1 s hs
            have hqr : ∀ s ∈ q, rightS s = true := by
              rw [rightP, Bool.and_eq_true] at hr1
              exact fun s hs => List.all_eq_true.1 hr1.1 s hs
            have HGON := Lib.hid (fun x => del_gone p (t := t) (x := x) hpn hfl (rgt_of ht))
            have HAPT := Lib.hid (fun x => del_apart p q (t := t) (x := x) hfl (List.all_eq_true.2 hpr) (List.all_eq_true.2 hqr))
            have HDL : Hid (∀ (u : Tr Nd) (v : Value) (W : World), Below w.heap.size w W → Nds W v (flat u) → Val u → (flat u).length ≤ 40 → Calls Tryz.prog 19 #[.slice PA p.length pc, v] W (OutV W (ofO (cutE p u)))) := Lib.hid (fun u v W hW hv hu hl => evDelete_any _ v p u W (HP.out.below hW) hpr hv hu (by omega))
            have HFP : Hid (∀ (u : Tr Nd) (v : Value) (W : World), Below w.heap.size w W → Nds W v (flat u) → Val u → (flat u).length ≤ 40 → Calls Tryz.prog 20 #[.slice PA p.length pc, v] W (OutV W (ofO (alongE p u)))) := Lib.hid (fun u v W hW hv hu hl => evFollow_any _ v p u W (HP.out.below hW) hpr hv hu (by omega))
            have HFQ : Hid (∀ (u : Tr Nd) (v : Value) (W : World), Below w.heap.size w W → Nds W v (flat u) → Val u → (flat u).length ≤ 40 → Calls Tryz.prog 20 #[.slice QA q.length qc, v] W (OutV W (ofO (alongE q u)))) := Lib.hid (fun u v W hW hv hu hl => evFollow_any _ v q u W (HQ.out.below hW) hqr hv hu (by omega))
            have HVT := Lib.hid ht
            have HRG := Lib.hid (rgt_of ht)
            clear hr0 hr1 hfl hpn hpr hqr HR0 HR1 HFI HFW hfw ht h0
            obtain ⟨c0, c1⟩ := HPC.out _ HW.out
            go_wp2_with fail
            clear c0 c1
            have hD := HDL.out t _ _ HB.out (HV.out.below HB.out) HVT.out hl40
            cases hcu : cutE p t with
            | none =>
              rw [hcu] at hD
              refine hD.mono ?_
              rintro e w2 ⟨rfl, hb2⟩
              have HB2 := Lib.hid (Below.after HB.out hb2)
              clear hb2 hD
              go_wp2_with fail
              refine (HAL.out _ HB2.out).mono ?_
              rintro e wa ⟨rfl, hba⟩
              go_wp2_with fail
              go_ret
              exact ⟨rfl, hba⟩
            | some x =>
              rw [hcu] at hD
              obtain ⟨hg1, hg2⟩ := HGON.out x hcu
              have HXV := Lib.hid (cut_val HVT.out hcu)
              have hxl : (flat x).length ≤ 40 := Nat.le_trans (cut_len p hcu) hl40
              have hxp := flat_pos x
              have HCU := Lib.hid hcu
              have hx0 : (((flat x).length : Int) == 0) = false := beq_eq_false_iff_ne.2 (fun e => by omega)
              have HG1 := Lib.hid hg1
              have HG2 := Lib.hid hg2
              clear HGON hcu hg1 hg2
              refine hD.mono ?_
              intro e w2 h2
              obtain ⟨XA, xc, rfl, hx2, hb2⟩ := h2.v
              have HX2 := Lib.hid hx2
              have HB2 := Lib.hid (Below.after HB.out hb2)
              have HW2 := Lib.hid (Below.after HW.out hb2)
              clear hb2 hx2 h2 hD HB HW
              obtain ⟨c0, c1⟩ := HPC.out _ HW2.out
              generalize hXL : (flat x).length = xl at *
              go_wp2_with fail
              clear c0 c1
              have hF := HFP.out x _ w2 HB2.out HX2.out HXV.out (by rw [hXL]; exact hxl)
              rw [HG1.out] at hF
              refine hF.mono ?_
              intro e w3 h3
              obtain ⟨NA, nc, rfl, hn3, hb3⟩ := h3.v
              rw [nullT_len] at hn3 ⊢
              have HN3 := Lib.hid hn3
              have HX3 := Lib.hid (HX2.out.below hb3)
              have HB3 := Lib.hid (Below.after HB2.out hb3)
              have HW3 := Lib.hid (Below.after HW2.out hb3)
              clear hb3 hn3 h3 hF HX2 HB2 HW2
              obtain ⟨c0, c1⟩ := HPC.out _ HW3.out
              go_wp2_with fail
              clear c0 c1
              have hD := HDL.out x _ w3 HB3.out HX3.out HXV.out (by rw [hXL]; exact hxl)
              rw [HG2.out] at hD
              refine hD.mono ?_
              intro e w4 h4
              obtain ⟨YA, yc, rfl, hy4, hb4⟩ := h4.v
              rw [hXL] at hy4 ⊢
              have HY4 := Lib.hid hy4
              have HN4 := Lib.hid (HN3.out.below hb4)
              have HX4 := Lib.hid (HX3.out.below hb4)
              have HB4 := Lib.hid (Below.after HB3.out hb4)
              have HW4 := Lib.hid (Below.after HW3.out hb4)
              clear hb4 hy4 h4 hD HX3 HN3 HB3 HW3
              go_wp2_with fail
              have hz4 : Nds (w4.alloc (.cells #[.int .i64 0, .int .i64 0, .string ⟨#[]⟩, .string ⟨#[]⟩, .bool false, .int .i64 0] 43)) (.slice (some ⟨w4.heap.size, 0, none⟩) 1 1) (flat nullT) := row_one ndc_len w4 _ rfl _ _ zeroN rfl
              have hb4 : Below w4.heap.size w4 (w4.alloc (.cells #[.int .i64 0, .int .i64 0, .string ⟨#[]⟩, .string ⟨#[]⟩, .bool false, .int .i64 0] 43)) := (Below.refl _ _).alloc (Nat.le_refl _) _
              have hS := refSame_any _ _ _ _ _ (HN4.out.below hb4) hz4
              rw [show decide (flat nullT = flat nullT) = true by simp] at hS
              refine hS.mono ?_
              rintro e w5 ⟨rfl, hb5⟩
              have hb45 := Below.after hb4 hb5
              have HY5 := Lib.hid (HY4.out.below hb45)
              have HX5 := Lib.hid (HX4.out.below hb45)
              have HB5 := Lib.hid (Below.after HB4.out hb45)
              have HW5 := Lib.hid (Below.after HW4.out hb45)
              clear hz4 hb4 hS hb5 hb45 HY4 HX4 HN4 HB4 HW4
              go_wp2_with fail
              have hS := refSame_any _ _ _ _ w5 HX5.out HY5.out
              rw [show decide (flat x = flat x) = true by simp] at hS
              refine hS.mono ?_
              rintro e w6 ⟨rfl, hb6⟩
              have HX6 := Lib.hid (HX5.out.below hb6)
              have HB6 := Lib.hid (Below.after HB5.out hb6)
              have HW6 := Lib.hid (Below.after HW5.out hb6)
              clear hS hb6 HX5 HY5 HB5 HW5
              obtain ⟨c0, c1⟩ := HPC.out _ HW6.out
              go_wp2_with fail
              clear c0 c1
              have HEQ : Hid (apartP p q = true → alongE q x = alongE q t) := Lib.hid (fun ha => HAPT.out x ha HRG.out HCU.out)
              refine (HFQ.out t _ w6 HB6.out (HV.out.below HB6.out) HVT.out hl40).mono ?_
              intro e w7 h7
              obtain ⟨RA, rc, rfl, hr7, hb7⟩ := h7.g
              have HR7 := Lib.hid hr7
              have HX7 := Lib.hid (HX6.out.below hb7)
              have HB7 := Lib.hid (Below.after HB6.out hb7)
              have HW7 := Lib.hid (Below.after HW6.out hb7)
              clear hr7 hb7 h7 HX6 HB6 HW6 HAPT
              obtain ⟨c0, c1⟩ := HPC.out _ HW7.out
              go_wp2_with fail
              clear c0 c1
              refine (HFQ.out x _ w7 HB7.out HX7.out HXV.out (by rw [hXL]; exact hxl)).mono ?_
              intro e w8 h8
              obtain ⟨SA, sc, rfl, hr8, hb8⟩ := h8.g
              have HS8 := Lib.hid hr8
              have HR8 := Lib.hid (HR7.out.below hb8)
              have HB8 := Lib.hid (Below.after HB7.out hb8)
              have HW8 := Lib.hid (Below.after HW7.out hb8)
              clear hr8 hb8 h8 HX7 HB7 HW7 HR7 HG1 HG2 HCU HFQ HFP HDL
              go_wp2_with fail
              refine (evAlive_any w8 (HT.out.below HB8.out)).mono ?_
              rintro e w9 ⟨rfl, hb9⟩
              have HS9 := Lib.hid (HS8.out.below hb9)
              have HR9 := Lib.hid (HR8.out.below hb9)
              have HB9 := Lib.hid (Below.after HB8.out hb9)
              have HW9 := Lib.hid (Below.after HW8.out hb9)
              clear hb9 HS8 HR8 HB8 HW8
              obtain ⟨c0, c1⟩ := HPC.out _ HW9.out
              have HAP9 := Lib.hid (HAP.out w9 HB9.out)
              cases hap : apartP p q with
              | false =>
                rw [hap] at HAP9
                clear HEQ HAP hap
                go_wp2_with fail
                refine HAP9.out.mono ?_
                rintro e w10 ⟨rfl, nd, rfl⟩
                go_wp2_with fail
                go_ret
                exact ⟨rfl, drewN_below HB9.out _⟩
              | true =>
                rw [hap] at HAP9
                have he := HEQ.out hap
                rw [he] at HS9 ⊢
                clear HEQ HAP hap he
                go_wp2_with fail
                refine HAP9.out.mono ?_
                rintro e w10 ⟨rfl, nd, rfl⟩
                clear c0 c1
                have hS := refSame_any _ _ _ _ (w9.drewN nd) HR9.out HS9.out
                rw [show decide (lstR (alongE q t) = lstR (alongE q t)) = true by simp] at hS
                generalize lstR (alongE q t) = LR at *
                generalize errR (alongE q t) = ER at *
                go_wp2_with fail
                refine hS.mono ?_
                rintro e w11 ⟨rfl, hb11⟩
                go_wp2_with fail
                go_ret
                exact ⟨rfl, Below.after (drewN_below HB9.out nd) hb11⟩
end Go.Proofs.YtdgcdemihalefaaGreatDoor
