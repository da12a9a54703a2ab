/-
  Joined: TqD, TqE, RefW8, TxX, TqF, TqG, TqL, TextParsesCard.
-/
import Derived.Test.YtafbojiojeemoaaGreatDoorTextParsesJ2
import Derived.Test.YtafbojiojeemoaaGreatDoorTextParsesJ3
import Derived.Test.YtafbojiojeemoaaGreatDoorTextParsesJ1
import Derived.Test.YtafbojiojeemoaaGreatDoorTextCutJ13
import Derived.Test.YtafbojiojeemoaaGreatDoorTextCutJ15
import Derived.Test.YtafbojiojeemoaaGreatDoorTextCutJ16

/-
  The document's own reading of texts: what object of louperef04 answers, over what value answers.
-/
namespace Go.Proofs.YtafbojiojeemoaaGreatDoor
open Go.RowKit Np Rw Vp Up Qp Tp

/-- What one has so far. -/
structure Obz (w : World) (i kk : Nat) (acc : List Pr) (t : Tr Nd) (ov : Value) (W : World) : Prop where
  own : OwnN w.heap.size W ov (flat t)
  gz : Gz w W
  val : Val t
  kind : t.nd.kind = 6
  perm : acc.Perm (prs t)
  few : FdP i kk acc
theorem Obz.is {w W : World} {i kk : Nat} {acc : List Pr} {t : Tr Nd} {ov : Value} (h : Obz w i kk acc t ov W) : obV acc = flat t := obV_perm h.val h.kind h.perm
theorem Obz.len {w W : World} {i kk : Nat} {acc : List Pr} {t : Tr Nd} {ov : Value} (h : Obz w i kk acc t ov W) : 2 * (flat t).length ≤ kk + 2 := by
  have h1 := h.few.few.1
  rw [← h.is, obV_len h.few]; omega
theorem Obz.short {w W : World} {i kk : Nat} {acc : List Pr} {t : Tr Nd} {ov : Value} (h : Obz w i kk acc t ov W) (hk : kk ≤ 600) : ∀ s ∈ t.ks.map (fun k => k.nd.name), s.length ≤ maxLen := by
  intro s hs
  have e : t.ks.map (fun k => k.nd.name) = (prs t).map (·.1) := by simp [prs, Function.comp_def]
  rw [e] at hs
  obtain ⟨p, hp, rfl⟩ := List.mem_map.1 ((h.perm.map (·.1)).mem_iff.2 hs)
  have := (h.few.2.2.2 p hp).2
  unfold maxLen; omega
def obj0 : Tr Nd := objT []
theorem obj0_val : Val obj0 := val_objT (by intro t ht; cases ht) ⟨by simp [Rise], by intro t ht; cases ht⟩
theorem obj0_flat : flat obj0 = [hdN 6 0] := by rw [obj0, flat_objT]; rfl
theorem obj0_prs : prs obj0 = [] := rfl
set_option maxRecDepth 100000 in
set_option maxHeartbeats 16000000 in
theorem refObjectG_any (s : ByteArray) (n : Nat) (i : Nat) (dd : Int) (w : World) (hs : s.size ≤ 600) (hi : i < s.size) (hd0 : 0 ≤ dd) (hd1 : dd ≤ 127) (hV : ValG s (vlR s.data.toList n) (dd + 1)) :
    Calls Tryz.prog 64 #[.string s, .int .i64 i, .int .i64 dd] w (GotE w (mapR obV (ptR (fdR (vlR s.data.toList n) s.data.toList) putP [] s.data.toList 125 i))) := by
  have HV := Lib.hid hV
  have hlen : s.data.toList.length = s.size := size_toList s
  have HBL := Lib.hid (fun (k : Nat) W (hk : k ≤ s.size) => refBlank_any s k W (by omega) hk)
  have HSK : Hid (∀ k, k ≤ s.size → k ≤ sk s.data.toList k ∧ sk s.data.toList k ≤ s.size) := Lib.hid (fun k hk => ⟨sk_ge _ _, by have := sk_le (S := s.data.toList) (i := k) (by omega); omega⟩)
  have HHA := Lib.hid (fun (c : UInt8) (hc : c.toNat ≠ 0) (k : Nat) W (hk : k ≤ s.size) => (by
    have h := refHas_any s ⟨#[c]⟩ k W (by omega) (by rw [show (ByteArray.mk #[c]).size = 1 from rfl]; decide) hk
    have e : Lib.hasPrefix (s.data.toList.drop k) (ByteArray.mk #[c]).data.toList = decide (bt s.data.toList k = c.toNat) := has_one hc k
    rw [e] at h
    exact h : Calls Tryz.prog 59 #[.string s, .int .i64 k, .string ⟨#[c]⟩] W fun e w' => e = .returned (.bool (decide (bt s.data.toList k = c.toNat))) ∧ w' = W))
  have HGO := Lib.hid (vlR_goes s.data.toList n)
  have HER := Lib.hid (fun j e q (hj : j ≤ s.size) h => vlR_err s.data.toList n j e q (by omega) h)
  have HGD := Lib.hid (fun j v k h => vlR_good s.data.toList n j v k h)
  have HUN := Lib.hid (fun (k : Nat) W (hk : k ≤ s.size) => (by
    have h := refUnquote_any (s.extract k s.size) W (by rw [ByteArray.size_extract]; omega)
    have e : (s.extract k s.size).data.toList = s.data.toList.drop k := by
      have h2 := Lib.extract_toList s k s.size
      rw [ByteArray.toList_eq] at h2
      rw [h2, List.take_of_length_le (by rw [List.length_drop, size_toList]; exact Nat.le_refl _)]
    rw [e] at h
    exact h : Calls Tryz.prog 61 #[.string (s.extract k s.size)] W fun e w' => e = .returned (uqv (unqs (s.data.toList.drop k))) ∧ Below W.heap.size W w'))
  obtain ⟨g1, g2⟩ := HSK.out (i + 1) (by omega)
  have HR0 : Hid (ptR (fdR (vlR s.data.toList n) s.data.toList) putP [] s.data.toList 125 i = if bt s.data.toList (sk s.data.toList (i + 1)) = 125 then .ok [] (sk s.data.toList (i + 1) + 1) else lpR (fdR (vlR s.data.toList n) s.data.toList) putP s.data.toList 125 (s.size + 1) (sk s.data.toList (i + 1)) []) := Lib.hid (by unfold ptR; rw [hlen])
  have hss : sk s.data.toList (sk s.data.toList (i + 1)) = sk s.data.toList (i + 1) := sk_sk _ _
  have HSS := Lib.hid hss
  generalize hj : sk s.data.toList (i + 1) = j at *
  have HJ := Lib.hid hj
  generalize ptR (fdR (vlR s.data.toList n) s.data.toList) putP [] s.data.toList 125 i = R at *
  clear hss hj hV hlen
  have HG := Lib.hid (Gz.new w)
  have HO0 : Hid (OwnN w.heap.size ((w.alloc gotZ).alloc (.cells #[.int .i64 6, .int .i64 0, .string ⟨#[]⟩, .string ⟨#[]⟩, .bool false, .int .i64 0] 35)) (.slice (some ⟨w.heap.size + 1, 0, none⟩) 1 1) [hdN 6 0]) := Lib.hid (by
    have := Own.lit (base := w.heap.size) (E := 35) ndc_len (w.alloc gotZ) #[.int .i64 6, .int .i64 0, .string ⟨#[]⟩, .string ⟨#[]⟩, .bool false, .int .i64 0] [hdN 6 0] (by simp) (by unfold maxLen; simp) rfl
    simpa using this)
  go_enter Tryz.func64, Tryz.ntmps64
  go_wp2_with fail
  have hBL1 := HBL.out (i + 1) ((w.alloc gotZ).alloc (.cells #[.int .i64 6, .int .i64 0, .string ⟨#[]⟩, .string ⟨#[]⟩, .bool false, .int .i64 0] 35)) (by omega)
  rw [HJ.out, Int.natCast_add] at hBL1
  refine hBL1.mono ?_
  rintro e wb ⟨rfl, rfl⟩
  clear hBL1
  have HG1 : Hid (Gz w ((w.alloc gotZ).alloc (.cells #[.int .i64 6, .int .i64 0, .string ⟨#[]⟩, .string ⟨#[]⟩, .bool false, .int .i64 0] 35))) := Lib.hid (HG.out.step ((Below.refl _ _).alloc (Nat.le_refl _) _))
  generalize (w.alloc gotZ).alloc (.cells #[.int .i64 6, .int .i64 0, .string ⟨#[]⟩, .string ⟨#[]⟩, .bool false, .int .i64 0] 35) = wb at *
  go_wp2_with fail
  have hh1 := HHA.out 125 (by decide) j wb g2
  by_cases h93 : bt s.data.toList j = 125
  · rw [show decide (bt s.data.toList j = (125 : UInt8).toNat) = true from decide_eq_true h93] at hh1
    refine hh1.mono ?_
    rintro e wc ⟨rfl, rfl⟩
    clear hh1
    have HRR : Hid (mapR obV R = .ok [hdN 6 0] (j + 1)) := Lib.hid (by
      rw [HR0.out, if_pos h93, ← obj0_flat, ← obV_perm obj0_val rfl (acc := []) (by rw [obj0_prs])]
      rfl)
    clear h93 HR0
    obtain ⟨k0, k1, k2, hfz, hz4⟩ := HG1.out.cells
    go_wp2_with fail
    exact bodyPost_ret (v := .agg #[.slice (some ⟨w.heap.size + 1, 0, none⟩) 1 1, .int .i64 ((j + 1 : Nat) : Int), .int .i64 0]) (by simp [results, Tryz.results64, go_sem, k0, k1, k2]) rfl (got_ok HRR.out HG1.out HO0.out)
  · rw [show decide (bt s.data.toList j = (125 : UInt8).toNat) = false from decide_eq_false h93] at hh1
    refine hh1.mono ?_
    rintro e wc ⟨rfl, rfl⟩
    clear hh1
    have HRR : Hid (lpR (fdR (vlR s.data.toList n) s.data.toList) putP s.data.toList 125 (s.size + 1) j [] = R) := Lib.hid (by rw [HR0.out, if_neg h93])
    have HL0 : Hid (Obz w i j [] obj0 (.slice (some ⟨w.heap.size + 1, 0, none⟩) 1 1) wc) := Lib.hid ⟨by rw [obj0_flat]; exact HO0.out, HG1.out, obj0_val, rfl, by rw [obj0_prs], FdP.zero (by omega)⟩
    clear h93 HR0 HO0 HG1
    go_wp2_with fail
    go_loopw [1, 7] (fun iv ov wr => ∃ (m kk : Nat) (acc : List Pr) (t : Tr Nd), kk ≤ s.size ∧ s.size < m + kk ∧ iv = .int .i64 (sk s.data.toList kk : Nat) ∧ Hid (lpR (fdR (vlR s.data.toList n) s.data.toList) putP s.data.toList 125 m kk acc = R) ∧ Hid (Obz w i kk acc t ov wr)) (fun iv _ _ => s.size - (intOf iv).toNat)
    case atStart => exact ⟨s.size + 1, j, [], obj0, g2, by omega, by rw [HSS.out], HRR, HL0⟩
    case round =>
      obtain ⟨m, kk, acc, t, hk, hm, rfl, HF, HL⟩ := hrel
      obtain ⟨m, rfl⟩ : ∃ q, m = q + 1 := ⟨m - 1, by omega⟩
      obtain ⟨q1, q2⟩ := HSK.out kk hk
      obtain ⟨A, c, rfl, -⟩ := HL.out.own.form
      have HU := Lib.hid (HUN.out (sk s.data.toList kk) wr q2)
      have hshp := unqs_shape (s.data.toList.drop (sk s.data.toList kk))
      have hst : stR s.data.toList (sk s.data.toList kk) = if (unqs (s.data.toList.drop (sk s.data.toList kk))).2.2 = 0 then .ok (unqs (s.data.toList.drop (sk s.data.toList kk))).1 (sk s.data.toList kk + (unqs (s.data.toList.drop (sk s.data.toList kk))).2.1) else .bad (unqs (s.data.toList.drop (sk s.data.toList kk))).2.2 (sk s.data.toList kk + (unqs (s.data.toList.drop (sk s.data.toList kk))).2.1) := rfl
      have hfd : fdR (vlR s.data.toList n) s.data.toList kk = match stR s.data.toList (sk s.data.toList kk) with
        | .bad e p => .bad e p
        | .ok nm k => if bt s.data.toList (sk s.data.toList k) = 58 then (match vlR s.data.toList n (sk s.data.toList k + 1) with
          | .bad e p => .bad e p
          | .ok v k2 => .ok (nm, v) k2) else .bad 1 (sk s.data.toList k) := rfl
      rw [List.length_drop, size_toList] at hshp
      generalize unqs (s.data.toList.drop (sk s.data.toList kk)) = U at *
      obtain ⟨nm, nn, ee⟩ := U
      simp only at hshp hst
      simp only [uqv] at HU
      generalize hjj : sk s.data.toList kk = jj at *
      by_cases hee : ee = 0
      · subst hee
        rw [if_pos rfl] at hst
        rw [hst] at hfd
        simp only at hfd
        have hsh2 : Lib.validD nm = true ∧ 2 ≤ nn ∧ nn ≤ s.size - jj ∧ nm.length + 2 ≤ nn := by
          rcases hshp with ⟨-, a1, a2, a3, -, a4, -⟩ | ⟨-, a1, -⟩
          · exact ⟨a1, a2, a3, a4⟩
          · omega
        obtain ⟨v1, v2, v3, v4⟩ := hsh2
        clear hshp hst
        obtain ⟨q3, q4⟩ := HSK.out (jj + nn) (by omega)
        have HBK := HBL.out (jj + nn)
        rw [Int.natCast_add] at HBK
        have HBK := Lib.hid HBK
        have HH2 := Lib.hid (fun W => HHA.out 58 (by decide) (sk s.data.toList (jj + nn)) W q4)
        by_cases h58 : bt s.data.toList (sk s.data.toList (jj + nn)) = 58
        · rw [if_pos h58] at hfd
          have hj2 : sk s.data.toList (jj + nn) < s.size := by have := bt_lt (S := s.data.toList) (k := sk s.data.toList (jj + nn)) (by omega); rwa [size_toList] at this
          rw [show decide (bt s.data.toList (sk s.data.toList (jj + nn)) = (58 : UInt8).toNat) = true from decide_eq_true h58] at HH2
          clear h58
          generalize sk s.data.toList (jj + nn) = j2 at *
          have HBK2 := HBL.out (j2 + 1)
          rw [Int.natCast_add] at HBK2
          have HBK2 := Lib.hid HBK2
          obtain ⟨q5, q6⟩ := HSK.out (j2 + 1) (by omega)
          have HC := Lib.hid (fun W => HV.out (sk s.data.toList (j2 + 1)) W q6 (sk_sk _ _))
          rw [← vlR_sk] at HC
          have HK5 : Hid (∀ v k, vlR s.data.toList n (j2 + 1) = .ok v k → j2 + 1 < k) := Lib.hid (fun v k h => (HGO.out _ v k h).1)
          generalize sk s.data.toList (j2 + 1) = j3 at *
          cases hr : vlR s.data.toList n (j2 + 1) with
          | bad er p =>
            have hee := (HER.out (j2 + 1) er p (by omega) hr).1
            have her : (er != 0) = true := by simp; omega
            have her2 : (er == 0) = false := by simp; omega
            rw [hr] at hfd HC
            simp only at hfd
            have HRX : Hid (mapR obV R = .bad er p) := Lib.hid (by rw [← HF.out, lpR_bad hfd]; rfl)
            clear hr hee hfd
            go_wp2_with fail
            refine HU.out.mono ?_
            rintro e w1 ⟨rfl, hb1⟩
            have HG1 := Lib.hid (HL.out.gz.step hb1)
            clear hb1
            go_wp2_with fail
            refine (HBK.out _ (by omega)).mono ?_
            rintro e w2 ⟨rfl, rfl⟩
            go_wp2_with fail
            refine (HH2.out _).mono ?_
            rintro e w2 ⟨rfl, rfl⟩
            go_wp2_with fail
            refine (HBK2.out _ (by omega)).mono ?_
            rintro e w2 ⟨rfl, rfl⟩
            go_wp2_with fail
            refine (HC.out _).mono ?_
            rintro e w3 ⟨rfl, hb3⟩
            have HG2 := Lib.hid ((HG1.out.step hb3.out).step ((Below.refl _ _).alloc (Nat.le_refl _) (.cells #[.slice none 0 0, .int .i64 (p : Nat), .int .i64 er] 59)))
            obtain ⟨k0, k1, k2, hfz, hz4⟩ := HG2.out.cells
            go_wp2_with fail
            exact bodyPost_ret (v := .agg #[.slice none 0 0, .int .i64 (p : Nat), .int .i64 er]) (by simp [results, Tryz.results64, go_sem, k0, k1, k2]) rfl (got_bad HRX.out HG2.out)
          | ok v k =>
            rw [hr] at hfd HC
            simp only at hfd
            obtain ⟨t1, t2, ⟨-, t6⟩, t3, t4⟩ := fdR_ok HGO.out hfd
            rw [size_toList] at t2
            have t5 := HK5.out v k hr
            obtain ⟨⟨tt, htv, hvt, -⟩, -⟩ := HGD.out (j2 + 1) v k hr
            have HA : Hid (lpA (fdR (vlR s.data.toList n) s.data.toList) putP s.data.toList 125 m k (putP acc (nm, v)) = R) := Lib.hid (by rw [← HF.out, lpR_ok hfd])
            have HLI : Hid (∀ k', k < k' → FdP i k' (putP acc (nm, v))) := Lib.hid (fun k' hk' => HL.out.few.put v1 t6 t4 t1 hk')
            have HLN := HL.out.len
            have HSH := HL.out.short (by omega)
            have hnm : nm.length ≤ maxLen := by unfold maxLen; omega
            simp only at t3 t4 t6
            clear hr hfd HF HK5
            subst hvt
            have HPM := Lib.hid (put_perm (nm := nm) HL.out.val HL.out.kind htv HL.out.perm)
            have HVL := Lib.hid (val_put HL.out.val HL.out.kind htv v1)
            have HWT := Lib.hid (fun (B : Option Addr) (d : Nat) (W : World) hv hp => refWith_any (.slice A (flat t).length c) (.slice B (flat tt).length d) t tt nm W hv hp (by omega) (by omega) HL.out.val HL.out.kind htv v1 hnm HSH)
            obtain ⟨q7, q8⟩ := HSK.out k t2
            clear hnm HSH htv t3 t4
            go_wp2_with fail
            refine HU.out.mono ?_
            rintro e w1 ⟨rfl, hb1⟩
            have HG1 := Lib.hid (HL.out.gz.step hb1)
            have HO1 := Lib.hid (HL.out.own.below hb1)
            clear hb1
            go_wp2_with fail
            refine (HBK.out _ (by omega)).mono ?_
            rintro e w2 ⟨rfl, rfl⟩
            go_wp2_with fail
            refine (HH2.out _).mono ?_
            rintro e w2 ⟨rfl, rfl⟩
            go_wp2_with fail
            refine (HBK2.out _ (by omega)).mono ?_
            rintro e w2 ⟨rfl, rfl⟩
            go_wp2_with fail
            refine (HC.out _).mono ?_
            rintro e w3 ⟨A3, c3, rfl, ho3, hb3⟩
            have HO3 := Lib.hid (HO1.out.below hb3.out)
            have HG3 := Lib.hid (HG1.out.step hb3.out)
            clear hb3
            have hxz : (w3.alloc (.cells #[.slice A3 (flat tt).length c3, .int .i64 (k : Nat), .int .i64 0] 59)).heap[w3.heap.size]? = some (.cells #[.slice A3 (flat tt).length c3, .int .i64 (k : Nat), .int .i64 0] 59) := heap_alloc_new w3 _
            have hW := HWT.out A3 c3 (w3.alloc (.cells #[.slice A3 (flat tt).length c3, .int .i64 (k : Nat), .int .i64 0] 59)) ((HO3.out.alloc _).row ndc_len) ((ho3.out.alloc _).row ndc_len)
            go_wp2_with fail
            refine hW.mono ?_
            rintro e w4 ⟨v4, rfl, hv4, hb4⟩
            have xa : w4.cell? ⟨w3.heap.size, 1, none⟩ = some (.int .i64 (k : Nat)) := (hb4.cell (p := ⟨w3.heap.size, 1, none⟩) (by simp)).trans (by rw [Lib.cell_of_heap hxz]; rfl)
            have HG4 := Lib.hid ((HG3.out.step ((Below.refl _ _).alloc (Nat.le_refl _) _)).step hb4)
            have HV4 := Lib.hid (hv4.mono (by have := HG3.out.2.size; simp; omega : w.heap.size ≤ _))
            obtain ⟨A4, c4, rfl, -⟩ := hv4.form
            have HOS : Hid (∀ k', k < k' → Obz w i k' (putP acc (nm, flat tt)) (withT nm tt t) (.slice A4 (flat (withT nm tt t)).length c4) w4) := Lib.hid (fun k' hk' => ⟨HV4.out, HG4.out, HVL.out, rfl, HPM.out, HLI.out k' hk'⟩)
            clear hW hv4 hb4 hxz HWT
            have HIS : Hid (obV (putP acc (nm, flat tt)) = flat (withT nm tt t)) := Lib.hid (obV_perm HVL.out rfl HPM.out)
            generalize flat (withT nm tt t) = fl at HV4 HIS HOS ⊢
            generalize hfl : fl.length = ln at *
            have HBK := HBL.out k w4 t2
            go_wp2_with fail
            refine HBK.mono ?_
            rintro e w5 ⟨rfl, rfl⟩
            clear HBK
            have hh1 := HHA.out 125 (by decide) (sk s.data.toList k) w5 q8
            by_cases h93 : bt s.data.toList (sk s.data.toList k) = 125
            · rw [show decide (bt s.data.toList (sk s.data.toList k) = (125 : UInt8).toNat) = true from decide_eq_true h93] at hh1
              have HRX : Hid (mapR obV R = .ok fl (sk s.data.toList k + 1)) := Lib.hid (by rw [← HA.out, lpA, if_pos h93, ← HIS.out]; rfl)
              generalize sk s.data.toList k = jx at *
              go_wp2_with fail
              refine hh1.mono ?_
              rintro e w6 ⟨rfl, rfl⟩
              clear hh1 h93
              obtain ⟨k0, k1, k2, hfz, hz4⟩ := HG4.out.cells
              go_wp2_with fail
              exact bodyPost_ret (v := .agg #[.slice A4 ln c4, .int .i64 ((jx + 1 : Nat) : Int), .int .i64 0]) (by simp [results, Tryz.results64, go_sem, k0, k1, k2]) rfl (by subst hfl; exact got_ok HRX.out HG4.out HV4.out)
            · rw [show decide (bt s.data.toList (sk s.data.toList k) = (125 : UInt8).toNat) = false from decide_eq_false h93] at hh1
              have hh2 := HHA.out 44 (by decide) (sk s.data.toList k) w5 q8
              by_cases h44 : bt s.data.toList (sk s.data.toList k) = 44
              · rw [show decide (bt s.data.toList (sk s.data.toList k) = (44 : UInt8).toNat) = true from decide_eq_true h44] at hh2
                have hjl : sk s.data.toList k < s.size := by have := bt_lt (S := s.data.toList) (k := sk s.data.toList k) (by omega); rwa [size_toList] at this
                have HF2 : Hid (lpR (fdR (vlR s.data.toList n) s.data.toList) putP s.data.toList 125 m (sk s.data.toList k + 1) (putP acc (nm, flat tt)) = R) := Lib.hid (by rw [← HA.out, lpA, if_neg h93, if_pos h44])
                have HLX := Lib.hid (HOS.out (sk s.data.toList k + 1) (by omega))
                have HBK := HBL.out (sk s.data.toList k + 1) w5 (by omega)
                obtain ⟨q9, q10⟩ := HSK.out (sk s.data.toList k + 1) (by omega)
                rw [Int.natCast_add] at HBK
                generalize sk s.data.toList k = jx at *
                go_wp2_with fail
                refine hh1.mono ?_
                rintro e w6 ⟨rfl, rfl⟩
                go_wp2_with fail
                refine hh2.mono ?_
                rintro e w7 ⟨rfl, rfl⟩
                clear hh1 hh2 h93 h44
                go_wp2_with fail
                refine HBK.mono ?_
                rintro e w8 ⟨rfl, rfl⟩
                clear HBK
                go_wp2_with fail
                refine ⟨⟨m, jx + 1, putP acc (nm, flat tt), withT nm tt t, by omega, by omega, rfl, HF2, HLX⟩, ?_⟩
                simp [intOf]; omega
              · rw [show decide (bt s.data.toList (sk s.data.toList k) = (44 : UInt8).toNat) = false from decide_eq_false h44] at hh2
                have HRX : Hid (mapR obV R = .bad 1 (sk s.data.toList k)) := Lib.hid (by rw [← HA.out, lpA, if_neg h93, if_neg h44]; rfl)
                generalize sk s.data.toList k = jx at *
                go_wp2_with fail
                refine hh1.mono ?_
                rintro e w6 ⟨rfl, rfl⟩
                go_wp2_with fail
                refine hh2.mono ?_
                rintro e w7 ⟨rfl, rfl⟩
                clear hh1 hh2 h93 h44
                go_wp2_with fail
                refine (refBad_any 1 (jx : Int) _).mono ?_
                rintro e w8 ⟨rfl, hb8⟩
                have HG8 := Lib.hid (HG4.out.step hb8)
                obtain ⟨k0, k1, k2, hfz, hz4⟩ := HG8.out.cells
                clear hb8
                go_wp2_with fail
                exact bodyPost_ret (v := .agg #[.slice none 0 0, .int .i64 (jx : Nat), .int .i64 1]) (by simp [results, Tryz.results64, go_sem, k0, k1, k2]) rfl (got_bad HRX.out HG8.out)
        · rw [if_neg h58] at hfd
          rw [show decide (bt s.data.toList (sk s.data.toList (jj + nn)) = (58 : UInt8).toNat) = false from decide_eq_false h58] at HH2
          have HRX : Hid (mapR obV R = .bad 1 (sk s.data.toList (jj + nn))) := Lib.hid (by rw [← HF.out, lpR_bad hfd]; rfl)
          clear h58 hfd
          generalize sk s.data.toList (jj + nn) = j2 at *
          go_wp2_with fail
          refine HU.out.mono ?_
          rintro e w1 ⟨rfl, hb1⟩
          have HG1 := Lib.hid (HL.out.gz.step hb1)
          clear hb1
          go_wp2_with fail
          refine (HBK.out _ (by omega)).mono ?_
          rintro e w2 ⟨rfl, rfl⟩
          go_wp2_with fail
          refine (HH2.out _).mono ?_
          rintro e w2 ⟨rfl, rfl⟩
          go_wp2_with fail
          refine (refBad_any 1 (j2 : Int) _).mono ?_
          rintro e w6 ⟨rfl, hb6⟩
          have HG6 := Lib.hid (HG1.out.step hb6)
          obtain ⟨k0, k1, k2, hfz, hz4⟩ := HG6.out.cells
          clear hb6
          go_wp2_with fail
          exact bodyPost_ret (v := .agg #[.slice none 0 0, .int .i64 (j2 : Nat), .int .i64 1]) (by simp [results, Tryz.results64, go_sem, k0, k1, k2]) rfl (got_bad HRX.out HG6.out)
      · have her : (ee != 0) = true := by simpa using hee
        have her2 : (ee == 0) = false := by simpa using hee
        rw [if_neg hee] at hst
        rw [hst] at hfd
        simp only at hfd
        have hnn : nn ≤ 600 := by rcases hshp with ⟨h, -⟩ | ⟨-, -, h⟩ <;> omega
        have HRX : Hid (mapR obV R = .bad ee (jj + nn)) := Lib.hid (by rw [← HF.out, lpR_bad hfd]; rfl)
        clear hst hfd hshp
        go_wp2_with fail
        refine HU.out.mono ?_
        rintro e w1 ⟨rfl, hb1⟩
        have HG1 := Lib.hid (HL.out.gz.step hb1)
        clear hb1
        go_wp2_with fail
        refine (refBad_any ee ((jj : Int) + (nn : Int)) _).mono ?_
        rintro e w6 ⟨rfl, hb6⟩
        have HG6 := Lib.hid (HG1.out.step hb6)
        obtain ⟨k0, k1, k2, hfz, hz4⟩ := HG6.out.cells
        clear hb6
        go_wp2_with fail
        rw [← Int.natCast_add]
        exact bodyPost_ret (v := .agg #[.slice none 0 0, .int .i64 ((jj + nn : Nat) : Int), .int .i64 ee]) (by simp [results, Tryz.results64, go_sem, k0, k1, k2]) rfl (got_bad HRX.out HG6.out)
end Go.Proofs.YtafbojiojeemoaaGreatDoor

/-
  The document's own reading of texts: what value, and Parse, of louperef04 answer.
-/
namespace Go.Proofs.YtafbojiojeemoaaGreatDoor
open Go.RowKit Np Rw Vp Up Qp Tp

/-- What another reader answered is handed on. -/
theorem got_pass {w1 w2 : World} {R : Rs (List Nd)} {e : Ending} (h : GotE w1 R e w2) : ∃ (A : Option Addr) (a c : Nat) (p er : Int), e = .returned (.agg #[.slice A a c, .int .i64 p, .int .i64 er]) ∧ Hid (Below w1.heap.size w1 w2) ∧ Hid (∀ w, Gz w w2 → w.heap.size ≤ w1.heap.size →
    GotE w R (.returned (.agg #[.slice A a c, .int .i64 p, .int .i64 er])) (((w2.setCell ⟨w.heap.size, 0, none⟩ (.slice A a c)).setCell ⟨w.heap.size, 1, none⟩ (.int .i64 p)).setCell ⟨w.heap.size, 2, none⟩ (.int .i64 er))) := by
  cases R with
  | ok v k =>
    obtain ⟨A, c, he, ho, hb⟩ := h
    exact ⟨_, _, _, _, _, he, hb, Lib.hid (fun w hg hle => got_ok rfl hg (ho.out.mono hle))⟩
  | bad er p =>
    obtain ⟨he, hb⟩ := h
    exact ⟨_, _, _, _, _, he, hb, Lib.hid (fun w hg hle => got_bad rfl hg)⟩
theorem vl1_word {S : List UInt8} {arr obj : Nat → Rs (List Nd)} {j : Nat} (h : bt S j = 110 ∨ bt S j = 102 ∨ bt S j = 116) : vl1 S arr obj j = woR S j := by
  unfold vl1
  rw [if_neg (by omega), if_neg (by omega), if_neg (by omega), if_neg (by omega)]
theorem pre_word {l x : List UInt8} (h : Lib.hasPrefix l x = true) : ∃ r, l = x ++ r := by
  unfold Lib.hasPrefix at h
  obtain ⟨r, h⟩ := List.isPrefixOf_iff_prefix.1 h
  exact ⟨r, h.symm⟩
theorem vl1_has {S : List UInt8} {arr obj : Nat → Rs (List Nd)} {j : Nat} {k : Int} (hk : k = 0 ∨ k = 1 ∨ k = 2) (h : Lib.hasPrefix (S.drop j) (wordT k) = true) : vl1 S arr obj j = .ok [hdN k 0] (j + (wordT k).length) := by
  obtain ⟨r, hr⟩ := pre_word h
  obtain ⟨h1, h2⟩ := wo_back hk hr
  rw [vl1_word h2, h1]
set_option maxRecDepth 100000 in
set_option maxHeartbeats 16000000 in
theorem refValueG_of (s : ByteArray) (i : Nat) (dd : Int) (arr obj : Nat → Rs (List Nd)) (w : World) (hs : s.size ≤ 600) (hi : i ≤ s.size) (hd0 : 0 ≤ dd) (hd1 : dd ≤ 128)
    (hA : i < s.size → dd ≤ 127 → ∀ W, Calls Tryz.prog 63 #[.string s, .int .i64 i, .int .i64 dd] W (GotE W (arr i)))
    (hO : i < s.size → dd ≤ 127 → ∀ W, Calls Tryz.prog 64 #[.string s, .int .i64 i, .int .i64 dd] W (GotE W (obj i)))
    (hD : 127 < dd → arr i = .bad 3 i ∧ obj i = .bad 3 i) :
    Calls Tryz.prog 32 #[.string s, .int .i64 i, .int .i64 dd] w (GotE w (vl1 s.data.toList arr obj i)) := by
  have HLA := Lib.hid hA
  have HOA := Lib.hid hO
  have HDA := Lib.hid hD
  have HAS := Lib.hid (fun (x : List UInt8) (hx : x.length ≤ 10) W => (by
    have h := refHas_any s ⟨x.toArray⟩ i W (by omega) (by rw [mk_size]; omega) hi
    rw [mk_data] at h
    exact h : Calls Tryz.prog 59 #[.string s, .int .i64 i, .string ⟨x.toArray⟩] W fun e w' => e = .returned (.bool (Lib.hasPrefix (s.data.toList.drop i) x)) ∧ w' = W))
  have HN := Lib.hid (fun W => refNumberG_any s i W (by omega) hi)
  have HUN := Lib.hid (fun W => (by
    have h := refUnquote_any (s.extract i s.size) W (by rw [ByteArray.size_extract]; omega)
    have e : (s.extract i s.size).data.toList = s.data.toList.drop i := by
      have h2 := Lib.extract_toList s i s.size
      rw [ByteArray.toList_eq] at h2
      rw [h2, List.take_of_length_le (by rw [List.length_drop, size_toList]; exact Nat.le_refl _)]
    rw [e] at h
    exact h : Calls Tryz.prog 61 #[.string (s.extract i s.size)] W fun e w' => e = .returned (uqv (unqs (s.data.toList.drop i))) ∧ Below W.heap.size W w'))
  have HW := Lib.hid (fun (k : Int) (hk : k = 0 ∨ k = 1 ∨ k = 2) (h : Lib.hasPrefix (s.data.toList.drop i) (wordT k) = true) => vl1_has (arr := arr) (obj := obj) hk h)
  have HNW : Hid (Lib.hasPrefix (s.data.toList.drop i) wNull = false → Lib.hasPrefix (s.data.toList.drop i) wFalse = false → Lib.hasPrefix (s.data.toList.drop i) wTrue = false → woR s.data.toList i = .bad 1 i) := Lib.hid (fun h1 h2 h3 => by
    unfold woR; rw [h1, h2, h3]; rfl)
  have HV1 : Hid (vl1 s.data.toList arr obj i = if bt s.data.toList i = 91 then arr i else if bt s.data.toList i = 123 then obj i else if bt s.data.toList i = 34 then mapR strV (stR s.data.toList i) else if bt s.data.toList i = 45 ∨ 48 ≤ bt s.data.toList i ∧ bt s.data.toList i ≤ 57 then nuR s.data.toList i else woR s.data.toList i) := Lib.hid rfl
  have HBT : Hid (∀ h : i < s.size, bt s.data.toList i = s[i].toNat) := Lib.hid (fun h => bt_at s i h)
  have HBO : Hid (¬ i < s.size → bt s.data.toList i = 0) := Lib.hid (fun h => bt_of_ge (by rw [size_toList]; omega))
  have HST : Hid (stR s.data.toList i = if (unqs (s.data.toList.drop i)).2.2 = 0 then .ok (unqs (s.data.toList.drop i)).1 (i + (unqs (s.data.toList.drop i)).2.1) else .bad (unqs (s.data.toList.drop i)).2.2 (i + (unqs (s.data.toList.drop i)).2.1)) := Lib.hid rfl
  have hshp := unqs_shape (s.data.toList.drop i)
  rw [List.length_drop, size_toList] at hshp
  generalize unqs (s.data.toList.drop i) = U at *
  obtain ⟨nm, nn, ee⟩ := U
  simp only at hshp HST
  simp only [uqv] at HUN
  have hnn : nn ≤ 600 := by rcases hshp with ⟨-, -, -, h, -⟩ | ⟨-, -, h⟩ <;> omega
  clear hshp hA hO hD
  generalize vl1 s.data.toList arr obj i = R at *
  have HG := Lib.hid (Gz.new w)
  have hz0 : ((w.alloc gotZ).alloc (.cells #[.string ⟨#[110, 117, 108, 108]⟩, .string ⟨#[102, 97, 108, 115, 101]⟩, .string ⟨#[116, 114, 117, 101]⟩] 9)).heap[w.heap.size + 1]? = some (.cells #[.string ⟨#[110, 117, 108, 108]⟩, .string ⟨#[102, 97, 108, 115, 101]⟩, .string ⟨#[116, 114, 117, 101]⟩] 9) := by
    have := heap_alloc_new (w.alloc gotZ) (.cells #[.string ⟨#[110, 117, 108, 108]⟩, .string ⟨#[102, 97, 108, 115, 101]⟩, .string ⟨#[116, 114, 117, 101]⟩] 9)
    simpa using this
  have HG1 : Hid (Gz w ((w.alloc gotZ).alloc (.cells #[.string ⟨#[110, 117, 108, 108]⟩, .string ⟨#[102, 97, 108, 115, 101]⟩, .string ⟨#[116, 114, 117, 101]⟩] 9))) := Lib.hid (HG.out.step ((Below.refl _ _).alloc (Nat.le_refl _) _))
  go_enter Tryz.func32, Tryz.ntmps32
  go_wp2_with fail
  generalize (w.alloc gotZ).alloc (.cells #[.string ⟨#[110, 117, 108, 108]⟩, .string ⟨#[102, 97, 108, 115, 101]⟩, .string ⟨#[116, 114, 117, 101]⟩] 9) = wb at *
  have z0 : wb.cell? ⟨w.heap.size + 1, 0, none⟩ = some (.string ⟨#[110, 117, 108, 108]⟩) := by rw [Lib.cell_of_heap hz0]; rfl
  have z1 : wb.cell? ⟨w.heap.size + 1, 1, none⟩ = some (.string ⟨#[102, 97, 108, 115, 101]⟩) := by rw [Lib.cell_of_heap hz0]; rfl
  have z2 : wb.cell? ⟨w.heap.size + 1, 2, none⟩ = some (.string ⟨#[116, 114, 117, 101]⟩) := by rw [Lib.cell_of_heap hz0]; rfl
  have HZ := Lib.hid hz0
  clear hz0
  go_loopw [8] (fun kv wr => ∃ k : Nat, k ≤ 3 ∧ kv = .int .i64 k ∧ Hid ((0 < k → Lib.hasPrefix (s.data.toList.drop i) wNull = false) ∧ (1 < k → Lib.hasPrefix (s.data.toList.drop i) wFalse = false) ∧ (2 < k → Lib.hasPrefix (s.data.toList.drop i) wTrue = false)) ∧ wr = wb) (fun kv _ => 3 - (intOf kv).toNat)
  case atStart => exact ⟨0, by omega, rfl, Lib.hid ⟨fun h => by omega, fun h => by omega, fun h => by omega⟩, rfl⟩
  case round =>
    obtain ⟨k, hk, rfl, HP, rfl⟩ := hrel
    rcases (by omega : k = 0 ∨ k = 1 ∨ k = 2 ∨ k = 3) with rfl | rfl | rfl | rfl
    · have hh := HAS.out wNull (by decide) wr
      rcases Bool.eq_false_or_eq_true (Lib.hasPrefix (s.data.toList.drop i) wNull) with hp | hp
      rotate_left
      ·
        rw [hp] at hh
        have HP2 : Hid ((0 < 1 → Lib.hasPrefix (s.data.toList.drop i) wNull = false) ∧ (1 < 1 → Lib.hasPrefix (s.data.toList.drop i) wFalse = false) ∧ (2 < 1 → Lib.hasPrefix (s.data.toList.drop i) wTrue = false)) := Lib.hid (⟨fun _ => hp, fun h => by omega, fun h => by omega⟩)
        clear hp
        go_wp2_with fail
        refine hh.mono ?_
        rintro e w1 ⟨rfl, rfl⟩
        clear hh
        go_wp2_with fail
        refine ⟨⟨1, by omega, by first | rfl | go_num, HP2, by first | trivial | rfl⟩, ?_⟩
        simp [intOf]
      ·
        rw [hp] at hh
        have HRR : Hid (R = .ok [hdN 0 0] (i + 4)) := Lib.hid (HW.out 0 (by omega) hp)
        clear HP HW HNW HAS hp
        go_wp2_with fail
        refine hh.mono ?_
        rintro e w1 ⟨rfl, rfl⟩
        clear hh z0 z1 z2
        obtain ⟨k0, k1, k2, hfz, hz4⟩ := HG1.out.cells
        have hzA := (((Below.refl w1.heap.size w1).alloc (Nat.le_refl _) (.cells #[.int .i64 0, .int .i64 0, .string ⟨#[]⟩, .string ⟨#[]⟩, .bool false, .int .i64 0] 35)).block _ (Array.getElem?_eq_some_iff.1 HZ.out).1).trans HZ.out
        have za : (w1.alloc (.cells #[.int .i64 0, .int .i64 0, .string ⟨#[]⟩, .string ⟨#[]⟩, .bool false, .int .i64 0] 35)).cell? ⟨w.heap.size + 1, 0, none⟩ = some (.string ⟨#[110, 117, 108, 108]⟩) := by rw [Lib.cell_of_heap hzA]; rfl
        clear hzA HZ
        go_wp2_with fail
        skip
        have hT := got_cells HG1.out (.slice (some ⟨w1.heap.size, 0, none⟩) 1 1) (.int .i64 ((i : Int) + 4)) (.int .i64 0)
        have hB := got_below HG1.out (.slice (some ⟨w1.heap.size, 0, none⟩) 1 1) (.int .i64 ((i : Int) + 4)) (.int .i64 0)
        have hzT : (((w1.setCell ⟨w.heap.size, 0, none⟩ (.slice (some ⟨w1.heap.size, 0, none⟩) 1 1)).setCell ⟨w.heap.size, 1, none⟩ (.int .i64 ((i : Int) + 4))).setCell ⟨w.heap.size, 2, none⟩ (.int .i64 0)).heap.size = w1.heap.size := by simp
        generalize (((w1.setCell ⟨w.heap.size, 0, none⟩ (.slice (some ⟨w1.heap.size, 0, none⟩) 1 1)).setCell ⟨w.heap.size, 1, none⟩ (.int .i64 ((i : Int) + 4))).setCell ⟨w.heap.size, 2, none⟩ (.int .i64 0)) = T at *
        have hTB : Below T.heap.size T (T.alloc (.cells #[.int .i64 0, .int .i64 0, .string ⟨#[]⟩, .string ⟨#[]⟩, .bool false, .int .i64 0] 35)) := (Below.refl _ _).alloc (Nat.le_refl _) _
        have hW := (hTB.block _ (Array.getElem?_eq_some_iff.1 hT).1).trans hT
        have c0 : (T.alloc (.cells #[.int .i64 0, .int .i64 0, .string ⟨#[]⟩, .string ⟨#[]⟩, .bool false, .int .i64 0] 35)).cell? ⟨w.heap.size, 0, none⟩ = some (.slice (some ⟨w1.heap.size, 0, none⟩) 1 1) := by rw [Lib.cell_of_heap hW]; rfl
        have c1 : (T.alloc (.cells #[.int .i64 0, .int .i64 0, .string ⟨#[]⟩, .string ⟨#[]⟩, .bool false, .int .i64 0] 35)).cell? ⟨w.heap.size, 1, none⟩ = some (.int .i64 ((i : Int) + 4)) := by rw [Lib.cell_of_heap hW]; rfl
        have c2 : (T.alloc (.cells #[.int .i64 0, .int .i64 0, .string ⟨#[]⟩, .string ⟨#[]⟩, .bool false, .int .i64 0] 35)).cell? ⟨w.heap.size, 2, none⟩ = some (.int .i64 0) := by rw [Lib.cell_of_heap hW]; rfl
        have hown := Own.lit (base := w.heap.size) (E := 35) ndc_len T #[.int .i64 0, .int .i64 0, .string ⟨#[]⟩, .string ⟨#[]⟩, .bool false, .int .i64 0] [hdN 0 0] (by rw [hzT]; exact HG1.out.2.size) (by unfold maxLen; simp) rfl
        rw [hzT] at hown
        have hBT := Below.after hB hTB
        clear hTB hW hT
        generalize T.alloc (.cells #[.int .i64 0, .int .i64 0, .string ⟨#[]⟩, .string ⟨#[]⟩, .bool false, .int .i64 0] 35) = W5 at *
        exact bodyPost_ret (v := .agg #[.slice (some ⟨w1.heap.size, 0, none⟩) 1 1, .int .i64 ((i : Int) + 4), .int .i64 0]) (by simp [results, Tryz.results32, go_sem, c0, c1, c2]) rfl (by rw [HRR.out]; exact ⟨some ⟨w1.heap.size, 0, none⟩, 1, by rw [show (((i + 4 : Nat) : Int)) = (i : Int) + 4 by omega]; rfl, Lib.hid hown, Lib.hid hBT⟩)
    · have hh := HAS.out wFalse (by decide) wr
      rcases Bool.eq_false_or_eq_true (Lib.hasPrefix (s.data.toList.drop i) wFalse) with hp | hp
      rotate_left
      ·
        rw [hp] at hh
        have HP2 : Hid ((0 < 2 → Lib.hasPrefix (s.data.toList.drop i) wNull = false) ∧ (1 < 2 → Lib.hasPrefix (s.data.toList.drop i) wFalse = false) ∧ (2 < 2 → Lib.hasPrefix (s.data.toList.drop i) wTrue = false)) := Lib.hid (⟨fun _ => HP.out.1 (by omega), fun _ => hp, fun h => by omega⟩)
        clear hp
        go_wp2_with fail
        refine hh.mono ?_
        rintro e w1 ⟨rfl, rfl⟩
        clear hh
        go_wp2_with fail
        refine ⟨⟨2, by omega, by first | rfl | go_num, HP2, by first | trivial | rfl⟩, ?_⟩
        simp [intOf]
      ·
        rw [hp] at hh
        have HRR : Hid (R = .ok [hdN 1 0] (i + 5)) := Lib.hid (HW.out 1 (by omega) hp)
        clear HP HW HNW HAS hp
        go_wp2_with fail
        refine hh.mono ?_
        rintro e w1 ⟨rfl, rfl⟩
        clear hh z0 z1 z2
        obtain ⟨k0, k1, k2, hfz, hz4⟩ := HG1.out.cells
        have hzA := (((Below.refl w1.heap.size w1).alloc (Nat.le_refl _) (.cells #[.int .i64 1, .int .i64 0, .string ⟨#[]⟩, .string ⟨#[]⟩, .bool false, .int .i64 0] 35)).block _ (Array.getElem?_eq_some_iff.1 HZ.out).1).trans HZ.out
        have za : (w1.alloc (.cells #[.int .i64 1, .int .i64 0, .string ⟨#[]⟩, .string ⟨#[]⟩, .bool false, .int .i64 0] 35)).cell? ⟨w.heap.size + 1, 1, none⟩ = some (.string ⟨#[102, 97, 108, 115, 101]⟩) := by rw [Lib.cell_of_heap hzA]; rfl
        clear hzA HZ
        go_wp2_with fail
        skip
        have hT := got_cells HG1.out (.slice (some ⟨w1.heap.size, 0, none⟩) 1 1) (.int .i64 ((i : Int) + 5)) (.int .i64 0)
        have hB := got_below HG1.out (.slice (some ⟨w1.heap.size, 0, none⟩) 1 1) (.int .i64 ((i : Int) + 5)) (.int .i64 0)
        have hzT : (((w1.setCell ⟨w.heap.size, 0, none⟩ (.slice (some ⟨w1.heap.size, 0, none⟩) 1 1)).setCell ⟨w.heap.size, 1, none⟩ (.int .i64 ((i : Int) + 5))).setCell ⟨w.heap.size, 2, none⟩ (.int .i64 0)).heap.size = w1.heap.size := by simp
        generalize (((w1.setCell ⟨w.heap.size, 0, none⟩ (.slice (some ⟨w1.heap.size, 0, none⟩) 1 1)).setCell ⟨w.heap.size, 1, none⟩ (.int .i64 ((i : Int) + 5))).setCell ⟨w.heap.size, 2, none⟩ (.int .i64 0)) = T at *
        have hTB : Below T.heap.size T (T.alloc (.cells #[.int .i64 1, .int .i64 0, .string ⟨#[]⟩, .string ⟨#[]⟩, .bool false, .int .i64 0] 35)) := (Below.refl _ _).alloc (Nat.le_refl _) _
        have hW := (hTB.block _ (Array.getElem?_eq_some_iff.1 hT).1).trans hT
        have c0 : (T.alloc (.cells #[.int .i64 1, .int .i64 0, .string ⟨#[]⟩, .string ⟨#[]⟩, .bool false, .int .i64 0] 35)).cell? ⟨w.heap.size, 0, none⟩ = some (.slice (some ⟨w1.heap.size, 0, none⟩) 1 1) := by rw [Lib.cell_of_heap hW]; rfl
        have c1 : (T.alloc (.cells #[.int .i64 1, .int .i64 0, .string ⟨#[]⟩, .string ⟨#[]⟩, .bool false, .int .i64 0] 35)).cell? ⟨w.heap.size, 1, none⟩ = some (.int .i64 ((i : Int) + 5)) := by rw [Lib.cell_of_heap hW]; rfl
        have c2 : (T.alloc (.cells #[.int .i64 1, .int .i64 0, .string ⟨#[]⟩, .string ⟨#[]⟩, .bool false, .int .i64 0] 35)).cell? ⟨w.heap.size, 2, none⟩ = some (.int .i64 0) := by rw [Lib.cell_of_heap hW]; rfl
        have hown := Own.lit (base := w.heap.size) (E := 35) ndc_len T #[.int .i64 1, .int .i64 0, .string ⟨#[]⟩, .string ⟨#[]⟩, .bool false, .int .i64 0] [hdN 1 0] (by rw [hzT]; exact HG1.out.2.size) (by unfold maxLen; simp) rfl
        rw [hzT] at hown
        have hBT := Below.after hB hTB
        clear hTB hW hT
        generalize T.alloc (.cells #[.int .i64 1, .int .i64 0, .string ⟨#[]⟩, .string ⟨#[]⟩, .bool false, .int .i64 0] 35) = W5 at *
        exact bodyPost_ret (v := .agg #[.slice (some ⟨w1.heap.size, 0, none⟩) 1 1, .int .i64 ((i : Int) + 5), .int .i64 0]) (by simp [results, Tryz.results32, go_sem, c0, c1, c2]) rfl (by rw [HRR.out]; exact ⟨some ⟨w1.heap.size, 0, none⟩, 1, by rw [show (((i + 5 : Nat) : Int)) = (i : Int) + 5 by omega]; rfl, Lib.hid hown, Lib.hid hBT⟩)
    · have hh := HAS.out wTrue (by decide) wr
      rcases Bool.eq_false_or_eq_true (Lib.hasPrefix (s.data.toList.drop i) wTrue) with hp | hp
      rotate_left
      ·
        rw [hp] at hh
        have HP2 : Hid ((0 < 3 → Lib.hasPrefix (s.data.toList.drop i) wNull = false) ∧ (1 < 3 → Lib.hasPrefix (s.data.toList.drop i) wFalse = false) ∧ (2 < 3 → Lib.hasPrefix (s.data.toList.drop i) wTrue = false)) := Lib.hid (⟨fun _ => HP.out.1 (by omega), fun _ => HP.out.2.1 (by omega), fun _ => hp⟩)
        clear hp
        go_wp2_with fail
        refine hh.mono ?_
        rintro e w1 ⟨rfl, rfl⟩
        clear hh
        go_wp2_with fail
        refine ⟨⟨3, by omega, by first | rfl | go_num, HP2, by first | trivial | rfl⟩, ?_⟩
        simp [intOf]
      ·
        rw [hp] at hh
        have HRR : Hid (R = .ok [hdN 2 0] (i + 4)) := Lib.hid (HW.out 2 (by omega) hp)
        clear HP HW HNW HAS hp
        go_wp2_with fail
        refine hh.mono ?_
        rintro e w1 ⟨rfl, rfl⟩
        clear hh z0 z1 z2
        obtain ⟨k0, k1, k2, hfz, hz4⟩ := HG1.out.cells
        have hzA := (((Below.refl w1.heap.size w1).alloc (Nat.le_refl _) (.cells #[.int .i64 2, .int .i64 0, .string ⟨#[]⟩, .string ⟨#[]⟩, .bool false, .int .i64 0] 35)).block _ (Array.getElem?_eq_some_iff.1 HZ.out).1).trans HZ.out
        have za : (w1.alloc (.cells #[.int .i64 2, .int .i64 0, .string ⟨#[]⟩, .string ⟨#[]⟩, .bool false, .int .i64 0] 35)).cell? ⟨w.heap.size + 1, 2, none⟩ = some (.string ⟨#[116, 114, 117, 101]⟩) := by rw [Lib.cell_of_heap hzA]; rfl
        clear hzA HZ
        go_wp2_with fail
        skip
        have hT := got_cells HG1.out (.slice (some ⟨w1.heap.size, 0, none⟩) 1 1) (.int .i64 ((i : Int) + 4)) (.int .i64 0)
        have hB := got_below HG1.out (.slice (some ⟨w1.heap.size, 0, none⟩) 1 1) (.int .i64 ((i : Int) + 4)) (.int .i64 0)
        have hzT : (((w1.setCell ⟨w.heap.size, 0, none⟩ (.slice (some ⟨w1.heap.size, 0, none⟩) 1 1)).setCell ⟨w.heap.size, 1, none⟩ (.int .i64 ((i : Int) + 4))).setCell ⟨w.heap.size, 2, none⟩ (.int .i64 0)).heap.size = w1.heap.size := by simp
        generalize (((w1.setCell ⟨w.heap.size, 0, none⟩ (.slice (some ⟨w1.heap.size, 0, none⟩) 1 1)).setCell ⟨w.heap.size, 1, none⟩ (.int .i64 ((i : Int) + 4))).setCell ⟨w.heap.size, 2, none⟩ (.int .i64 0)) = T at *
        have hTB : Below T.heap.size T (T.alloc (.cells #[.int .i64 2, .int .i64 0, .string ⟨#[]⟩, .string ⟨#[]⟩, .bool false, .int .i64 0] 35)) := (Below.refl _ _).alloc (Nat.le_refl _) _
        have hW := (hTB.block _ (Array.getElem?_eq_some_iff.1 hT).1).trans hT
        have c0 : (T.alloc (.cells #[.int .i64 2, .int .i64 0, .string ⟨#[]⟩, .string ⟨#[]⟩, .bool false, .int .i64 0] 35)).cell? ⟨w.heap.size, 0, none⟩ = some (.slice (some ⟨w1.heap.size, 0, none⟩) 1 1) := by rw [Lib.cell_of_heap hW]; rfl
        have c1 : (T.alloc (.cells #[.int .i64 2, .int .i64 0, .string ⟨#[]⟩, .string ⟨#[]⟩, .bool false, .int .i64 0] 35)).cell? ⟨w.heap.size, 1, none⟩ = some (.int .i64 ((i : Int) + 4)) := by rw [Lib.cell_of_heap hW]; rfl
        have c2 : (T.alloc (.cells #[.int .i64 2, .int .i64 0, .string ⟨#[]⟩, .string ⟨#[]⟩, .bool false, .int .i64 0] 35)).cell? ⟨w.heap.size, 2, none⟩ = some (.int .i64 0) := by rw [Lib.cell_of_heap hW]; rfl
        have hown := Own.lit (base := w.heap.size) (E := 35) ndc_len T #[.int .i64 2, .int .i64 0, .string ⟨#[]⟩, .string ⟨#[]⟩, .bool false, .int .i64 0] [hdN 2 0] (by rw [hzT]; exact HG1.out.2.size) (by unfold maxLen; simp) rfl
        rw [hzT] at hown
        have hBT := Below.after hB hTB
        clear hTB hW hT
        generalize T.alloc (.cells #[.int .i64 2, .int .i64 0, .string ⟨#[]⟩, .string ⟨#[]⟩, .bool false, .int .i64 0] 35) = W5 at *
        exact bodyPost_ret (v := .agg #[.slice (some ⟨w1.heap.size, 0, none⟩) 1 1, .int .i64 ((i : Int) + 4), .int .i64 0]) (by simp [results, Tryz.results32, go_sem, c0, c1, c2]) rfl (by rw [HRR.out]; exact ⟨some ⟨w1.heap.size, 0, none⟩, 1, by rw [show (((i + 4 : Nat) : Int)) = (i : Int) + 4 by omega]; rfl, Lib.hid hown, Lib.hid hBT⟩)
    · have HNO := Lib.hid (HNW.out (HP.out.1 (by omega)) (HP.out.2.1 (by omega)) (HP.out.2.2 (by omega)))
      clear HP HW HNW HAS z0 z1 z2 HZ
      have HG2 := HG1
      by_cases hlt : i < s.size
      · have hbt := HBT.out hlt
        rw [hbt] at HV1
        have hne : ((i : Int) == (s.size : Int)) = false := by simp; omega
        clear HBT HBO hbt
        generalize hv : s[i].toNat = v at *
        by_cases c34 : v = 34
        · subst c34
          have HRS : Hid (R = mapR strV (stR s.data.toList i)) := Lib.hid (by rw [HV1.out, if_neg (by decide), if_neg (by decide), if_pos rfl])
          by_cases hee : ee = 0
          · subst hee
            have HRR : Hid (R = .ok [⟨4, 0, [], nm, false, 0⟩] (i + nn)) := Lib.hid (by rw [HRS.out, HST.out, if_pos rfl]; rfl)
            clear HV1 HRS HST HLA HOA HDA HN HNO
            go_wp2_with fail
            refine (HUN.out _).mono ?_
            rintro e w1 ⟨rfl, hb1⟩
            have HG3 := Lib.hid (HG2.out.step hb1)
            obtain ⟨k0, k1, k2, hfz, hz4⟩ := HG3.out.cells
            clear hb1
            go_wp2_with fail
            have hT := got_cells HG3.out (.slice (some ⟨w1.heap.size, 0, none⟩) 1 1) (.int .i64 ((i : Int) + (nn : Int))) (.int .i64 0)
            have hB := got_below HG3.out (.slice (some ⟨w1.heap.size, 0, none⟩) 1 1) (.int .i64 ((i : Int) + (nn : Int))) (.int .i64 0)
            have hzT : (((w1.setCell ⟨w.heap.size, 0, none⟩ (.slice (some ⟨w1.heap.size, 0, none⟩) 1 1)).setCell ⟨w.heap.size, 1, none⟩ (.int .i64 ((i : Int) + (nn : Int)))).setCell ⟨w.heap.size, 2, none⟩ (.int .i64 0)).heap.size = w1.heap.size := by simp
            generalize (((w1.setCell ⟨w.heap.size, 0, none⟩ (.slice (some ⟨w1.heap.size, 0, none⟩) 1 1)).setCell ⟨w.heap.size, 1, none⟩ (.int .i64 ((i : Int) + (nn : Int)))).setCell ⟨w.heap.size, 2, none⟩ (.int .i64 0)) = T at *
            have hTB : Below T.heap.size T (T.alloc (.cells #[.int .i64 4, .int .i64 0, .string ⟨#[]⟩, .string ⟨nm.toArray⟩, .bool false, .int .i64 0] 35)) := (Below.refl _ _).alloc (Nat.le_refl _) _
            have hW := (hTB.block _ (Array.getElem?_eq_some_iff.1 hT).1).trans hT
            have c0 : (T.alloc (.cells #[.int .i64 4, .int .i64 0, .string ⟨#[]⟩, .string ⟨nm.toArray⟩, .bool false, .int .i64 0] 35)).cell? ⟨w.heap.size, 0, none⟩ = some (.slice (some ⟨w1.heap.size, 0, none⟩) 1 1) := by rw [Lib.cell_of_heap hW]; rfl
            have c1 : (T.alloc (.cells #[.int .i64 4, .int .i64 0, .string ⟨#[]⟩, .string ⟨nm.toArray⟩, .bool false, .int .i64 0] 35)).cell? ⟨w.heap.size, 1, none⟩ = some (.int .i64 ((i : Int) + (nn : Int))) := by rw [Lib.cell_of_heap hW]; rfl
            have c2 : (T.alloc (.cells #[.int .i64 4, .int .i64 0, .string ⟨#[]⟩, .string ⟨nm.toArray⟩, .bool false, .int .i64 0] 35)).cell? ⟨w.heap.size, 2, none⟩ = some (.int .i64 0) := by rw [Lib.cell_of_heap hW]; rfl
            have hown := Own.lit (base := w.heap.size) (E := 35) ndc_len T #[.int .i64 4, .int .i64 0, .string ⟨#[]⟩, .string ⟨nm.toArray⟩, .bool false, .int .i64 0] [⟨4, 0, [], nm, false, 0⟩] (by rw [hzT]; exact HG3.out.2.size) (by unfold maxLen; simp) rfl
            rw [hzT] at hown
            have hBT := Below.after hB hTB
            clear hTB hW hT
            generalize T.alloc (.cells #[.int .i64 4, .int .i64 0, .string ⟨#[]⟩, .string ⟨nm.toArray⟩, .bool false, .int .i64 0] 35) = W5 at *
            exact bodyPost_ret (v := .agg #[.slice (some ⟨w1.heap.size, 0, none⟩) 1 1, .int .i64 ((i : Int) + (nn : Int)), .int .i64 0]) (by simp [results, Tryz.results32, go_sem, c0, c1, c2]) rfl (by rw [HRR.out]; exact ⟨some ⟨w1.heap.size, 0, none⟩, 1, by rw [show (((i + nn : Nat) : Int)) = (i : Int) + (nn : Int) by omega]; rfl, Lib.hid hown, Lib.hid hBT⟩)
          · have her : (ee != 0) = true := by simpa using hee
            have her2 : (ee == 0) = false := by simpa using hee
            have HRR : Hid (R = .bad ee (i + nn)) := Lib.hid (by rw [HRS.out, HST.out, if_neg hee]; rfl)
            clear HV1 HRS HST HLA HOA HDA HN HNO
            go_wp2_with fail
            refine (HUN.out _).mono ?_
            rintro e w1 ⟨rfl, hb1⟩
            have HG3 := Lib.hid (HG2.out.step hb1)
            clear hb1
            go_wp2_with fail
            refine (refBad_any ee ((i : Int) + (nn : Int)) _).mono ?_
            rintro e w6 ⟨rfl, hb6⟩
            have HG6 := Lib.hid (HG3.out.step hb6)
            obtain ⟨k0, k1, k2, hfz, hz4⟩ := HG6.out.cells
            clear hb6
            go_wp2_with fail
            rw [← Int.natCast_add]
            exact bodyPost_ret (v := .agg #[.slice none 0 0, .int .i64 ((i + nn : Nat) : Int), .int .i64 ee]) (by simp [results, Tryz.results32, go_sem, k0, k1, k2]) rfl (got_bad HRR.out HG6.out)
        have e34 : ((v : Int) == 34) = false := by simp; omega
        by_cases c45 : v = 45
        · subst c45
          have HRR : Hid (R = nuR s.data.toList i) := Lib.hid (by rw [HV1.out, if_neg (by decide), if_neg (by decide), if_neg (by decide), if_pos (.inl rfl)])
          clear HV1 HST HLA HOA HDA HUN HNO
          go_wp2_with fail
          refine (HN.out _).mono ?_
          rintro e w1 hgot
          obtain ⟨A, a, c, p, er, rfl, hb1, HGP⟩ := got_pass hgot
          have HG3 := Lib.hid (HG2.out.step hb1.out)
          obtain ⟨k0, k1, k2, hfz, hz4⟩ := HG3.out.cells
          clear hgot
          go_wp2_with fail
          skip
          exact bodyPost_ret (v := .agg #[.slice A a c, .int .i64 p, .int .i64 er]) (by simp [results, Tryz.results32, go_sem, k0, k1, k2]) rfl (by rw [HRR.out]; exact HGP.out w HG3.out HG2.out.2.size)
        have e45 : ((v : Int) == 45) = false := by simp; omega
        by_cases c48 : 48 ≤ v ∧ v ≤ 57
        · have HRR : Hid (R = nuR s.data.toList i) := Lib.hid (by rw [HV1.out, if_neg (by omega), if_neg (by omega), if_neg (by omega), if_pos (.inr c48)])
          have h48 : 48 ≤ (v : Int) := by omega
          have h57 : (v : Int) ≤ 57 := by omega
          clear HV1 HST HLA HOA HDA HUN HNO
          go_wp2_with fail
          refine (HN.out _).mono ?_
          rintro e w1 hgot
          obtain ⟨A, a, c, p, er, rfl, hb1, HGP⟩ := got_pass hgot
          have HG3 := Lib.hid (HG2.out.step hb1.out)
          obtain ⟨k0, k1, k2, hfz, hz4⟩ := HG3.out.cells
          clear hgot
          go_wp2_with fail
          skip
          exact bodyPost_ret (v := .agg #[.slice A a c, .int .i64 p, .int .i64 er]) (by simp [results, Tryz.results32, go_sem, k0, k1, k2]) rfl (by rw [HRR.out]; exact HGP.out w HG3.out HG2.out.2.size)
        by_cases c91 : v = 91
        · subst c91
          have HRA : Hid (R = arr i) := Lib.hid (by rw [HV1.out, if_pos rfl])
          by_cases h127 : dd ≤ 127
          · have h128 : ¬ dd ≥ 128 := by omega
            have HC := Lib.hid (HLA.out hlt h127)
            have HRR := HRA
            clear HV1 HST HLA HOA HDA HUN HNO HN
            go_wp2_with fail
            refine (HC.out _).mono ?_
            rintro e w1 hgot
            obtain ⟨A, a, c, p, er, rfl, hb1, HGP⟩ := got_pass hgot
            have HG3 := Lib.hid (HG2.out.step hb1.out)
            obtain ⟨k0, k1, k2, hfz, hz4⟩ := HG3.out.cells
            clear hgot
            go_wp2_with fail
            skip
            exact bodyPost_ret (v := .agg #[.slice A a c, .int .i64 p, .int .i64 er]) (by simp [results, Tryz.results32, go_sem, k0, k1, k2]) rfl (by rw [HRR.out]; exact HGP.out w HG3.out HG2.out.2.size)
          · have h128 : dd ≥ 128 := by omega
            have HRR : Hid (R = .bad 3 i) := Lib.hid (by rw [HRA.out, (HDA.out (by omega)).1])
            clear HV1 HST HLA HOA HDA HUN HNO HN
            go_wp2_with fail
            refine (refBad_any (3) ((i : Int)) _).mono ?_
            rintro e w6 ⟨rfl, hb6⟩
            have HG6 := Lib.hid (HG2.out.step hb6)
            obtain ⟨k0, k1, k2, hfz, hz4⟩ := HG6.out.cells
            clear hb6
            go_wp2_with fail
            exact bodyPost_ret (v := .agg #[.slice none 0 0, .int .i64 (i : Nat), .int .i64 (3)]) (by simp [results, Tryz.results32, go_sem, k0, k1, k2]) rfl (got_bad HRR.out HG6.out)
        by_cases c123 : v = 123
        · subst c123
          have HRA : Hid (R = obj i) := Lib.hid (by rw [HV1.out, if_neg (by decide), if_pos rfl])
          by_cases h127 : dd ≤ 127
          · have h128 : ¬ dd ≥ 128 := by omega
            have HC := Lib.hid (HOA.out hlt h127)
            have HRR := HRA
            clear HV1 HST HLA HOA HDA HUN HNO HN
            go_wp2_with fail
            refine (HC.out _).mono ?_
            rintro e w1 hgot
            obtain ⟨A, a, c, p, er, rfl, hb1, HGP⟩ := got_pass hgot
            have HG3 := Lib.hid (HG2.out.step hb1.out)
            obtain ⟨k0, k1, k2, hfz, hz4⟩ := HG3.out.cells
            clear hgot
            go_wp2_with fail
            skip
            exact bodyPost_ret (v := .agg #[.slice A a c, .int .i64 p, .int .i64 er]) (by simp [results, Tryz.results32, go_sem, k0, k1, k2]) rfl (by rw [HRR.out]; exact HGP.out w HG3.out HG2.out.2.size)
          · have h128 : dd ≥ 128 := by omega
            have HRR : Hid (R = .bad 3 i) := Lib.hid (by rw [HRA.out, (HDA.out (by omega)).2])
            clear HV1 HST HLA HOA HDA HUN HNO HN
            go_wp2_with fail
            refine (refBad_any (3) ((i : Int)) _).mono ?_
            rintro e w6 ⟨rfl, hb6⟩
            have HG6 := Lib.hid (HG2.out.step hb6)
            obtain ⟨k0, k1, k2, hfz, hz4⟩ := HG6.out.cells
            clear hb6
            go_wp2_with fail
            exact bodyPost_ret (v := .agg #[.slice none 0 0, .int .i64 (i : Nat), .int .i64 (3)]) (by simp [results, Tryz.results32, go_sem, k0, k1, k2]) rfl (got_bad HRR.out HG6.out)
        have e91 : ((v : Int) == 91) = false := by simp; omega
        have e123 : ((v : Int) == 123) = false := by simp; omega
        have HRR : Hid (R = .bad 1 i) := Lib.hid (by rw [HV1.out, if_neg c91, if_neg c123, if_neg c34, if_neg (by omega), HNO.out])
        clear HV1 HST HLA HOA HDA HUN HNO HN
        by_cases h48 : 48 ≤ v
        · have h48' : 48 ≤ (v : Int) := by omega
          have h57 : ¬ (v : Int) ≤ 57 := by omega
          go_wp2_with fail
          refine (refBad_any (1) ((i : Int)) _).mono ?_
          rintro e w6 ⟨rfl, hb6⟩
          have HG6 := Lib.hid (HG2.out.step hb6)
          obtain ⟨k0, k1, k2, hfz, hz4⟩ := HG6.out.cells
          clear hb6
          go_wp2_with fail
          exact bodyPost_ret (v := .agg #[.slice none 0 0, .int .i64 (i : Nat), .int .i64 (1)]) (by simp [results, Tryz.results32, go_sem, k0, k1, k2]) rfl (got_bad HRR.out HG6.out)
        · have h48' : ¬ 48 ≤ (v : Int) := by omega
          go_wp2_with fail
          refine (refBad_any (1) ((i : Int)) _).mono ?_
          rintro e w6 ⟨rfl, hb6⟩
          have HG6 := Lib.hid (HG2.out.step hb6)
          obtain ⟨k0, k1, k2, hfz, hz4⟩ := HG6.out.cells
          clear hb6
          go_wp2_with fail
          exact bodyPost_ret (v := .agg #[.slice none 0 0, .int .i64 (i : Nat), .int .i64 (1)]) (by simp [results, Tryz.results32, go_sem, k0, k1, k2]) rfl (got_bad HRR.out HG6.out)
      · have hke : i = s.size := by omega
        have HRR : Hid (R = .bad 1 i) := Lib.hid (by rw [HV1.out, HBO.out hlt, if_neg (by decide), if_neg (by decide), if_neg (by decide), if_neg (by decide), HNO.out])
        have heq : ((i : Int) == (s.size : Int)) = true := by simp; omega
        clear HV1 HST HLA HOA HDA HUN HNO HN HBT HBO
        subst hke
        go_wp2_with fail
        refine (refBad_any (1) ((s.size : Int)) _).mono ?_
        rintro e w6 ⟨rfl, hb6⟩
        have HG6 := Lib.hid (HG2.out.step hb6)
        obtain ⟨k0, k1, k2, hfz, hz4⟩ := HG6.out.cells
        clear hb6
        go_wp2_with fail
        exact bodyPost_ret (v := .agg #[.slice none 0 0, .int .i64 (s.size : Nat), .int .i64 (1)]) (by simp [results, Tryz.results32, go_sem, k0, k1, k2]) rfl (got_bad HRR.out HG6.out)
end Go.Proofs.YtafbojiojeemoaaGreatDoor

/-
  What the document's own answer Depth is.
-/
namespace Go.Proofs.YtafbojiojeemoaaGreatDoor
open Go.RowKit Np Rw Vp

theorem depths_snoc : ∀ (ts : List (Tr Nd)) (u : Tr Nd), depths (ts ++ [u]) = max (depths ts) (depth u)
  | [], u => by simp
  | t :: ts, u => by rw [List.cons_append, depths_cons, depths_snoc ts u, depths_cons]; omega

mutual
theorem depth_le : ∀ t : Tr Nd, depth t ≤ (flat t).length
  | .mk n ks => by
    have := depths_le2 ks
    rw [depth_mk, flat_mk, List.length_cons]
    split <;> omega
theorem depths_le2 : ∀ ts : List (Tr Nd), depths ts ≤ (flats ts).length
  | [] => by simp
  | t :: ts => by
    have h1 := depth_le t
    have h2 := depths_le2 ts
    rw [depths_cons, flats_cons, List.length_append]
    omega
end

end Go.Proofs.YtafbojiojeemoaaGreatDoor

/-
  The walk of TextBack: it answers true.
-/
namespace Go.Proofs.YtafbojiojeemoaaGreatDoor
open Go.RowKit Np Rw Vp Up Qp Tp

theorem run_plain : ∀ (l : List Nd) (st : List Hd), Vp.run st l = true → ∀ x ∈ l, plainN x = true
  | [], _, _, x, hx => by cases hx
  | n :: l, [], h, x, hx => by simp [Vp.run] at h
  | n :: l, h :: st, hr, x, hx => by
    rw [run_cons, Bool.and_eq_true, Bool.and_eq_true] at hr
    rcases List.mem_cons.1 hx with rfl | hx
    · exact hr.1.2
    · exact run_plain l _ hr.2 x hx
theorem val_plain {t : Tr Nd} (h : Val t) : ∀ x ∈ flat t, plainN x = true := run_plain _ _ (rightL_val h)
theorem fit_plain {n : Nd} (hp : plainN n = true) (h1 : n.name.length ≤ 1000000) (h2 : n.s.length ≤ 1000000) : FitN n := by
  unfold plainN at hp
  split at hp
  · rename_i h
    simp at hp
    exact ⟨by omega, by omega, h2, h1, by omega, by omega⟩
  · split at hp
    · rename_i h
      obtain ⟨b1, b2, b3⟩ := right_bounds hp
      simp only at b2 b3
      exact ⟨by omega, by omega, h2, h1, by omega, by omega⟩
    · split at hp
      · simp at hp
        exact ⟨by omega, by omega, h2, h1, by omega, by omega⟩
      · split at hp
        · simp at hp
          exact ⟨by omega, by omega, h2, h1, by omega, by omega⟩
        · cases hp
theorem fitT_of {t : Tr Nd} (hv : Val t) (hs : ∀ x ∈ flat t, x.name.length ≤ 1000000 ∧ x.s.length ≤ 1000000) (hl : (flat t).length ≤ 1000) : FitT t :=
  ⟨hv.ok, hv.rt, fun x hx => fit_plain (val_plain hv x hx) (hs x hx).1 (hs x hx).2, hl⟩
theorem wS_small : ∀ {l : List Nd}, (∀ x ∈ l, x.name.length ≤ 200 ∧ x.s.length ≤ 200) → wS l ≤ 2400 * l.length
  | [], _ => by simp [wS]
  | x :: l, h => by
    have h1 := wS_small fun y hy => h y (List.mem_cons_of_mem _ hy)
    have h2 := h x (by simp)
    have h3 := (wrs_len x.name).2
    have h4 := (wrs_len x.s).2
    rw [wS_cons, List.length_cons, wN]
    split <;> omega
theorem wN_mem : ∀ {l : List Nd} {x : Nd}, x ∈ l → wN x ≤ wS l
  | y :: l, x, h => by
    rw [wS_cons]
    rcases List.mem_cons.1 h with rfl | h
    · omega
    · have := wN_mem h; omega
theorem sizes_of {l : List Nd} {B : Nat} (hp : ∀ x ∈ l, plainN x = true) (h : wS l ≤ B) (hB : 100 ≤ B) : ∀ x ∈ l, x.name.length ≤ B ∧ x.s.length ≤ B := by
  intro x hx
  have h1 := wN_mem hx
  have h2 := (wrs_len x.name).1
  have h3 := (wrs_len x.s).1
  have h4 := hp x hx
  rw [wN] at h1
  refine ⟨by omega, ?_⟩
  unfold plainN at h4
  split at h4
  · simp at h4; rw [h4.1.1.2]; simp
  · split at h4
    · have := (right_bounds h4).1; simp only at this; omega
    · split at h4
      · rename_i hk; rw [if_pos hk] at h1; omega
      · split at h4
        · simp at h4; rw [h4.1.1.2]; simp
        · cases h4
theorem parse_back (ln : Bool) {t : Tr Nd} (hv : Val t) (hd : depth t ≤ 128) : prsR (prT ln 0 t) = (flat t, 0, 0) := by
  have hb := back ln (prT ln 0 t) _ t 0 128 (Nat.le_refl _) hv.ok hv.rt hd 0 [] [] Blk.nil (by simp) Stop.nil
  have e : nmd [] t = t := by conv => rhs; rw [← nmd_self t, hv.nm]
  simp only [e, List.length_nil, Nat.zero_add] at hb
  exact prs_ok hb (by rw [sk_over (Nat.le_refl _)]; omega)
theorem depth_len (t : Tr Nd) : depth t ≤ (flat t).length := by
  have := depths_le2 t.ks
  rw [depth_eq, flat_eq, List.length_cons]
  split <;> omega

/-- Parse answers this value. -/
def BackE (t : Tr Nd) (w : World) (e : Ending) (w' : World) : Prop :=
  ∃ (A : Option Addr) (m c : Nat), e = .returned (.tuple #[.slice A m c, .int .i64 0, .int .i64 0]) ∧ Hid (Nds w' (.slice A m c) (flat t)) ∧ Hid (Below w.heap.size w w')
theorem back_calls (ln : Bool) {t : Tr Nd} (hv : Val t) (hd : depth t ≤ 128) (hz : (prT ln 0 t).length ≤ 400000) (w : World) (hT : Tv w) :
    Calls Tryz.prog 9 #[.string ⟨(prT ln 0 t).toArray⟩] w (BackE t w) := by
  refine (parse_any ⟨(prT ln 0 t).toArray⟩ w (by rw [mk_size]; exact hz) hT.er hT.tabs hT.wds).mono ?_
  rintro e w' ⟨V, he, hV, hb⟩
  change e = .returned (.tuple #[V, .int .i64 ((prsR (prT ln 0 t)).2.1 : Nat), .int .i64 (prsR (prT ln 0 t)).2.2]) at he
  change OwnN w.heap.size w' V (prsR (prT ln 0 t)).1 at hV
  rw [parse_back ln hv hd] at he hV
  obtain ⟨A, c, rfl, h⟩ := hV.row ndc_len
  exact ⟨A, _, c, he, Lib.hid ⟨A, c, rfl, h⟩, Lib.hid hb⟩
/-- A value's two texts: they are written, and read again as it. -/
structure Texts (t : Tr Nd) (TC TI : ByteArray) : Prop where
  c : ∀ w v, Nds w v (flat t) → Tv w → Calls Tryz.prog 13 #[v] w fun e w' => e = .returned (.string TC) ∧ Below w.heap.size w w'
  i : ∀ w v, Nds w v (flat t) → Tv w → Calls Tryz.prog 15 #[v] w fun e w' => e = .returned (.string TI) ∧ Below w.heap.size w w'
  pc : ∀ w, Tv w → Calls Tryz.prog 9 #[.string TC] w (BackE t w)
  pi : ∀ w, Tv w → Calls Tryz.prog 9 #[.string TI] w (BackE t w)
/-- What is known of a value that has few nodes. -/
structure Known (t : Tr Nd) : Prop where
  val : Val t
  dep : depth t ≤ 60
  len : (flat t).length ≤ 60
  sh : ∀ x ∈ flat t, x.name.length ≤ 200 ∧ x.s.length ≤ 200
  zc : (prT false 0 t).length ≤ 170000
  zi : (prT true 0 t).length ≤ 170000
theorem texts_known {l : List Nd} (h : few 60 l = true) : ∃ t, l = flat t ∧ Known t ∧ Texts t ⟨(prT false 0 t).toArray⟩ ⟨(prT true 0 t).toArray⟩ := by
  unfold few at h
  rw [Bool.and_eq_true, Bool.and_eq_true] at h
  obtain ⟨⟨h1, h2⟩, h3⟩ := h
  have h1 := of_decide_eq_true h1
  obtain ⟨t, hv, rfl⟩ := val_of_rightL h3
  have hs : ∀ x ∈ flat t, x.name.length ≤ 200 ∧ x.s.length ≤ 200 := by
    intro x hx
    have := List.all_eq_true.1 h2 x hx
    simp [shortN] at this
    exact ⟨this.2, this.1⟩
  have hF : FitT t := fitT_of hv (fun x hx => ⟨by have := (hs x hx).1; omega, by have := (hs x hx).2; omega⟩) (by omega)
  have hd := depth_len t
  have hw := wS_small hs
  have hc := compact_len hv.ok hv.rt
  have hi := indent_len hv.ok hv.rt (D := 60) (by omega)
  refine ⟨t, rfl, ⟨hv, by omega, by omega, hs, by omega, by omega⟩, fun w v hv2 hT => compact_any t v w hF hv2 (by omega) hT.pow hT.wds, fun w v hv2 hT => indent_any t v w hF hv2 (by omega) hT.pow hT.wds, fun w hT => back_calls false hv (by omega) (by omega) w hT, fun w hT => back_calls true hv (by omega) (by omega) w hT⟩
theorem texts_of {l : List Nd} (h : few 60 l = true) : ∃ t TC TI, l = flat t ∧ Texts t TC TI := by
  obtain ⟨t, h1, -, h2⟩ := texts_known h
  exact ⟨t, _, _, h1, h2⟩
theorem same_true (va vb : Value) (l : List Nd) (w : World) (ha : Nds w va l) (hb : Nds w vb l) : Calls Tryz.prog 11 #[va, vb] w fun e w' => e = .returned (.bool true) ∧ Below w.heap.size w w' := by
  have := refSame_any va vb l l w ha hb
  rwa [decide_eq_true (rfl : l = l)] at this
end Go.Proofs.YtafbojiojeemoaaGreatDoor

/-
  The document's own reading of texts: value for any depth; Parse of louperef04.
-/
namespace Go.Proofs.YtafbojiojeemoaaGreatDoor
open Go.RowKit Np Rw Vp Up Qp Tp

theorem refValueG_any (s : ByteArray) (hs : s.size ≤ 600) : ∀ (n : Nat) (dd : Int), (n : Int) + dd = 128 → 0 ≤ dd → ValG s (vlR s.data.toList n) dd
  | 0, dd, h, h0 => by
    intro k W hk hsk
    have := refValueG_of s k dd (fun j => .bad 3 j) (fun j => .bad 3 j) W hs hk h0 (by omega) (fun _ h => by omega) (fun _ h => by omega) (fun _ => ⟨rfl, rfl⟩)
    rw [vlR_zero, hsk]
    exact this
  | n + 1, dd, h, h0 => by
    intro k W hk hsk
    have ih := refValueG_any s hs n (dd + 1) (by omega) (by omega)
    have := refValueG_of s k dd (fun j => mapR liV (ptR (vlR s.data.toList n) snoc [] s.data.toList 93 j)) (fun j => mapR obV (ptR (fdR (vlR s.data.toList n) s.data.toList) putP [] s.data.toList 125 j)) W hs hk h0 (by omega)
      (fun hlt hd W => refListG_any s n k dd W hs hlt h0 hd ih) (fun hlt hd W => refObjectG_any s n k dd W hs hlt h0 hd ih) (fun h => by omega)
    rw [vlR_succ, hsk]
    exact this
end Go.Proofs.YtafbojiojeemoaaGreatDoor

/-
  The document's own reading of texts: Parse of louperef04.
-/
namespace Go.Proofs.YtafbojiojeemoaaGreatDoor
open Go.RowKit Np Rw Vp Up Qp Tp

/-- What Parse has in hand. -/
theorem got_lies (w : World) (V : Value) (k er : Int) : (w.alloc (.cells #[V, .int .i64 k, .int .i64 er] 59)).cell? ⟨w.heap.size, 0, none⟩ = some V ∧ (w.alloc (.cells #[V, .int .i64 k, .int .i64 er] 59)).cell? ⟨w.heap.size, 1, none⟩ = some (.int .i64 k) ∧ (w.alloc (.cells #[V, .int .i64 k, .int .i64 er] 59)).cell? ⟨w.heap.size, 2, none⟩ = some (.int .i64 er) := by
  have h := heap_alloc_new w (.cells #[V, .int .i64 k, .int .i64 er] 59)
  refine ⟨?_, ?_, ?_⟩ <;> (rw [Lib.cell_of_heap h]; rfl)
set_option maxRecDepth 100000 in
set_option maxHeartbeats 8000000 in
theorem refParse_any (s : ByteArray) (w : World) (hs : s.size ≤ 600) : Calls Tryz.prog 10 #[.string s] w (PrE w s.data.toList) := by
  have hlen := size_toList s
  have h0 : sk s.data.toList 0 ≤ s.size := by have := sk_le (S := s.data.toList) (i := 0) (by omega); omega
  have HC := Lib.hid (fun W => (by
    have h := refValueG_any s hs 128 0 rfl (by omega) (sk s.data.toList 0) W h0 (sk_sk _ _)
    rwa [← vlR_sk] at h : Calls Tryz.prog 32 #[.string s, .int .i64 (sk s.data.toList 0 : Nat), .int .i64 0] W (GotE W (vlR s.data.toList 128 0))))
  have hBL1 : Calls Tryz.prog 33 #[.string s, .int .i64 0] w fun e w' => e = .returned (.int .i64 (sk s.data.toList 0 : Nat)) ∧ w' = w := refBlank_any s 0 w (by omega) (by omega)
  generalize sk s.data.toList 0 = j at *
  cases hv : vlR s.data.toList 128 0 with
  | bad er p =>
    have hee := (vlR_err s.data.toList 128 0 er p (by omega) hv).1
    have hep := (vlR_err s.data.toList 128 0 er p (by omega) hv).2
    have her : (er != 0) = true := by simp; omega
    have her2 : (er == 0) = false := by simp; omega
    have HP := Lib.hid (prs_bad hv)
    rw [hv] at HC
    clear hv hee hep hlen h0
    go_enter Tryz.func10, Tryz.ntmps10
    go_wp2_with fail
    refine hBL1.mono ?_
    rintro e w1 ⟨rfl, rfl⟩
    clear hBL1
    go_wp2_with fail
    refine (HC.out _).mono ?_
    rintro e w2 ⟨rfl, hb1⟩
    obtain ⟨x0, x1, x2⟩ := got_lies w2 (.slice none 0 0) (p : Nat) er
    have HB := Lib.hid (hb1.out.alloc hb1.out.size (.cells #[.slice none 0 0, .int .i64 (p : Nat), .int .i64 er] 59))
    clear hb1 HC
    go_wp2_with fail
    go_quiet (fail)
    go_wp2_with fail
    go_ret3
    exact PrE.mk HP.out (Own.nil _) (drewN_below HB.out nq)
  | ok v k =>
    have hk : k ≤ s.size := by have := (vlR_goes s.data.toList 128 0 v k hv).2.1; omega
    have hks : sk s.data.toList k ≤ s.size := by have := sk_le (S := s.data.toList) (i := k) (by omega); omega
    have HBL := Lib.hid (fun W => refBlank_any s k W (by omega) hk)
    have HP1 : Hid (sk s.data.toList k < s.size → prsR s.data.toList = ([], sk s.data.toList k, 1)) := Lib.hid (fun h => prs_more hv (by omega))
    have HP2 : Hid (¬ sk s.data.toList k < s.size → prsR s.data.toList = (v, 0, 0)) := Lib.hid (fun h => prs_ok hv (by omega))
    rw [hv] at HC
    clear hv hlen h0
    generalize sk s.data.toList k = T at *
    go_enter Tryz.func10, Tryz.ntmps10
    go_wp2_with fail
    refine hBL1.mono ?_
    rintro e w1 ⟨rfl, rfl⟩
    clear hBL1
    go_wp2_with fail
    refine (HC.out _).mono ?_
    rintro e w2 ⟨A, c, rfl, ho, hb1⟩
    obtain ⟨x0, x1, x2⟩ := got_lies w2 (.slice A v.length c) (k : Nat) 0
    have HB := Lib.hid (hb1.out.alloc hb1.out.size (.cells #[.slice A v.length c, .int .i64 (k : Nat), .int .i64 0] 59))
    have HO := Lib.hid (ho.out.alloc (.cells #[.slice A v.length c, .int .i64 (k : Nat), .int .i64 0] 59))
    clear hb1 ho HC
    go_wp2_with fail
    refine (HBL.out _).mono ?_
    rintro e w3 ⟨rfl, rfl⟩
    by_cases hlt : T < s.size
    · have hlt2 : (T : Int) < (s.size : Int) := by omega
      have HP := Lib.hid (HP1.out hlt)
      clear HP1 HP2 HBL HO
      go_wp2_with fail
      go_ret3
      exact PrE.mk HP.out (Own.nil _) HB.out
    · have hlt2 : ¬ (T : Int) < (s.size : Int) := by omega
      have HP := Lib.hid (HP2.out hlt)
      clear HP1 HP2 HBL
      go_wp2_with fail
      go_ret3
      exact PrE.mk HP.out HO.out HB.out
end Go.Proofs.YtafbojiojeemoaaGreatDoor

/-
  The walk of TextParses: it answers true.
-/
namespace Go.Proofs.YtafbojiojeemoaaGreatDoor
open Go.RowKit Np Rw Vp Up Qp Tp

set_option maxRecDepth 100000 in
set_option maxHeartbeats 8000000 in
theorem textParses_any (s : ByteArray) (w : World) (hT : Tv w) :
    Calls Tryz.prog 3 #[.string s] w fun e w' => e = .returned (.bool true) ∧ Below w.heap.size w w' := by
  have HT := Lib.hid hT
  by_cases hs : s.size ≤ 600
  · have hs' : ¬ (s.size : Int) > 600 := by omega
    have HA := Lib.hid (parse_any s w (by omega) hT.er hT.tabs hT.wds)
    have HB := Lib.hid (fun W => refParse_any s W hs)
    clear hT
    generalize hR : prsR s.data.toList = R at *
    have HA2 : Hid (Calls Tryz.prog 9 #[.string s] w fun e w' => ∃ (A : Option Addr) (c : Nat), e = .returned (.tuple #[.slice A R.1.length c, .int .i64 (R.2.1 : Nat), .int .i64 R.2.2]) ∧ Hid (Nds w' (.slice A R.1.length c) R.1) ∧ Hid (Below w.heap.size w w')) := Lib.hid (HA.out.mono (by
      rintro e w' ⟨V, he, hV, hb⟩
      rw [hR] at he hV
      obtain ⟨A, c, rfl, h⟩ := hV.row ndc_len
      exact ⟨A, c, he, Lib.hid ⟨A, c, rfl, h⟩, Lib.hid hb⟩))
    have HB2 : Hid (∀ W, Calls Tryz.prog 10 #[.string s] W fun e w' => ∃ (A : Option Addr) (c : Nat), e = .returned (.tuple #[.slice A R.1.length c, .int .i64 (R.2.1 : Nat), .int .i64 R.2.2]) ∧ Hid (Nds w' (.slice A R.1.length c) R.1) ∧ Hid (Below W.heap.size W w')) := Lib.hid (fun W => (HB.out W).mono (by
      rintro e w' ⟨V, he, hV, hb⟩
      rw [hR] at he hV
      obtain ⟨A, c, rfl, h⟩ := hV.row ndc_len
      exact ⟨A, c, he, Lib.hid ⟨A, c, rfl, h⟩, Lib.hid hb⟩))
    clear HA HB hR
    obtain ⟨l, p, er⟩ := R
    simp only at HA2 HB2
    generalize hn : l.length = n at *
    go_enter Tryz.func3, Tryz.ntmps3
    go_wp2_with fail
    refine HA2.out.mono ?_
    rintro e w1 ⟨A1, c1, rfl, HN1, HB1⟩
    go_wp2_with fail
    refine (HB2.out _).mono ?_
    rintro e w2 ⟨A2, c2, rfl, HN2, hb2⟩
    have HN3 := Lib.hid (HN1.out.below hb2.out)
    have HB3 := Lib.hid (Below.after HB1.out hb2.out)
    clear HN1 HB1 hb2 HA2 HB2
    go_wp2_with fail
    refine (alive_any _ (HT.out.below HB3.out)).mono ?_
    rintro e w3 ⟨rfl, hb4⟩
    have HN4 := Lib.hid (HN3.out.below hb4)
    have HN5 := Lib.hid (HN2.out.below hb4)
    have HB4 := Lib.hid (Below.after HB3.out hb4)
    clear HN2 HN3 HB3 hb4
    go_wp2_with fail
    refine (same_true _ _ _ _ HN4.out HN5.out).mono ?_
    rintro e w4 ⟨rfl, hb5⟩
    have HB5 := Lib.hid (Below.after HB4.out hb5)
    clear HN4 HN5 HB4 hb5
    go_wp2_with fail
    go_ret
    exact ⟨rfl, HB5.out⟩
  · have hs' : (s.size : Int) > 600 := by omega
    clear hT
    go_enter Tryz.func3, Tryz.ntmps3
    go_wp2_with fail
    refine (alive_any _ HT.out).mono ?_
    rintro e w1 ⟨rfl, hb1⟩
    go_wp2_with fail
    go_ret
    exact ⟨rfl, hb1⟩
end Go.Proofs.YtafbojiojeemoaaGreatDoor

/-
  The statement TextParses holds: called with any text, whatever lies in memory, it returns true, and each argument reads as it read before. Conditions: the listed variables of the library (two tables of bits, one of powers of ten, two of UTF-8, strconv's two errors) and the program's table of words read as the program's text lays them (the tie is given).
-/
namespace Go.Proofs.YtafbojiojeemoaaGreatDoor
open Go.ChangeShapes Go.WideShapes Go.ChangeAt Go.RowKit Go.ChangeMaps

set_option maxRecDepth 100000 in
theorem textParses_lifted (os : Os) (started : os.Started) (H : Type) (enc : TypeId × Value → H) :
    ReturnsInHanded {} Tryz.checked os 3 .any (fun w args => (Rows.textParsesSpec.pre enc Tryz.prog Tryz.f3 [] false w args ∧ laidMetH Tryz.prog seatLaid w) ∧ sizedMet enc Tryz.prog Tryz.f3 (OpenSpec.ofChange Rows.textParsesSpec) false w args)
      (Rows.textParsesSpec.post enc Tryz.prog Tryz.f3 false true false false) := by
  refine returnsInHanded_of_change_and (C := Tryz.checked) (X := fun w _ => laidMetH Tryz.prog seatLaid w) (fun _ _ _ hh h => h.of_heap hh) ownKn started (by kernel_rfl) Tryz.func3
    (ChangeSpec.witness_shaped (enc := enc) (C := Tryz.checked) (os := os) (X := fun w _ => laidMetH Tryz.prog seatLaid w) false (World.laidAll Tryz.prog os seatLaid)
      #[.string ⟨#[]⟩] 8 (World.laidAll_os _ _ _)
      (World.shaped_of_ZipB (by kernel_rfl) (by kernel_rfl)) (by kernel_rfl) (by kernel_rfl) (by kernel_rfl) (laid_met os _)) ?_
  intro W base args ds gs before hval0 hW _ hwt0 hL _
  have hval : ∀ (j : Nat) t v, Tryz.f3.params[j]? = some t → args[j]? = some v → Value.okWide Tryz.prog W .any base t v := hval0
  have hW' := hW
  obtain ⟨p, q, hA0, hV, rfl, _, _⟩ := hW
  have hA : DataW.TrodAll enc Tryz.prog W 0 (fun _ => true) true Tryz.f3.params.toList args.toList ds p := hA0
  have hwt : (DataW.weightsEach Tryz.prog (Tryz.f3.params.toList ++ Rows.textParsesSpec.plain.varTypes Tryz.prog) (ds ++ gs)).all (· ≤ reachBytes) = true := hwt0
  rw [Tryz.params3] at hA hval
  obtain ⟨v0, d0, rfl, rfl, h0⟩ := trodAll_one hA
  obtain ⟨rfl, rfl⟩ := trodVars_none hV
  obtain ⟨t0, rfl, -, -, ht0⟩ := open_string Tryz.underlying9 (hval 0 _ v0 rfl rfl) h0
  refine (textParses_any t0 W (tv_of_laid hL)).mono fun e W' ⟨he, hb⟩ => ?_
  subst he
  exact ⟨_, rfl, law_post (tb := 4) laidOut hW' rfl Tryz.underlying4 (by kernel_rfl) rfl (by
    rw [Tryz.params3]
    intro t ht
    have hall : ([9].all fun t => Tryz.prog.readableRec t && decide (t < Tryz.prog.types.size)) = true := by kernel_rfl
    obtain ⟨h1, h2⟩ := Bool.and_eq_true_iff.1 (List.all_eq_true.1 hall t ht)
    exact ⟨h1, of_decide_eq_true h2⟩) hb⟩

theorem textParses_holds : Rows.TextParsesSaid :=
  OpenClaim.holds_of_wide 3 Tryz.f3 rfl rfl rfl rfl rfl rfl rfl ⟨rfl, rfl, rfl, rfl, rfl⟩ rfl rfl rfl rfl rfl (by kernel_rfl) Tryz.func3 (by kernel_rfl)
    (of_decide_eq_true (by kernel_rfl)) (by unfold Func.isWrapper; first | (rw [if_pos (by decide +kernel)]; kernel_rfl) | (rw [if_neg (by decide +kernel)]; exact ⟨rfl, rfl⟩))
    (fun os started H enc _ => textParses_lifted os started H enc)

theorem textParses_card : Rows.TextParsesCardSaid :=
  Claim7.holds_tied_plain_at .later [] Rows.textParsesCard.laidKinds true Rows.textParsesCard.stood.harness Rows.textParsesCard.stood.looks
    textParses_holds (fun _ h => by cases h) (by kernel_rfl) (fun _ h => by cases h) textParses_row_tie rfl ⟨rfl, rfl⟩ (by kernel_rfl) rfl
    (fun f fn hf hfn => by
      obtain rfl : f = 3 := Option.some.inj ((show Tryz.prog.funcNamed "loupe/loupelaw04.TextParses" = some 3 by kernel_rfl).symm.trans hf) |>.symm
      obtain rfl : fn = Tryz.f3 := (Option.some.inj (Tryz.func3.symm.trans hfn)).symm
      exact ⟨by kernel_rfl, fun j t ht => by
        rw [Tryz.params3] at ht
        have hm : t ∈ [9] := by simpa using Array.mem_of_getElem? ht
        have hall : ([9].all fun u => !Tryz.prog.wantsStandIn u) = true := by kernel_rfl
        exact (show Tryz.prog.wantsStandIn t = false by simpa using List.all_eq_true.1 hall t hm)⟩)
    (by kernel_rfl)
#print axioms textParses_card
end Go.Proofs.YtafbojiojeemoaaGreatDoor
