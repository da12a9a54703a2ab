/-
  Joined: PT5, PT6, FrB, FrB2.
-/
import Derived.Test.YtldioobbfkaebaaGreatDoorEvalHoldsJ15
import Derived.Test.YtldioobbfkaebaaGreatDoorEvalHoldsJ6
import Derived.Test.YtldioobbfkaebaaGreatDoorEvalHoldsJ10
import Derived.Test.YtldioobbfkaebaaGreatDoorEvalHoldsJ14
import Derived.Test.YtldioobbfkaebaaGreatDoorEvalHoldsJ11
import Derived.Test.YtldioobbfkaebaaGreatDoorEvalHoldsJ8
set_option maxHeartbeats 8000000
set_option maxRecDepth 100000
namespace Go.Proofs.YtldioobbfkaebaaGreatDoor
section
open Go.RowKit Np Rw Vp Up Qp Pw
theorem figR_le {r : List UInt8} {v k : Nat} (h : figR r = some (v, k)) : v ≤ 1000000 := by
 unfold figR at h
 split at h
 ·cases h
 ·rename_i hc
  injection h with h
  injection h with h1 _
  rw [not_or, not_or] at hc
  omega
theorem refStep_any (s : ByteArray) (i : Nat) (first : Bool) (w : World) (hs : s.size ≤ 1000000) (hi : i ≤ s.size) :
  Calls Tryz.prog 140 #[.string s, .int .i64 i, .bool first] w fun e w' => e = .returned (stpV i (stepR (s.data.toList.drop i) first)) ∧ Below w.heap.size w w' := by
 have hb0 : Below w.heap.size w (w.alloc (.cells #[.bool false, .string ⟨#[]⟩, .int .i64 0] 49)) := (Below.refl _ _).alloc (Nat.le_refl _) _
 have HB0 := Lib.hid hb0
 clear hb0
 have HFG := Lib.hid (fun a W (ha : a ≤ s.size) => refFigP_any s a W hs ha)
 by_cases hlt : i < s.size
 ·have hdr : s.data.toList.drop i = s[i] :: s.data.toList.drop (i + 1) := by
   rw [List.drop_eq_getElem_cons (by rw [size_toList]; exact hlt)]; rfl
  by_cases h46 : s[i].toNat = 46
  ·have hc46 : s[i] = 46 := by rw [← u8_of (c := s[i]) (n := 46) h46]; rfl
   have h46b : ((s[i].toNat : Int) == 46) = true := by simp; omega
   have HS1 : Hid (∀ x, fieldR (s.data.toList.drop (i + 1)) = some x → stepR (s.data.toList.drop i) first = some (x.1, x.2 + 1)) := Lib.hid (fun x h => by
    rw [hdr]; simp only [stepR]; rw [if_pos hc46, h])
   have HS2 : Hid (fieldR (s.data.toList.drop (i + 1)) = none → first = false → stepR (s.data.toList.drop i) first = none) := Lib.hid (fun h h2 => by
    rw [hdr]; simp only [stepR]; rw [if_pos hc46, h, h2]; rfl)
   have HS3 : Hid (fieldR (s.data.toList.drop (i + 1)) = none → first = true → (∀ d r', s.data.toList.drop (i + 1) = d :: r' → ¬ d = 91) → stepR (s.data.toList.drop i) first = none) := Lib.hid (fun h h2 h3 => by
    rw [hdr]; simp only [stepR]; rw [if_pos hc46, h, h2]
    cases hq : s.data.toList.drop (i + 1) with
    | nil => rfl
    | cons d r' => simp only [if_true]; rw [if_neg (h3 d r' hq)])
   have HS4 : Hid (∀ d r', fieldR (s.data.toList.drop (i + 1)) = none → first = true → s.data.toList.drop (i + 1) = d :: r' → d = 91 → stepR (s.data.toList.drop i) first = (partR r').map fun x => (x.1, x.2 + 2)) := Lib.hid (fun d r' h h2 hq h4 => by
    rw [hdr]; simp only [stepR]; rw [if_pos hc46, h, h2, hq]; simp only [if_true]; rw [if_pos h4])
   by_cases hq34 : ∃ h : i + 1 < s.size, s[i + 1].toNat = 34
   ·obtain ⟨hlt3, h34⟩ := hq34
    have h34c : s[i + 1] = 34 := by rw [← u8_of (c := s[i + 1]) (n := 34) h34]; rfl
    have hr2 : s.data.toList.drop (i + 1) = 34 :: s.data.toList.drop (i + 1 + 1) := by
     rw [List.drop_eq_getElem_cons (by rw [size_toList]; exact hlt3)]
     have : s.data.toList[i + 1]'(by rw [size_toList]; exact hlt3) = 34 := h34c
     rw [this]
    have hwr : wrd (s.data.toList.drop (i + 1)) = [] := by rw [hr2, wrd_mark]
    obtain ⟨nm, n, ee, hu⟩ : ∃ nm n ee, unqs (s.data.toList.drop (i + 1)) = (nm, n, ee) := ⟨_, _, _, rfl⟩
    have hfd : fieldR (s.data.toList.drop (i + 1)) = if ee = 0 ∧ isW nm = false ∧ quo nm = (s.data.toList.drop (i + 1)).take n then some (⟨false, nm, 0⟩, n) else none := by
     unfold fieldR
     rw [if_neg (by rw [hwr]; simp), hu]
    have hgone : fieldR (s.data.toList.drop (i + 1)) = none → stepR (s.data.toList.drop i) first = none := fun hn => by
     cases first with
     | false => exact HS2.out hn rfl
     | true =>
      refine HS3.out hn rfl (fun d r' e h => ?_)
      rw [hr2] at e
      injection e with e1 e2
      rw [← e1] at h
      exact absurd h (by decide)
    by_cases hee : ee = 0
    ·cases hW : isW nm with
     | true =>
      rw [hgone (by rw [hfd, if_neg (by rw [hW]; simp)])]
      exact refStep_qWord s i first w hs hlt3 hc46 h34c nm n ee hu hee hW
     | false =>
      by_cases hq : quo nm = (s.data.toList.drop (i + 1)).take n
      ·rw [HS1.out (⟨false, nm, 0⟩, n) (by rw [hfd, if_pos ⟨hee, hW, hq⟩])]
       exact refStep_qGood s i first w hs hlt3 hc46 h34c nm n ee hu hee hW hq
      ·rw [hgone (by rw [hfd, if_neg (fun h => hq h.2.2)])]
       exact refStep_qNone s i first w hs hlt3 hc46 h34c nm n ee hu hee hW hq
    ·rw [hgone (by rw [hfd, if_neg (fun h => hee h.1)])]
     exact refStep_qBad s i first w hs hlt3 hc46 h34c nm n ee hu hee
   have HQ34 := Lib.hid hq34
   clear hq34
   have HXT : Hid (∀ j, j ≤ (s.data.toList.drop (i + 1)).length → (∀ t, t < j → okAt (s.data.toList.drop (i + 1)) t = true) → okAt (s.data.toList.drop (i + 1)) j = false → 0 < j → stepR (s.data.toList.drop i) first = some (⟨false, (s.data.toList.drop (i + 1)).take j, 0⟩, j + 1)) := Lib.hid (fun j hj h1 h2 h0 => HS1.out _ (step_word hj h0 h1 h2))
   have HRL : Hid ((s.data.toList.drop (i + 1)).length = s.size - (i + 1)) := Lib.hid (by rw [List.length_drop, size_toList])
   have HEX : Hid (∀ m, (s.extract (i + 1) (i + 1 + m)).data.toList = (s.data.toList.drop (i + 1)).take m) := Lib.hid (fun m => by
    have h := Lib.extract_toList s (i + 1) (i + 1 + m)
    rw [ByteArray.toList_eq, Nat.add_sub_cancel_left] at h
    exact h)
   have HWD : Hid (∀ m W, Calls Tryz.prog 20 #[.string (s.extract (i + 1) (i + 1 + m))] W fun e w' => e = .returned (.bool (isW ((s.data.toList.drop (i + 1)).take m))) ∧ w' = W) := Lib.hid (fun m W => by
    have h := refWordP_any (s.extract (i + 1) (i + 1 + m)) W (by rw [ByteArray.size_extract]; unfold maxLen; omega)
    rwa [HEX.out] at h)
   clear hdr
   generalize hr : s.data.toList.drop (i + 1) = r at *
   go_enter Tryz.func140, Tryz.ntmps140
   go_wp2_with fail
   go_loopw [9] (fun kv wr => ∃ j : Nat, i + 1 + j ≤ s.size ∧ kv = .int .i64 ((i + 1 + j : Nat) : Int) ∧ Hid (∀ t, t < j → okAt r t = true) ∧ wr = w.alloc stepZ) (fun kv _ => s.size - (intOf kv).toNat)
   case atStart => exact ⟨0, by omega, by simp, Lib.hid (fun t ht => by omega), rfl⟩
   case round =>
    obtain ⟨j, hij, rfl, HA, rfl⟩ := hrel
    by_cases hlt2 : i + 1 + j < s.size
    ·have hjr : j < r.length := by rw [HRL.out]; omega
     cases hw : isW (r.take (j + 1)) with
     | true =>
      have HA2 : Hid (∀ t, t < j + 1 → okAt r t = true) := Lib.hid (fun t ht => (isW_take hjr).1 hw t (by omega))
      have HWJ := HWD.out (j + 1)
      rw [hw] at HWJ
      clear hw
      go_wp2_with fail
      refine (HWJ _).mono ?_
      rintro e wf ⟨rfl, rfl⟩
      go_wp2_with fail
      refine ⟨⟨j + 1, by omega, by go_num, HA2, by first | trivial | rfl⟩, ?_⟩
      simp [intOf]; omega
     | false =>
      have hok := step_stop hjr HA.out hw
      have HWJ := HWD.out (j + 1)
      rw [hw] at HWJ
      clear hw
      by_cases hj0 : j = 0
      ·subst hj0
       have hlt3 : i + 1 < s.size := by omega
       have hr2 : r = s[i + 1] :: s.data.toList.drop (i + 1 + 1) := by
        rw [← hr, List.drop_eq_getElem_cons (by rw [size_toList]; exact hlt3)]; rfl
       have hwr : wrd r = [] := by rw [wrd_of (Nat.zero_le _) (fun t ht => absurd ht (Nat.not_lt_zero _)) hok]; rfl
       by_cases h34 : s[i + 1].toNat = 34
       ·exact absurd ⟨hlt3, h34⟩ HQ34.out
       ·have hu : unqs r = ([], 0, 1) := by
         have hb : bt r 0 = s[i + 1].toNat := by rw [hr2]; rfl
         rw [unqs, if_neg (by rw [hb]; exact h34)]
        have HNF : Hid (fieldR r = none) := Lib.hid (by
         unfold fieldR
         rw [if_neg (by rw [hwr]; simp), hu, if_neg (by simp)])
        have HUQ : Hid (∀ W, Calls Tryz.prog 169 #[.string (s.extract (i + 1) s.size)] W fun e w' => e = .returned (.tuple #[.string ⟨#[]⟩, .int .i64 0, .int .i64 1]) ∧ Below W.heap.size W w') := Lib.hid (fun W => by
         have h := refUnquote_any (s.extract (i + 1) s.size) W (by rw [ByteArray.size_extract]; omega)
         have e : (s.extract (i + 1) s.size).data.toList = r := by
          have := HEX.out (s.size - (i + 1))
          rw [show i + 1 + (s.size - (i + 1)) = s.size by omega] at this
          rw [this, List.take_of_length_le (by rw [HRL.out]; omega)]
         rw [e, hu] at h
         exact h)
        have HREQ : Hid (first = true → (s[i + 1].toNat = 91 → stepR (s.data.toList.drop i) first = (partR (s.data.toList.drop (i + 1 + 1))).map fun x => (x.1, x.2 + 2)) ∧ (¬ s[i + 1].toNat = 91 → stepR (s.data.toList.drop i) first = none)) := Lib.hid (fun hf => ⟨fun h => HS4.out _ _ HNF.out hf hr2 (by rw [← u8_of (c := s[i + 1]) (n := 91) h]; rfl), fun h => HS3.out HNF.out hf (fun d r' e h2 => by
         rw [hr2] at e; injection e with e1 e2; exact h (by rw [e1, h2]; rfl))⟩)
        have HSF : Hid (first = false → stepR (s.data.toList.drop i) first = none) := Lib.hid (fun hf => HS2.out HNF.out hf)
        clear hok HXT HS1 HS2 HS3 HS4 hjr HA HRL HEX hwr HNF hr2 hr hu h34 HWD
        cases first with
        | false =>
         have HS := Lib.hid (HSF.out rfl)
         clear HSF HREQ
         go_wp2_with fail
         refine (HWJ _).mono ?_
         rintro e wf ⟨rfl, rfl⟩
         go_wp2_with fail
         refine (HUQ.out _).mono ?_
         rintro e w1 ⟨rfl, hb1⟩
         have HB1 : Hid (Below w.heap.size w w1) := Lib.hid (HB0.out.trans (hb1.mono HB0.out.size))
         obtain ⟨hz4, k0, k1, k2, hfz, -⟩ := new_step (W := w.alloc stepZ) (b := w.heap.size) (heap_alloc_new w stepZ) hb1
         clear hb1
         go_upto_region 10 with fail
         go_quiet (fail)
         go_wp2_with fail
         all_goals exact bodyPost_ret (v := .tuple #[sta ⟨false, [], 0⟩, .int .i64 (i : Int)]) (by simp [results, Tryz.results140, go_sem, k0, k1, k2]) rfl ⟨by rw [HS.out]; rfl, (((drewN_below HB1.out _).setCell (Nat.le_refl _) _).setCell (Nat.le_refl _) _).setCell (Nat.le_refl _) _⟩
        | true =>
         have HREQ := Lib.hid (HREQ.out rfl)
         clear HSF
         by_cases h91 : s[i + 1].toNat = 91
         ·have HR91 : Hid (stepR (s.data.toList.drop i) true = (partR (s.data.toList.drop (i + 1 + 1))).map fun x => (x.1, x.2 + 2)) := Lib.hid (HREQ.out.1 h91)
          have HFR := HFG.out (i + 1 + 1)
          have h91b : ((s[i + 1].toNat : Int) == 91) = true := by simp; omega
          have h91c : ((s[i + 1].toNat : Int) != 91) = false := by simp; omega
          cases hfg : figR (s.data.toList.drop (i + 1 + 1)) with
          | none =>
           have HN : Hid (stepR (s.data.toList.drop i) true = none) := Lib.hid (by rw [HR91.out]; unfold partR; rw [hfg]; rfl)
           rw [hfg] at HFR
           clear HR91 hfg
           go_wp2_with fail
           refine (HWJ _).mono ?_
           rintro e wf ⟨rfl, rfl⟩
           go_wp2_with fail
           refine (HUQ.out _).mono ?_
           rintro e w1 ⟨rfl, hb1⟩
           have HB1 : Hid (Below w.heap.size w w1) := Lib.hid (HB0.out.trans (hb1.mono HB0.out.size))
           obtain ⟨hz4, k0, k1, k2, hfz, -⟩ := new_step (W := w.alloc stepZ) (b := w.heap.size) (heap_alloc_new w stepZ) hb1
           clear hb1
           go_upto_region 10 with fail
           go_quiet (fail)
           go_wp2_with fail
           refine (HFR _ (by omega)).mono ?_
           rintro e wf ⟨rfl, rfl⟩
           simp only [figV]
           go_wp2_with fail
           all_goals first
            | (exact bodyPost_ret (v := .tuple #[sta ⟨false, [], 0⟩, .int .i64 (i : Int)]) (by simp [results, Tryz.results140, go_sem, k0, k1, k2]) rfl ⟨by rw [HN.out]; rfl, (((drewN_below HB1.out _).setCell (Nat.le_refl _) _).setCell (Nat.le_refl _) _).setCell (Nat.le_refl _) _⟩)
            | (exfalso; clear HN HFG HREQ; simp at *; omega)
          | some x =>
           obtain ⟨v, k⟩ := x
           rw [hfg] at HFR
           have hvm : v ≤ 1000000 := figR_le hfg
           by_cases hto : i + 1 + 1 + k < s.size
           ·have hat : (s.data.toList.drop (i + 1 + 1))[k]? = some s[i + 1 + 1 + k] := by
             rw [List.getElem?_drop, List.getElem?_eq_getElem (by rw [size_toList]; exact hto)]; rfl
            by_cases h93 : s[i + 1 + 1 + k].toNat = 93
            ·have HN : Hid (stepR (s.data.toList.drop i) true = some (⟨true, [], (v : Int)⟩, k + 1 + 2)) := Lib.hid (by
              rw [HR91.out]; unfold partR; rw [hfg]
              simp only
              rw [hat, if_pos (by rw [← u8_of (c := s[i + 1 + 1 + k]) (n := 93) h93]; rfl)]
              rfl)
             have h93b : ((s[i + 1 + 1 + k].toNat : Int) == 93) = true := by simp; omega
             clear HR91 hfg hat
             go_wp2_with fail
             refine (HWJ _).mono ?_
             rintro e wf ⟨rfl, rfl⟩
             go_wp2_with fail
             refine (HUQ.out _).mono ?_
             rintro e w1 ⟨rfl, hb1⟩
             have HB1 : Hid (Below w.heap.size w w1) := Lib.hid (HB0.out.trans (hb1.mono HB0.out.size))
             obtain ⟨hz4, k0, k1, k2, hfz, -⟩ := new_step (W := w.alloc stepZ) (b := w.heap.size) (heap_alloc_new w stepZ) hb1
             clear hb1
             go_upto_region 10 with fail
             go_quiet (fail)
             go_wp2_with fail
             refine (HFR _ (by omega)).mono ?_
             rintro e wf ⟨rfl, rfl⟩
             simp only [figV]
             go_wp2_with fail
             exact bodyPost_ret (v := .tuple #[sta ⟨true, [], (v : Int)⟩, .int .i64 ((i + (k + 1 + 2) : Nat) : Int)]) (by simp [results, Tryz.results140, go_sem, k0, k1, k2]; try omega) rfl ⟨by rw [HN.out]; rfl, (((drewN_below HB1.out _).setCell (Nat.le_refl _) _).setCell (Nat.le_refl _) _).setCell (Nat.le_refl _) _⟩
            ·have HN : Hid (stepR (s.data.toList.drop i) true = none) := Lib.hid (by
              rw [HR91.out]; unfold partR; rw [hfg]
              simp only
              rw [hat, if_neg (by intro e; injection e with e; exact h93 (by rw [e]; rfl))]
              rfl)
             have h93b : ((s[i + 1 + 1 + k].toNat : Int) == 93) = false := by simp; omega
             have h93c : ((s[i + 1 + 1 + k].toNat : Int) != 93) = true := by simp; omega
             clear HR91 hfg hat
             go_wp2_with fail
             refine (HWJ _).mono ?_
             rintro e wf ⟨rfl, rfl⟩
             go_wp2_with fail
             refine (HUQ.out _).mono ?_
             rintro e w1 ⟨rfl, hb1⟩
             have HB1 : Hid (Below w.heap.size w w1) := Lib.hid (HB0.out.trans (hb1.mono HB0.out.size))
             obtain ⟨hz4, k0, k1, k2, hfz, -⟩ := new_step (W := w.alloc stepZ) (b := w.heap.size) (heap_alloc_new w stepZ) hb1
             clear hb1
             go_upto_region 10 with fail
             go_quiet (fail)
             go_wp2_with fail
             refine (HFR _ (by omega)).mono ?_
             rintro e wf ⟨rfl, rfl⟩
             simp only [figV]
             go_wp2_with fail
             all_goals first
            | (exact bodyPost_ret (v := .tuple #[sta ⟨false, [], 0⟩, .int .i64 (i : Int)]) (by simp [results, Tryz.results140, go_sem, k0, k1, k2]) rfl ⟨by rw [HN.out]; rfl, (((drewN_below HB1.out _).setCell (Nat.le_refl _) _).setCell (Nat.le_refl _) _).setCell (Nat.le_refl _) _⟩)
            | (exfalso; clear HN HFG HREQ; simp at *; omega)
           ·have HN : Hid (stepR (s.data.toList.drop i) true = none) := Lib.hid (by
             rw [HR91.out]; unfold partR; rw [hfg]
             simp only
             rw [List.getElem?_drop, List.getElem?_eq_none (by rw [size_toList]; omega), if_neg (by simp)]
             rfl)
            clear HR91 hfg
            go_wp2_with fail
            refine (HWJ _).mono ?_
            rintro e wf ⟨rfl, rfl⟩
            go_wp2_with fail
            refine (HUQ.out _).mono ?_
            rintro e w1 ⟨rfl, hb1⟩
            have HB1 : Hid (Below w.heap.size w w1) := Lib.hid (HB0.out.trans (hb1.mono HB0.out.size))
            obtain ⟨hz4, k0, k1, k2, hfz, -⟩ := new_step (W := w.alloc stepZ) (b := w.heap.size) (heap_alloc_new w stepZ) hb1
            clear hb1
            go_upto_region 10 with fail
            go_quiet (fail)
            go_wp2_with fail
            refine (HFR _ (by omega)).mono ?_
            rintro e wf ⟨rfl, rfl⟩
            simp only [figV]
            go_wp2_with fail
            all_goals first
            | (exact bodyPost_ret (v := .tuple #[sta ⟨false, [], 0⟩, .int .i64 (i : Int)]) (by simp [results, Tryz.results140, go_sem, k0, k1, k2]) rfl ⟨by rw [HN.out]; rfl, (((drewN_below HB1.out _).setCell (Nat.le_refl _) _).setCell (Nat.le_refl _) _).setCell (Nat.le_refl _) _⟩)
            | (exfalso; clear HN HFG HREQ; simp at *; omega)
         ·have HN : Hid (stepR (s.data.toList.drop i) true = none) := Lib.hid (HREQ.out.2 h91)
          have h91b : ((s[i + 1].toNat : Int) == 91) = false := by simp; omega
          go_wp2_with fail
          refine (HWJ _).mono ?_
          rintro e wf ⟨rfl, rfl⟩
          go_wp2_with fail
          refine (HUQ.out _).mono ?_
          rintro e w1 ⟨rfl, hb1⟩
          have HB1 : Hid (Below w.heap.size w w1) := Lib.hid (HB0.out.trans (hb1.mono HB0.out.size))
          obtain ⟨hz4, k0, k1, k2, hfz, -⟩ := new_step (W := w.alloc stepZ) (b := w.heap.size) (heap_alloc_new w stepZ) hb1
          clear hb1
          go_upto_region 10 with fail
          go_quiet (fail)
          go_wp2_with fail
          all_goals first
            | (exact bodyPost_ret (v := .tuple #[sta ⟨false, [], 0⟩, .int .i64 (i : Int)]) (by simp [results, Tryz.results140, go_sem, k0, k1, k2]) rfl ⟨by rw [HN.out]; rfl, (((drewN_below HB1.out _).setCell (Nat.le_refl _) _).setCell (Nat.le_refl _) _).setCell (Nat.le_refl _) _⟩)
            | (exfalso; clear HN HFG HREQ; simp at *; omega)
      ·have HJL : j ≤ r.length := by omega
       have HS := Lib.hid (HXT.out j HJL HA.out hok (by omega))
       have HEJ : Hid (s.extract (i + 1) (i + 1 + j) = ⟨(r.take j).toArray⟩) := Lib.hid (by rw [← HEX.out j])
       clear hok HXT HS1 HS2 HS3 HS4 hjr HA HJL HRL HEX
       go_wp2_with fail
       refine (HWJ _).mono ?_
       rintro e wf ⟨rfl, rfl⟩
       go_wp2_with fail
       exact bodyPost_ret (v := .tuple #[sta ⟨false, r.take j, 0⟩, .int .i64 ((i + (j + 1) : Nat) : Int)]) (by simp [results, Tryz.results140, go_sem]; exact ⟨HEJ.out, by omega⟩) rfl ⟨by rw [HS.out]; rfl, (Below.refl _ _).alloc (Nat.le_refl _) _⟩
    ·have hjr : j = r.length := by rw [HRL.out]; omega
     by_cases hj0 : j = 0
     ·subst hj0
      have hrn : r = [] := List.eq_nil_of_length_eq_zero (by omega)
      have hok : okAt r 0 = false := by rw [hrn]; rfl
      have hwr : wrd r = [] := by rw [hrn]; rfl
      have HNF : Hid (fieldR r = none) := Lib.hid (by rw [hrn]; rfl)
      have HS : Hid (stepR (s.data.toList.drop i) first = none) := Lib.hid (by
       cases first with
       | false => exact HS2.out HNF.out rfl
       | true => exact HS3.out HNF.out rfl (by intro d r' e; rw [hrn] at e; cases e))
      have hsz : s.size = i + 1 := by omega
      have HUQ : Hid (∀ W, Calls Tryz.prog 169 #[.string ByteArray.empty] W fun e w' => e = .returned (.tuple #[.string ⟨#[]⟩, .int .i64 0, .int .i64 1]) ∧ Below W.heap.size W w') := Lib.hid (fun W => refUnquote_any ByteArray.empty W (by simp))
      clear hok HXT HS1 HS2 HS3 HS4 hjr HA HRL HEX hwr HNF hrn hr
      go_wp2_with fail
      refine (HUQ.out _).mono ?_
      rintro e w1 ⟨rfl, hb1⟩
      have HB1 : Hid (Below w.heap.size w w1) := Lib.hid (HB0.out.trans (hb1.mono HB0.out.size))
      obtain ⟨hz4, k0, k1, k2, hfz, -⟩ := new_step (W := w.alloc stepZ) (b := w.heap.size) (heap_alloc_new w stepZ) hb1
      clear hb1
      cases first with
      | false =>
       go_upto_region 10 with fail
       go_quiet (fail)
       go_wp2_with fail
       all_goals exact bodyPost_ret (v := .tuple #[sta ⟨false, [], 0⟩, .int .i64 (i : Int)]) (by simp [results, Tryz.results140, go_sem, k0, k1, k2]) rfl ⟨by rw [HS.out]; rfl, (((drewN_below HB1.out _).setCell (Nat.le_refl _) _).setCell (Nat.le_refl _) _).setCell (Nat.le_refl _) _⟩
      | true =>
       go_upto_region 10 with fail
       go_quiet (fail)
       go_wp2_with fail
       all_goals exact bodyPost_ret (v := .tuple #[sta ⟨false, [], 0⟩, .int .i64 (i : Int)]) (by simp [results, Tryz.results140, go_sem, k0, k1, k2]) rfl ⟨by rw [HS.out]; rfl, (((drewN_below HB1.out _).setCell (Nat.le_refl _) _).setCell (Nat.le_refl _) _).setCell (Nat.le_refl _) _⟩
     ·have HJL : j ≤ r.length := by omega
      have hok : okAt r j = false := by rw [okAt, List.getElem?_eq_none (by omega)]
      have HS := Lib.hid (HXT.out j HJL HA.out hok (by omega))
      have HEJ : Hid (s.extract (i + 1) (i + 1 + j) = ⟨(r.take j).toArray⟩) := Lib.hid (by rw [← HEX.out j])
      clear hok HXT HS1 HS2 HS3 HS4 hjr HA HJL HRL HEX
      go_wp2_with fail
      exact bodyPost_ret (v := .tuple #[sta ⟨false, r.take j, 0⟩, .int .i64 ((i + (j + 1) : Nat) : Int)]) (by simp [results, Tryz.results140, go_sem]; exact ⟨HEJ.out, by omega⟩) rfl ⟨by rw [HS.out]; rfl, (Below.refl _ _).alloc (Nat.le_refl _) _⟩
  ·have h46b : ((s[i].toNat : Int) == 46) = false := by simp; omega
   have hne46 : ¬ s[i] = 46 := fun e => h46 (by rw [e]; rfl)
   cases first with
   | true =>
    have HN : Hid (stepR (s.data.toList.drop i) true = none) := Lib.hid (by
     rw [hdr]; unfold stepR
     simp only
     rw [if_neg hne46]; rfl)
    clear hdr
    go_enter Tryz.func140, Tryz.ntmps140
    go_wp2_with fail
    exact bodyPost_ret (v := .tuple #[sta ⟨false, [], 0⟩, .int .i64 (i : Int)]) (by simp [results, Tryz.results140, go_sem]) rfl ⟨by rw [HN.out]; rfl, HB0.out⟩
   | false =>
    have HREQ : Hid ((s[i].toNat = 91 → stepR (s.data.toList.drop i) false = (partR (s.data.toList.drop (i + 1))).map fun x => (x.1, x.2 + 1)) ∧ (¬ s[i].toNat = 91 → stepR (s.data.toList.drop i) false = none)) := Lib.hid (by
     have hst : stepR (s.data.toList.drop i) false = if s[i] = 91 then (partR (s.data.toList.drop (i + 1))).map fun x => (x.1, x.2 + 1) else none := by
      rw [hdr]; unfold stepR
      simp only
      rw [if_neg hne46]; rfl
     rw [hst]
     refine ⟨fun h => if_pos (by rw [← u8_of (c := s[i]) (n := 91) h]; rfl), fun h => if_neg (fun e => h (by rw [e]; rfl))⟩)
    clear hdr
    by_cases h91 : s[i].toNat = 91
    ·have HR91 : Hid (stepR (s.data.toList.drop i) false = (partR (s.data.toList.drop (i + 1))).map fun x => (x.1, x.2 + 1)) := Lib.hid (HREQ.out.1 h91)
     have HFR := HFG.out (i + 1)
     have h91b : ((s[i].toNat : Int) == 91) = true := by simp; omega
     have h91c : ((s[i].toNat : Int) != 91) = false := by simp; omega
     cases hfg : figR (s.data.toList.drop (i + 1)) with
     | none =>
      have HN : Hid (stepR (s.data.toList.drop i) false = none) := Lib.hid (by rw [HR91.out]; unfold partR; rw [hfg]; rfl)
      rw [hfg] at HFR
      clear HR91 hfg
      go_enter Tryz.func140, Tryz.ntmps140
      go_wp2_with fail
      refine (HFR _ (by omega)).mono ?_
      rintro e wf ⟨rfl, rfl⟩
      simp only [figV]
      go_wp2_with fail
      all_goals first
       | (exact bodyPost_ret (v := .tuple #[sta ⟨false, [], 0⟩, .int .i64 (i : Int)]) (by simp [results, Tryz.results140, go_sem]) rfl ⟨by rw [HN.out]; rfl, HB0.out⟩)
       | (exfalso; clear HN HFG HREQ; simp at *; omega)
     | some x =>
      obtain ⟨v, k⟩ := x
      rw [hfg] at HFR
      have hvm : v ≤ 1000000 := figR_le hfg
      by_cases hto : i + 1 + k < s.size
      ·have hat : (s.data.toList.drop (i + 1))[k]? = some s[i + 1 + k] := by
        rw [List.getElem?_drop, List.getElem?_eq_getElem (by rw [size_toList]; exact hto)]; rfl
       by_cases h93 : s[i + 1 + k].toNat = 93
       ·have HN : Hid (stepR (s.data.toList.drop i) false = some (⟨true, [], (v : Int)⟩, k + 1 + 1)) := Lib.hid (by
         rw [HR91.out]; unfold partR; rw [hfg]
         simp only
         rw [hat, if_pos (by rw [← u8_of (c := s[i + 1 + k]) (n := 93) h93]; rfl)]
         rfl)
        have h93b : ((s[i + 1 + k].toNat : Int) == 93) = true := by simp; omega
        clear HR91 hfg hat
        go_enter Tryz.func140, Tryz.ntmps140
        go_wp2_with fail
        refine (HFR _ (by omega)).mono ?_
        rintro e wf ⟨rfl, rfl⟩
        simp only [figV]
        go_wp2_with fail
        exact bodyPost_ret (v := .tuple #[sta ⟨true, [], (v : Int)⟩, .int .i64 ((i + (k + 1 + 1) : Nat) : Int)]) (by simp [results, Tryz.results140, go_sem]; try omega) rfl ⟨by rw [HN.out]; rfl, ((Below.refl _ _).alloc (Nat.le_refl _) _)⟩
       ·have HN : Hid (stepR (s.data.toList.drop i) false = none) := Lib.hid (by
         rw [HR91.out]; unfold partR; rw [hfg]
         simp only
         rw [hat, if_neg (by intro e; injection e with e; exact h93 (by rw [e]; rfl))]
         rfl)
        have h93b : ((s[i + 1 + k].toNat : Int) == 93) = false := by simp; omega
        have h93c : ((s[i + 1 + k].toNat : Int) != 93) = true := by simp; omega
        clear HR91 hfg hat
        go_enter Tryz.func140, Tryz.ntmps140
        go_wp2_with fail
        refine (HFR _ (by omega)).mono ?_
        rintro e wf ⟨rfl, rfl⟩
        simp only [figV]
        go_wp2_with fail
        all_goals first
       | (exact bodyPost_ret (v := .tuple #[sta ⟨false, [], 0⟩, .int .i64 (i : Int)]) (by simp [results, Tryz.results140, go_sem]) rfl ⟨by rw [HN.out]; rfl, HB0.out⟩)
       | (exfalso; clear HN HFG HREQ; simp at *; omega)
      ·have HN : Hid (stepR (s.data.toList.drop i) false = none) := Lib.hid (by
        rw [HR91.out]; unfold partR; rw [hfg]
        simp only
        rw [List.getElem?_drop, List.getElem?_eq_none (by rw [size_toList]; omega), if_neg (by simp)]
        rfl)
       clear HR91 hfg
       go_enter Tryz.func140, Tryz.ntmps140
       go_wp2_with fail
       refine (HFR _ (by omega)).mono ?_
       rintro e wf ⟨rfl, rfl⟩
       simp only [figV]
       go_wp2_with fail
       all_goals first
       | (exact bodyPost_ret (v := .tuple #[sta ⟨false, [], 0⟩, .int .i64 (i : Int)]) (by simp [results, Tryz.results140, go_sem]) rfl ⟨by rw [HN.out]; rfl, HB0.out⟩)
       | (exfalso; clear HN HFG HREQ; simp at *; omega)
    ·have HN : Hid (stepR (s.data.toList.drop i) false = none) := Lib.hid (HREQ.out.2 h91)
     have h91b : ((s[i].toNat : Int) == 91) = false := by simp; omega
     go_enter Tryz.func140, Tryz.ntmps140
     go_wp2_with fail
     all_goals first
       | (exact bodyPost_ret (v := .tuple #[sta ⟨false, [], 0⟩, .int .i64 (i : Int)]) (by simp [results, Tryz.results140, go_sem]) rfl ⟨by rw [HN.out]; rfl, HB0.out⟩)
       | (exfalso; clear HN HFG HREQ; simp at *; omega)
 ·have HN : Hid (stepR (s.data.toList.drop i) first = none) := Lib.hid (by
   rw [List.drop_of_length_le (by rw [size_toList]; omega)]; rfl)
  cases first with
  | true =>
   go_enter Tryz.func140, Tryz.ntmps140
   go_wp2_with fail
   exact bodyPost_ret (v := .tuple #[sta ⟨false, [], 0⟩, .int .i64 (i : Int)]) (by simp [results, Tryz.results140, go_sem]) rfl ⟨by rw [HN.out]; rfl, HB0.out⟩
  | false =>
   go_enter Tryz.func140, Tryz.ntmps140
   go_wp2_with fail
   exact bodyPost_ret (v := .tuple #[sta ⟨false, [], 0⟩, .int .i64 (i : Int)]) (by simp [results, Tryz.results140, go_sem]) rfl ⟨by rw [HN.out]; rfl, HB0.out⟩
end
section
open Go.RowKit Np Rw Vp Up Qp Pw
def BegE (w : World) (l : List UInt8) (i : Nat) (R : List St × Nat) (e : Ending) (w' : World) : Prop := ∃ (A : Option Addr) (n c : Nat), e = .returned (.tuple #[.slice A n c, .int .i64 ((if R.1 = [] ∧ l[i]? = some 46 then i + 1 else R.2 : Nat) : Int)]) ∧ Sps w' (.slice A n c) R.1 ∧ Below w.heap.size w w'
theorem stepR_len {l : List UInt8} {b : Bool} {x : St × Nat} (h : stepR l b = some x) : 1 ≤ x.2 ∧ x.2 ≤ l.length := bgn_len (g := x.1) (n := x.2) (by rw [← step_eq]; exact h)
theorem refBegins_any (s : ByteArray) (i : Nat) (w : World) (hs : s.size ≤ 1000000) (hi : i ≤ s.size) :
  Calls Tryz.prog 98 #[.string s, .int .i64 i] w (BegE w s.data.toList i (bgsF (s.size + 1) [] s.data.toList i)) := by
 have HST := Lib.hid (fun (k : Nat) b W (hk : k ≤ s.size) => refStep_any s k b W hs hk)
 have HSL : Hid (∀ k b x, stepR (s.data.toList.drop k) b = some x → 1 ≤ x.2 ∧ x.2 ≤ s.size - k) := Lib.hid (fun k b x h => by
  have := stepR_len h
  rwa [List.length_drop, size_toList] at this)
 have HSI : Hid (∀ h : i < s.size, s.data.toList[i]? = some s[i]) := Lib.hid (fun h => by
  rw [List.getElem?_eq_getElem (by rw [size_toList]; exact h)]; rfl)
 have HSO : Hid (¬ i < s.size → s.data.toList[i]? = none) := Lib.hid (fun h => List.getElem?_eq_none (by rw [size_toList]; omega))
 generalize hR : bgsF (s.size + 1) [] s.data.toList i = R
 have HR := Lib.hid hR
 clear hR
 go_enter Tryz.func98, Tryz.ntmps98
 go_wp2_with fail
 go_loopw [1, 6] (fun fv pv wr => ∃ (k f : Nat) (acc : List St), k ≤ s.size ∧ s.size < k + f ∧ acc.length ≤ 20 ∧ fv = .int .i64 k ∧ (acc = [] → k = i) ∧ Own spc 3 49 w.heap.size wr pv acc ∧ Hid (bgsF f acc s.data.toList k = R) ∧ Hid (Below w.heap.size w wr)) (fun fv _ _ => s.size - (intOf fv).toNat)
 case atStart => exact ⟨i, s.size + 1, [], hi, by omega, by simp, rfl, fun _ => rfl, Own.lit spc_len w #[] [] (Nat.le_refl _) (Nat.zero_le _) rfl, HR, Lib.hid ((Below.refl _ _).alloc (Nat.le_refl _) _)⟩
 case round =>
  obtain ⟨k, f, acc, hk, hf, ha, rfl, hki, hown, HF, HB⟩ := hrel
  obtain ⟨f, rfl⟩ : ∃ g, f = g + 1 := ⟨f - 1, by omega⟩
  obtain ⟨A, c, rfl, -⟩ := hown.form
  have HO := Lib.hid hown
  clear hown
  by_cases h20 : acc.length < 20
  ·have HC := Lib.hid (HST.out k (acc.length == 0) wr hk)
   have hl0 : (((acc.length : Nat) : Int) == 0) = (acc.length == 0) := by rw [Bool.eq_iff_iff]; simp
   cases hst : stepR (s.data.toList.drop k) (acc.length == 0) with
   | none =>
    have HFR : Hid (R = (acc, k)) := Lib.hid (by rw [← HF.out, bgsF, if_pos h20, hst])
    rw [hst, ← hl0] at HC
    simp only [stpV] at HC
    clear hst hl0
    go_wp2_with fail
    refine HC.out.mono ?_
    rintro e w1 ⟨rfl, hb1⟩
    have HO1 := Lib.hid (HO.out.below hb1)
    have HB1 : Hid (Below w.heap.size w w1) := Lib.hid (HB.out.trans (hb1.mono HB.out.size))
    clear hb1
    by_cases hac : acc = []
    ·have hk2 := hki hac
     subst hk2
     have hl0 : acc.length = 0 := by rw [hac]; rfl
     by_cases hlt : k < s.size
     ·have hat := HSI.out hlt
      by_cases h46 : s[k].toNat = 46
      ·have hc46 : s[k] = 46 := by rw [← u8_of (c := s[k]) (n := 46) h46]; rfl
       have h46b : ((s[k].toNat : Int) == 46) = true := by simp; omega
       have HE : Hid ((if R.1 = [] ∧ s.data.toList[k]? = some 46 then k + 1 else R.2) = k + 1) := Lib.hid (by rw [HFR.out, if_pos ⟨hac, by rw [hat, hc46]⟩])
       clear hat hac
       generalize hz : acc.length = zl at *
       subst hl0
       go_wp2_with fail
       exact bodyPost_ret (v := .tuple #[.slice A 0 c, .int .i64 ((k + 1 : Nat) : Int)]) (by simp [results, Tryz.results98, go_sem]) rfl ⟨A, 0, c, by rw [HE.out], by rw [HFR.out, ← hz]; exact Own.row spc_len (by rw [hz]; exact HO1.out.alloc _), HB1.out.alloc HB1.out.size _⟩
      ·have hc46 : ¬ s[k] = 46 := fun e => h46 (by rw [e]; rfl)
       have h46b : ((s[k].toNat : Int) == 46) = false := by simp; omega
       have HE : Hid ((if R.1 = [] ∧ s.data.toList[k]? = some 46 then k + 1 else R.2) = k) := Lib.hid (by rw [HFR.out, if_neg (by rw [hat]; rintro ⟨-, h⟩; injection h with h; exact hc46 h)])
       clear hat hac
       generalize hz : acc.length = zl at *
       subst hl0
       go_wp2_with fail
       exact bodyPost_ret (v := .tuple #[.slice A 0 c, .int .i64 ((k : Nat) : Int)]) (by simp [results, Tryz.results98, go_sem]) rfl ⟨A, 0, c, by rw [HE.out], by rw [HFR.out, ← hz]; exact Own.row spc_len (by rw [hz]; exact HO1.out.alloc _), HB1.out.alloc HB1.out.size _⟩
     ·have HE : Hid ((if R.1 = [] ∧ s.data.toList[k]? = some 46 then k + 1 else R.2) = k) := Lib.hid (by rw [HFR.out, HSO.out hlt, if_neg (by rintro ⟨-, h⟩; cases h)])
      clear hac
      generalize hz : acc.length = zl at *
      subst hl0
      go_wp2_with fail
      exact bodyPost_ret (v := .tuple #[.slice A 0 c, .int .i64 ((k : Nat) : Int)]) (by simp [results, Tryz.results98, go_sem]) rfl ⟨A, 0, c, by rw [HE.out], by rw [HFR.out, ← hz]; exact Own.row spc_len (by rw [hz]; exact HO1.out.alloc _), HB1.out.alloc HB1.out.size _⟩
    ·have HE : Hid ((if R.1 = [] ∧ s.data.toList[i]? = some 46 then i + 1 else R.2) = k) := Lib.hid (by rw [HFR.out, if_neg (by rintro ⟨h, -⟩; exact hac h)])
     have hpos : 0 < acc.length := List.length_pos_iff.2 hac
     have hne0 : (((acc.length : Nat) : Int) == 0) = false := by simp; omega
     clear hac
     generalize hz : acc.length = zl at *
     go_wp2_with fail
     exact bodyPost_ret (v := .tuple #[.slice A zl c, .int .i64 ((k : Nat) : Int)]) (by simp [results, Tryz.results98, go_sem]) rfl ⟨A, zl, c, by rw [HE.out], by rw [HFR.out, ← hz]; exact Own.row spc_len (by rw [hz]; exact HO1.out.alloc _), HB1.out.alloc HB1.out.size _⟩
   | some x =>
    obtain ⟨g, n⟩ := x
    obtain ⟨hn1, hn2⟩ := HSL.out k _ _ hst
    simp only at hn1 hn2
    have HFR : Hid (bgsF f (acc ++ [g]) s.data.toList (k + n) = R) := Lib.hid (by rw [← HF.out, bgsF, if_pos h20, hst])
    rw [hst, ← hl0] at HC
    simp only [stpV] at HC
    clear hst hl0
    have hto : (((k + n : Nat) : Int) == (k : Int)) = false := by simp; omega
    have hto2 : ((k : Int) + (n : Int) == (k : Int)) = false := by simp; omega
    go_wp2_with fail
    refine HC.out.mono ?_
    rintro e w1 ⟨rfl, hb1⟩
    have HO1 := Lib.hid (HO.out.below hb1)
    have HB1 : Hid (Below w.heap.size w w1) := Lib.hid (HB.out.trans (hb1.mono HB.out.size))
    clear hb1
    have HAL : Hid (acc.length < 20) := Lib.hid h20
    go_wp2_with (at_builtin; refine wpList_append_row (base := w.heap.size) elStep rfl _ _ rfl rfl ((HO1.out.alloc _).alloc _) rfl (row_one spc_len (w1.alloc (stepO g)) (w1.heap.size + 1) (by simp) 49 #[.bool g.part, .string ⟨g.name.toArray⟩, .int .i64 g.n] g rfl) ?_ ?_ ?_ ?_)
    ·have := HAL.out; unfold maxLen; simp only [List.length_singleton]; omega
    ·have := HAL.out; simp only [List.length_singleton]; omega
    ·have := HB1.out.size; simp; omega
    ·intro A' c' w2 hown2 hg2 hwh
     clear hwh
     have HO2 : Hid (Own spc 3 49 w.heap.size w2 (.slice A' (acc.length + 1) c') (acc ++ [g])) := Lib.hid hown2
     have HB2 : Hid (Below w.heap.size w w2) := Lib.hid (((HB1.out.alloc HB1.out.size _).alloc (by have := HB1.out.size; simp; omega) _).trans (((HO1.out.alloc _).alloc _).kept hg2 (by have := HB1.out.size; simp; omega)))
     clear hown2 hg2
     have HAL2 : Hid ((acc ++ [g]).length ≤ 20) := Lib.hid (by have := HAL.out; simp; omega)
     generalize hz : acc.length + 1 = zl at HO2 ⊢
     go_wp2_with fail
     refine ⟨⟨k + n, f, acc ++ [g], by omega, by omega, HAL2.out, by first | rfl | rw [Int.natCast_add], fun h => by simp at h, HO2.out, HFR, HB2⟩, ?_⟩
     simp [intOf]; omega
  ·have HFR : Hid (R = (acc, k)) := Lib.hid (by rw [← HF.out, bgsF, if_neg h20])
   have hac : acc ≠ [] := by intro e; rw [e] at h20; simp at h20
   have HE : Hid ((if R.1 = [] ∧ s.data.toList[i]? = some 46 then i + 1 else R.2) = k) := Lib.hid (by rw [HFR.out, if_neg (by rintro ⟨h, -⟩; exact hac h)])
   have hne0 : (((acc.length : Nat) : Int) == 0) = false := by simp; omega
   clear hac
   generalize hz : acc.length = zl at *
   go_wp2_with fail
   exact bodyPost_ret (v := .tuple #[.slice A zl c, .int .i64 ((k : Nat) : Int)]) (by simp [results, Tryz.results98, go_sem]) rfl ⟨A, zl, c, by rw [HE.out], by rw [HFR.out, ← hz]; exact Own.row spc_len (by rw [hz]; exact HO.out), HB.out⟩
theorem refReadP_any (s : ByteArray) (w : World) (hs : s.size ≤ 1000000) :
  Calls Tryz.prog 55 #[.string s] w (ReadE w (readP s.data.toList)) := by
 have HBG := Lib.hid (refBegins_any s 0 w hs (Nat.zero_le _))
 by_cases hd : s.data.toList = [46]
 ·have hz : s.size = 1 := by rw [← size_toList, hd]; rfl
  have HR : Hid (readP s.data.toList = ([], 0, 0)) := Lib.hid (by unfold readP; rw [if_pos hd])
  have hq : (s.toList == [46]) = true := by rw [ByteArray.toList_eq, hd]; rfl
  have HBN : Hid (bgsF (s.size + 1) [] s.data.toList 0 = ([], 0)) := Lib.hid (by
   rw [hd, bgsF, if_pos (by decide)]
   have : stepR (([46] : List UInt8).drop 0) (([] : List St).length == 0) = none := by rfl
   rw [this])
  rw [HBN.out] at HBG
  generalize readP s.data.toList = R at *
  go_enter Tryz.func55, Tryz.ntmps55
  go_wp2_with fail
  refine HBG.out.mono ?_
  rintro e w1 ⟨A, n, c, rfl, hl, hb⟩
  go_wp2_with fail
  exact bodyPost_ret (v := .tuple #[.slice A n c, .int .i64 0, .int .i64 0]) (by simp [results, Tryz.results55, go_sem]) rfl ⟨A, n, c, by rw [HR.out]; rfl, by rw [HR.out]; exact hl, hb⟩
 ·have HR : Hid (readP s.data.toList = endR s.data.toList (bgsF (s.size + 1) [] s.data.toList 0)) := Lib.hid (by rw [readR_eq _ hd, size_toList])
  have hq : (s.toList == [46]) = false := by
   rw [ByteArray.toList_eq, beq_eq_false_iff_ne]
   exact hd
  generalize readP s.data.toList = R at *
  generalize hB : bgsF (s.size + 1) [] s.data.toList 0 = B at *
  obtain ⟨p, at0⟩ := B
  clear hB hd
  go_enter Tryz.func55, Tryz.ntmps55
  go_wp2_with fail
  refine HBG.out.mono ?_
  rintro e w1 ⟨A, n, c, rfl, hl, hb⟩
  have hn : n = p.length := by
   obtain ⟨B, d, hv, -⟩ := hl
   injection hv
  have HL := Lib.hid hl
  have HB := Lib.hid hb
  clear hl hb
  by_cases hp : p = []
  ·have hn0 : n = 0 := by rw [hn, hp]; rfl
   have HE : Hid (R = ([], 0, 1)) := Lib.hid (by rw [HR.out]; unfold endR; rw [if_pos hp])
   generalize (if p = [] ∧ s.data.toList[0]? = some 46 then 0 + 1 else at0) = pl
   clear HR hn hp
   subst hn0
   go_wp2_with fail
   exact bodyPost_ret (v := .tuple #[.slice none 0 0, .int .i64 0, .int .i64 1]) (by simp [results, Tryz.results55, go_sem]) rfl ⟨none, 0, 0, by rw [HE.out]; rfl, by rw [HE.out]; exact Row.nil _, HB.out⟩
  ·have hpos : 0 < n := by rw [hn]; exact List.length_pos_iff.2 hp
   have hn0 : ((n : Int) == 0) = false := by simp; omega
   rw [show (if p = [] ∧ s.data.toList[0]? = some 46 then 0 + 1 else at0) = at0 from if_neg (fun h => hp h.1)]
   by_cases hlt : at0 < s.size
   ·have HE : Hid (R = ([], at0, 1)) := Lib.hid (by rw [HR.out]; unfold endR; rw [if_neg hp, if_pos (by rw [size_toList]; exact hlt)])
    clear HR hp hn
    go_wp2_with fail
    exact bodyPost_ret (v := .tuple #[.slice none 0 0, .int .i64 (at0 : Int), .int .i64 1]) (by simp [results, Tryz.results55, go_sem]) rfl ⟨none, 0, 0, by rw [HE.out], by rw [HE.out]; exact Row.nil _, HB.out⟩
   ·have HE : Hid (R = (p, 0, 0)) := Lib.hid (by rw [HR.out]; unfold endR; rw [if_neg hp, if_neg (by rw [size_toList]; exact hlt)])
    clear HR hp hn
    go_wp2_with fail
    exact bodyPost_ret (v := .tuple #[.slice A n c, .int .i64 0, .int .i64 0]) (by simp [results, Tryz.results55, go_sem]) rfl ⟨A, n, c, by rw [HE.out]; rfl, by rw [HE.out]; exact HL.out, HB.out⟩
end
section
open Go.RowKit Np Rw Vp Up Qp Pw Fw
def PlE (w : World) (t : Tm) (e : Ending) (w' : World) : Prop := e = .returned (.bool (plainT t)) ∧ Below w.heap.size w w'
theorem plainT_s {t : Tm} (h : ¬ (t.op = 1 ∨ t.op = 12 ∨ t.op = 13 ∨ t.op = 15 ∨ t.op = 16)) (hs : t.s ≠ []) : plainT t = false := by
 have : sOk t.op t.s = false := by
  unfold sOk
  rw [if_neg (fun e => h (.inl e)), if_neg (fun e => h (.inr e))]
  simp [hs]
 simp [plainT, this]
theorem plainT_n {t : Tm} (h : ¬ (t.op = 2 ∨ t.op = 3 ∨ t.op = 16)) (hs : t.n ≠ 0) : plainT t = false := by
 have : nOk t.op t.n = false := by
  unfold nOk
  rw [if_neg (fun e => h (e.elim .inl (fun e => .inr (.inl e)))), if_neg (fun e => h (.inr (.inr e)))]
  simp [hs]
 simp [plainT, this]
theorem plainT_c {t : Tm} (h : t.op ≠ 16) (hs : t.c ≠ zeroC) : plainT t = false := by
 have : cOk t.op t.c = false := by
  unfold cOk
  rw [if_neg h]
  simp [hs]
 simp [plainT, this]
def bareR (t : Tm) : Tm := ⟨t.op, t.many, t.name, if t.op = 1 ∨ t.op = 12 ∨ t.op = 13 ∨ t.op = 15 ∨ t.op = 16 then t.s else [], if t.op = 2 ∨ t.op = 3 ∨ t.op = 16 then t.n else 0, if t.op = 16 then t.c else zeroC⟩
theorem plainT_bareR {t : Tm} (h : t ≠ bareR t) : plainT t = false := by
 by_cases h1 : t.op = 1 ∨ t.op = 12 ∨ t.op = 13 ∨ t.op = 15 ∨ t.op = 16 ∨ t.s = []
 ·by_cases h2 : t.op = 2 ∨ t.op = 3 ∨ t.op = 16 ∨ t.n = 0
  ·by_cases h3 : t.op = 16 ∨ t.c = zeroC
   ·refine absurd ?_ h
    obtain ⟨op, many, name, s, n, c⟩ := t
    simp only [bareR] at *
    congr 1
    ·split
     ·rfl
     ·rename_i hh
      rcases h1 with e | e | e | e | e | e
      ·exact absurd (.inl e) hh
      ·exact absurd (.inr (.inl e)) hh
      ·exact absurd (.inr (.inr (.inl e))) hh
      ·exact absurd (.inr (.inr (.inr (.inl e)))) hh
      ·exact absurd (.inr (.inr (.inr (.inr e)))) hh
      ·exact e
    ·split
     ·rfl
     ·rename_i hh
      rcases h2 with e | e | e | e
      ·exact absurd (.inl e) hh
      ·exact absurd (.inr (.inl e)) hh
      ·exact absurd (.inr (.inr e)) hh
      ·exact e
    ·split
     ·rfl
     ·rename_i hh
      exact h3.resolve_left hh
   ·exact plainT_c (fun e => h3 (.inl e)) (fun e => h3 (.inr e))
  ·exact plainT_n (fun e => h2 (by rcases e with e | e | e <;> simp [e])) (fun e => h2 (by simp [e]))
 ·exact plainT_s (fun e => h1 (by rcases e with e | e | e | e | e <;> simp [e])) (fun e => h1 (by simp [e]))
theorem cont_lt {k : Int} (h : k < 5) : cont k = false := by
 have h5 : k ≠ 5 := by omega
 have h6 : k ≠ 6 := by omega
 simp [cont, h5, h6]
theorem kind_lt {c : Nd} (h : rightL [c] = true) (hc : cont c.kind = false) : c.kind < 5 := by
 obtain ⟨t, ht, he⟩ := val_of_rightL h
 have hp : plainN c = true := by
  have h1 := ht.rt
  rw [rightT_eq, Bool.and_eq_true] at h1
  rw [flat_eq] at he
  injection he with e1 e2
  rw [e1]; exact h1.1
 have h5 : c.kind ≠ 5 := by intro e; simp [cont, e] at hc
 have h6 : c.kind ≠ 6 := by intro e; simp [cont, e] at hc
 unfold plainN at hp
 by_cases h0 : c.kind = 0 ∨ c.kind = 1 ∨ c.kind = 2
 ·omega
 ·rw [if_neg h0] at hp
  by_cases h3 : c.kind = 3
  ·omega
  ·rw [if_neg h3] at hp
   by_cases h4 : c.kind = 4
   ·omega
   ·rw [if_neg h4, if_neg (by omega)] at hp
    cases hp
theorem plain16_kind {t : Tm} (h : t.op = 16) (hp : plainT t = true) : t.c.kind < 5 := by
 unfold plainT at hp
 simp only [Bool.and_eq_true] at hp
 have := hp.2
 unfold cOk at this
 rw [if_pos h] at this
 unfold flatN at this
 rw [Bool.and_eq_true] at this
 exact kind_lt this.1 (by simpa using this.2)
theorem refIsPathT_any (s : List UInt8) (w : World) (hs : s.length ≤ 1000000) :
  Calls Tryz.prog 146 #[.string ⟨s.toArray⟩] w fun e w' => e = .returned (.bool (isPth s)) ∧ Below w.heap.size w w' := by
 have HR := Lib.hid (refReadP_any ⟨s.toArray⟩ w (by rw [mk_size]; exact hs))
 have HI : Hid (isPth s = ((readP s).2.2 == 0)) := Lib.hid (by unfold isPth; rfl)
 go_enter Tryz.func146, Tryz.ntmps146
 go_wp2_with (go_at_call 55; refine HR.out.mono ?_; rintro e w1 ⟨A, n, c, rfl, -, hb1⟩)
 go_ret
 exact ⟨ret_bool HI.out.symm, hb1⟩
end
section
open Go.RowKit Np Rw Vp Up Qp Pw Fw
theorem refPlain_B (op many n : Int) (name s : List UInt8) (c : Nd) (w : World) (hop : op = 1) (hs : s.length ≤ maxLen) :
  Calls Tryz.prog 105 #[tma ⟨op, many, name, s, n, c⟩] w (PlE w ⟨op, many, name, s, n, c⟩) := by
 have HX0 : Hid ((⟨op, many, name, s, n, c⟩ : Tm) ≠ (⟨op, many, name, s, 0, zeroC⟩ : Tm) → plainT ⟨op, many, name, s, n, c⟩ = false) := Lib.hid (fun h => plainT_bareR (by
  rcases hop with rfl <;> simpa [bareR] using h))
 have HX1 : Hid (¬ (many = 0) → plainT ⟨op, many, name, s, n, c⟩ = false) := Lib.hid (fun h => by
  rcases hop with rfl <;> simp [plainT, manyOk, sOk, nOk, cOk, h])
 have HX2 : Hid (¬ (vld s = true) → plainT ⟨op, many, name, s, n, c⟩ = false) := Lib.hid (fun h => by
  rcases hop with rfl <;> simp [plainT, manyOk, sOk, nOk, cOk, h])
 have HXT : Hid ((⟨op, many, name, s, n, c⟩ : Tm) = (⟨op, many, name, s, 0, zeroC⟩ : Tm) → many = 0 → vld s = true → plainT ⟨op, many, name, s, n, c⟩ = true) := Lib.hid (fun h h1 h2 => by
  rw [h]; rcases hop with rfl <;> simp [plainT, manyOk, sOk, nOk, cOk, h1, h2])
 have hq : ∀ W, (binOp .eql 32 (.agg #[.int .i64 op, .int .i64 many, .string ⟨name.toArray⟩, .string ⟨s.toArray⟩, .int .i64 n, .int .i64 c.kind, .int .i64 c.many, .string ⟨c.name.toArray⟩, .string ⟨c.s.toArray⟩, .bool c.neg, .int .i64 c.e]) (.agg #[.int .i64 op, .int .i64 many, .string ⟨name.toArray⟩, .string ⟨s.toArray⟩, .int .i64 0, .int .i64 0, .int .i64 0, .string ⟨#[]⟩, .string ⟨#[]⟩, .bool false, .int .i64 0])).run Tryz.prog W = .ok (.bool (decide ((⟨op, many, name, s, n, c⟩ : Tm) = (⟨op, many, name, s, 0, zeroC⟩ : Tm)))) W := fun W => eql_tm ⟨op, many, name, s, n, c⟩ ⟨op, many, name, s, 0, zeroC⟩ W
 unfold PlE
 generalize plainT ⟨op, many, name, s, n, c⟩ = R at *
 have HSZ : Hid ((ByteArray.mk s.toArray).size ≤ maxLen) := Lib.hid (by rw [mk_size]; exact hs)
 clear hs
 by_cases hd : (⟨op, many, name, s, n, c⟩ : Tm) = (⟨op, many, name, s, 0, zeroC⟩ : Tm)
 ·rw [decide_eq_true hd] at hq
  by_cases h1 : many = 0
  ·skip
   by_cases h2 : vld s = true
   ·skip
    have HU := Lib.hid h2
    have HR := Lib.hid (HXT.out hd h1 h2)
    clear hd h2 HX0 HX1 HX2 HXT
    subst h1
    rcases hop with rfl
    all_goals go_enter Tryz.func105, Tryz.ntmps105
    all_goals go_wp2_with (first | (go_at_call 18; refine (refUtf_any _ _ HSZ.out).mono ?_; rintro e w5 ⟨rfl, rfl⟩; rw [show Lib.validD (ByteArray.mk s.toArray).data.toList = true from HU.out]))
    all_goals go_ret
    all_goals exact ⟨ret_bool HR.out.symm, by (first | exact HB5.out.trans (HB6.out.mono HB5.out.size) | exact HB5.out | exact (((Below.refl _ _).alloc (Nat.le_refl _) _).alloc (by simp) _) | exact ((((Below.refl _ _).alloc (Nat.le_refl _) _).alloc (by simp) _).setCell (by simp) _) | exact (((((Below.refl _ _).alloc (Nat.le_refl _) _).alloc (by simp) _).setCell (by simp) _).setCell (by simp) _))⟩
   ·have HR := Lib.hid (HX2.out h2)
    have HU := Lib.hid (eq_false_of_ne_true h2)
    clear hd h2 HX0 HX1 HX2 HXT
    subst h1
    rcases hop with rfl
    all_goals go_enter Tryz.func105, Tryz.ntmps105
    all_goals go_wp2_with (first | (go_at_call 18; refine (refUtf_any _ _ HSZ.out).mono ?_; rintro e w5 ⟨rfl, rfl⟩; rw [show Lib.validD (ByteArray.mk s.toArray).data.toList = false from HU.out]))
    all_goals go_ret
    all_goals exact ⟨ret_bool HR.out.symm, by (first | exact HB5.out.trans (HB6.out.mono HB5.out.size) | exact HB5.out | exact (((Below.refl _ _).alloc (Nat.le_refl _) _).alloc (by simp) _) | exact ((((Below.refl _ _).alloc (Nat.le_refl _) _).alloc (by simp) _).setCell (by simp) _) | exact (((((Below.refl _ _).alloc (Nat.le_refl _) _).alloc (by simp) _).setCell (by simp) _).setCell (by simp) _))⟩
  ·have HR := Lib.hid (HX1.out h1)
   have e1 : (many == 0) = false := by simpa using h1
   clear hd h1 HX0 HX1 HX2 HXT
   rcases hop with rfl
   all_goals go_enter Tryz.func105, Tryz.ntmps105
   all_goals go_wp2_with fail
   all_goals go_ret
   all_goals exact ⟨ret_bool HR.out.symm, by (first | exact HB5.out.trans (HB6.out.mono HB5.out.size) | exact HB5.out | exact (((Below.refl _ _).alloc (Nat.le_refl _) _).alloc (by simp) _) | exact ((((Below.refl _ _).alloc (Nat.le_refl _) _).alloc (by simp) _).setCell (by simp) _) | exact (((((Below.refl _ _).alloc (Nat.le_refl _) _).alloc (by simp) _).setCell (by simp) _).setCell (by simp) _))⟩
 ·rw [decide_eq_false hd] at hq
  have HR := Lib.hid (HX0.out hd)
  clear hd HX0 HX1 HX2 HXT
  rcases hop with rfl
  all_goals go_enter Tryz.func105, Tryz.ntmps105
  all_goals go_wp2_with fail
  all_goals go_ret
  all_goals exact ⟨ret_bool HR.out.symm, by (first | exact HB5.out.trans (HB6.out.mono HB5.out.size) | exact HB5.out | exact (((Below.refl _ _).alloc (Nat.le_refl _) _).alloc (by simp) _) | exact ((((Below.refl _ _).alloc (Nat.le_refl _) _).alloc (by simp) _).setCell (by simp) _) | exact (((((Below.refl _ _).alloc (Nat.le_refl _) _).alloc (by simp) _).setCell (by simp) _).setCell (by simp) _))⟩
theorem refPlain_C (op many n : Int) (name s : List UInt8) (c : Nd) (w : World) (hop : op = 2 ∨ op = 3) :
  Calls Tryz.prog 105 #[tma ⟨op, many, name, s, n, c⟩] w (PlE w ⟨op, many, name, s, n, c⟩) := by
 have HX0 : Hid ((⟨op, many, name, s, n, c⟩ : Tm) ≠ (⟨op, many, name, [], n, zeroC⟩ : Tm) → plainT ⟨op, many, name, s, n, c⟩ = false) := Lib.hid (fun h => plainT_bareR (by
  rcases hop with rfl | rfl <;> simpa [bareR] using h))
 have HX1 : Hid (¬ (many = 0) → plainT ⟨op, many, name, s, n, c⟩ = false) := Lib.hid (fun h => by
  rcases hop with rfl | rfl <;> simp [plainT, manyOk, sOk, nOk, cOk, h])
 have HX2 : Hid (¬ (0 ≤ n) → plainT ⟨op, many, name, s, n, c⟩ = false) := Lib.hid (fun h => by
  rcases hop with rfl | rfl <;> simp [plainT, manyOk, sOk, nOk, cOk, h])
 have HX3 : Hid (¬ (n ≤ 1000000) → plainT ⟨op, many, name, s, n, c⟩ = false) := Lib.hid (fun h => by
  rcases hop with rfl | rfl <;> simp [plainT, manyOk, sOk, nOk, cOk, h])
 have HXT : Hid ((⟨op, many, name, s, n, c⟩ : Tm) = (⟨op, many, name, [], n, zeroC⟩ : Tm) → many = 0 → 0 ≤ n → n ≤ 1000000 → plainT ⟨op, many, name, s, n, c⟩ = true) := Lib.hid (fun h h1 h2 h3 => by
  rw [h]; rcases hop with rfl | rfl <;> simp [plainT, manyOk, sOk, nOk, cOk, h1, h2, h3])
 have hq : ∀ W, (binOp .eql 32 (.agg #[.int .i64 op, .int .i64 many, .string ⟨name.toArray⟩, .string ⟨s.toArray⟩, .int .i64 n, .int .i64 c.kind, .int .i64 c.many, .string ⟨c.name.toArray⟩, .string ⟨c.s.toArray⟩, .bool c.neg, .int .i64 c.e]) (.agg #[.int .i64 op, .int .i64 many, .string ⟨name.toArray⟩, .string ⟨#[]⟩, .int .i64 n, .int .i64 0, .int .i64 0, .string ⟨#[]⟩, .string ⟨#[]⟩, .bool false, .int .i64 0])).run Tryz.prog W = .ok (.bool (decide ((⟨op, many, name, s, n, c⟩ : Tm) = (⟨op, many, name, [], n, zeroC⟩ : Tm)))) W := fun W => eql_tm ⟨op, many, name, s, n, c⟩ ⟨op, many, name, [], n, zeroC⟩ W
 unfold PlE
 generalize plainT ⟨op, many, name, s, n, c⟩ = R at *
 by_cases hd : (⟨op, many, name, s, n, c⟩ : Tm) = (⟨op, many, name, [], n, zeroC⟩ : Tm)
 ·rw [decide_eq_true hd] at hq
  by_cases h1 : many = 0
  ·skip
   by_cases h2 : 0 ≤ n
   ·skip
    by_cases h3 : n ≤ 1000000
    ·skip
     have HR := Lib.hid (HXT.out hd h1 h2 h3)
     clear hd HX0 HX1 HX2 HX3 HXT
     subst h1
     rcases hop with rfl | rfl
     all_goals go_enter Tryz.func105, Tryz.ntmps105
     all_goals go_wp2_with fail
     all_goals go_ret
     all_goals exact ⟨ret_bool HR.out.symm, by (first | exact HB5.out.trans (HB6.out.mono HB5.out.size) | exact HB5.out | exact (((Below.refl _ _).alloc (Nat.le_refl _) _).alloc (by simp) _) | exact ((((Below.refl _ _).alloc (Nat.le_refl _) _).alloc (by simp) _).setCell (by simp) _) | exact (((((Below.refl _ _).alloc (Nat.le_refl _) _).alloc (by simp) _).setCell (by simp) _).setCell (by simp) _))⟩
    ·have HR := Lib.hid (HX3.out h3)
     clear hd HX0 HX1 HX2 HX3 HXT
     subst h1
     rcases hop with rfl | rfl
     all_goals go_enter Tryz.func105, Tryz.ntmps105
     all_goals go_wp2_with fail
     all_goals go_ret
     all_goals exact ⟨ret_bool HR.out.symm, by (first | exact HB5.out.trans (HB6.out.mono HB5.out.size) | exact HB5.out | exact (((Below.refl _ _).alloc (Nat.le_refl _) _).alloc (by simp) _) | exact ((((Below.refl _ _).alloc (Nat.le_refl _) _).alloc (by simp) _).setCell (by simp) _) | exact (((((Below.refl _ _).alloc (Nat.le_refl _) _).alloc (by simp) _).setCell (by simp) _).setCell (by simp) _))⟩
   ·have HR := Lib.hid (HX2.out h2)
    clear hd HX0 HX1 HX2 HX3 HXT
    subst h1
    rcases hop with rfl | rfl
    all_goals go_enter Tryz.func105, Tryz.ntmps105
    all_goals go_wp2_with fail
    all_goals go_ret
    all_goals exact ⟨ret_bool HR.out.symm, by (first | exact HB5.out.trans (HB6.out.mono HB5.out.size) | exact HB5.out | exact (((Below.refl _ _).alloc (Nat.le_refl _) _).alloc (by simp) _) | exact ((((Below.refl _ _).alloc (Nat.le_refl _) _).alloc (by simp) _).setCell (by simp) _) | exact (((((Below.refl _ _).alloc (Nat.le_refl _) _).alloc (by simp) _).setCell (by simp) _).setCell (by simp) _))⟩
  ·have HR := Lib.hid (HX1.out h1)
   have e1 : (many == 0) = false := by simpa using h1
   clear hd h1 HX0 HX1 HX2 HX3 HXT
   rcases hop with rfl | rfl
   all_goals go_enter Tryz.func105, Tryz.ntmps105
   all_goals go_wp2_with fail
   all_goals go_ret
   all_goals exact ⟨ret_bool HR.out.symm, by (first | exact HB5.out.trans (HB6.out.mono HB5.out.size) | exact HB5.out | exact (((Below.refl _ _).alloc (Nat.le_refl _) _).alloc (by simp) _) | exact ((((Below.refl _ _).alloc (Nat.le_refl _) _).alloc (by simp) _).setCell (by simp) _) | exact (((((Below.refl _ _).alloc (Nat.le_refl _) _).alloc (by simp) _).setCell (by simp) _).setCell (by simp) _))⟩
 ·rw [decide_eq_false hd] at hq
  have HR := Lib.hid (HX0.out hd)
  clear hd HX0 HX1 HX2 HX3 HXT
  rcases hop with rfl | rfl
  all_goals go_enter Tryz.func105, Tryz.ntmps105
  all_goals go_wp2_with fail
  all_goals go_ret
  all_goals exact ⟨ret_bool HR.out.symm, by (first | exact HB5.out.trans (HB6.out.mono HB5.out.size) | exact HB5.out | exact (((Below.refl _ _).alloc (Nat.le_refl _) _).alloc (by simp) _) | exact ((((Below.refl _ _).alloc (Nat.le_refl _) _).alloc (by simp) _).setCell (by simp) _) | exact (((((Below.refl _ _).alloc (Nat.le_refl _) _).alloc (by simp) _).setCell (by simp) _).setCell (by simp) _))⟩
end
end Go.Proofs.YtldioobbfkaebaaGreatDoor
