/-
  Joined: PT5d, PT5e, PT5, PT6.
-/
import Derived.Test.YtdgcdemihalefaaGreatDoorTermTellsJ10
import Derived.Test.YtdgcdemihalefaaGreatDoorTermTellsJ2
import Derived.Deep.RegionHeld3
import Derived.Deep.RegionLaw
import Derived.Test.YtdgcdemihalefaaGreatDoorTermTellsJ7
import Derived.Test.YtdgcdemihalefaaGreatDoorTermTellsJ1
import Derived.Test.YtdgcdemihalefaaGreatDoorTermTellsJ5
namespace Go.Proofs.YtdgcdemihalefaaGreatDoor
open Go.RowKit Np Rw Vp Up Qp Pw
set_option maxRecDepth 100000 in
set_option maxHeartbeats 8000000 in
theorem refStep_qGood (s : ByteArray) (i : Nat) (first : Bool) (w : World) (hs : s.size ≤ 1000000) (hlt3 : i + 1 < s.size) (h46 : s[i]'(by omega) = 46) (h34 : s[i + 1] = 34) (nm : List UInt8) (n : Nat) (ee : Int) (hu : unqs (s.data.toList.drop (i + 1)) = (nm, n, ee)) (hee : ee = 0) (hW : isW nm = false) (hq : quo nm = (s.data.toList.drop (i + 1)).take n) :
    Calls Tryz.prog 208 #[.string s, .int .i64 i, .bool first] w fun e w' => e = .returned (stpV i (some (⟨false, nm, 0⟩, n + 1))) ∧ Below w.heap.size w w' := by
  have hb0 : Below w.heap.size w (w.alloc (.cells #[.bool false, .string ⟨#[]⟩, .int .i64 0] 71)) := (Below.refl _ _).alloc (Nat.le_refl _) _
  have HB0 := Lib.hid hb0
  clear hb0
  have hlt : i < s.size := by omega
  have h46b : ((s[i].toNat : Int) == 46) = true := by rw [h46]; rfl
  have h91b : ((s[i + 1].toNat : Int) == 91) = false := by rw [h34]; rfl
  have h91c : ((s[i + 1].toNat : Int) != 91) = true := by rw [h34]; rfl
  have HEX : Hid (∀ m, (s.extract (i + 1) (i + 1 + m)).data.toList = (s.data.toList.drop (i + 1)).take m) := Lib.hid (fun m => by
    have h := Lib.extract_toList s (i + 1) (i + 1 + m)
    rw [ByteArray.toList_eq, Nat.add_sub_cancel_left] at h
    exact h)
  have HRL : Hid ((s.data.toList.drop (i + 1)).length = s.size - (i + 1)) := Lib.hid (by rw [List.length_drop, size_toList])
  have hr2 : s.data.toList.drop (i + 1) = 34 :: s.data.toList.drop (i + 1 + 1) := by
    rw [List.drop_eq_getElem_cons (by rw [size_toList]; exact hlt3)]
    have : s.data.toList[i + 1]'(by rw [size_toList]; exact hlt3) = 34 := h34
    rw [this]
  have HWJ : Hid (∀ W, Calls Tryz.prog 66 #[.string (s.extract (i + 1) (i + 1 + 1))] W fun e w' => e = .returned (.bool false) ∧ w' = W) := Lib.hid (fun W => by
    have h := refWordP_any (s.extract (i + 1) (i + 1 + 1)) W (by rw [ByteArray.size_extract]; unfold maxLen; omega)
    rw [HEX.out 1, hr2] at h
    exact h)
  have HUQ : Hid (∀ W, Calls Tryz.prog 237 #[.string (s.extract (i + 1) s.size)] W fun e w' => e = .returned (.tuple #[.string ⟨nm.toArray⟩, .int .i64 (n : Int), .int .i64 ee]) ∧ Below W.heap.size W w') := Lib.hid (fun W => by
    have h := refUnquote_any (s.extract (i + 1) s.size) W (by rw [ByteArray.size_extract]; omega)
    have e : (s.extract (i + 1) s.size).data.toList = s.data.toList.drop (i + 1) := by
      have := HEX.out (s.size - (i + 1))
      rw [show i + 1 + (s.size - (i + 1)) = s.size by omega] at this
      rw [this, List.take_of_length_le (by rw [HRL.out]; omega)]
    rw [e, hu] at h
    exact h)
  have hgood := unqs_good (s.data.toList.drop (i + 1))
  have hnl := unqs_len (s.data.toList.drop (i + 1))
  rw [hu] at hgood hnl
  simp only at hgood hnl
  have hRL := HRL.out
  have HWM : Hid (∀ W, Calls Tryz.prog 66 #[.string ⟨nm.toArray⟩] W fun e w' => e = .returned (.bool false) ∧ Below W.heap.size W w') := Lib.hid (fun W => by
    have h := refWordP_any ⟨nm.toArray⟩ W (by rw [mk_size]; have := hnl hee; unfold maxLen; omega)
    rw [mk_data, hW] at h
    exact h.mono fun e w' ⟨h1, h2⟩ => ⟨h1, by rw [h2]; exact Below.refl _ _⟩)
  have HQN : Hid (∀ W, Calls Tryz.prog 67 #[.string ⟨nm.toArray⟩] W fun e w' => e = .returned (.string ⟨(quo nm).toArray⟩) ∧ Below W.heap.size W w') := Lib.hid (fun W => by
    have h := refQuote_any ⟨nm.toArray⟩ W (by rw [mk_size]; have := hnl hee; omega)
    rw [mk_data] at h
    exact h)
  have hn2 : i + 1 + n ≤ s.size := by have := (hgood hee).2.1; omega
  have hwq : IntKind.i64.wrap ((i : Int) + 1 + (n : Int)) = (i : Int) + 1 + (n : Int) := IntWalk.i64_in _ ⟨by omega, by omega⟩
  have hq0 : 0 ≤ (i : Int) + 1 := by omega
  have hq1 : (i : Int) + 1 ≤ (i : Int) + 1 + (n : Int) := by omega
  have hq2 : (i : Int) + 1 + (n : Int) ≤ (s.size : Int) := by omega
  have hq3 : ((i : Int) + 1 + (n : Int)).toNat = i + 1 + n := by omega
  have hq4 : ((i : Int) + 1).toNat = i + 1 := by omega
  have hEQ : (quo nm == (s.extract (i + 1) (i + 1 + n)).toList) = true := by
    rw [ByteArray.toList_eq, HEX.out n, hq]
    simp
  clear hq
  subst hee
  clear h46 h34 hr2 HRL hRL hgood hnl hu HEX
  go_enter Tryz.func208, Tryz.ntmps208
  go_wp2_with fail
  go_loopw [9] (fun kv wr => kv = .int .i64 ((i + 1 : Nat) : Int) ∧ wr = w.alloc stepZ) (fun kv _ => s.size - (intOf kv).toNat)
  case atStart => exact ⟨by simp, rfl⟩
  case round =>
    obtain ⟨rfl, rfl⟩ := hrel
    go_wp2_with fail
    refine (HWJ.out _).mono ?_
    rintro e wf ⟨rfl, rfl⟩
    go_wp2_with fail
    refine (HUQ.out _).mono ?_
    rintro e w1 ⟨rfl, hb1⟩
    have HB1 : Hid (Below w.heap.size w w1) := Lib.hid (HB0.out.trans (hb1.mono HB0.out.size))
    obtain ⟨hz4, k0, k1, k2, hfz, hfz2⟩ := new_step (W := w.alloc stepZ) (b := w.heap.size) (heap_alloc_new w stepZ) hb1
    clear hb1
    have HQS : Hid (Qs w w1) := Lib.hid ⟨hfz2, HB1.out⟩
    clear hfz2 hz4 k0 k1 k2 hfz
    go_upto_region 10 with fail
    go_region_held3 (fun w' => w'.heap[w.heap.size]? = some stepZ ∧ Below w.heap.size w w') (first | exact Qs.step (by assumption : Qs w _) hb3 | exact Qs.step HQS.out (Below.refl _ _).drew | go_keep)
      (first
        | (go_at_call 66; refine (HWM.out _).mono ?_; rintro e w3 ⟨rfl, hb3⟩)
        | (go_at_call 67; refine (HQN.out _).mono ?_; rintro e w3 ⟨rfl, hb3⟩))
    obtain ⟨k0, k1, k2, hfz, hz4⟩ := Qs.cells (by assumption : Qs w _)
    have HB9 := Lib.hid (by assumption : Qs w _).2
    go_wp2_with fail
    exact bodyPost_ret (v := .tuple #[sta ⟨false, nm, 0⟩, .int .i64 ((i : Int) + 1 + (n : Int))]) (by simp [results, Tryz.results208, go_sem, k0, k1, k2]) rfl ⟨by show _ = Ending.returned (.tuple #[sta ⟨false, nm, 0⟩, .int .i64 ((i + (n + 1) : Nat) : Int)]); rw [show ((i + (n + 1) : Nat) : Int) = (i : Int) + 1 + (n : Int) by omega], ((HB9.out.setCell (Nat.le_refl _) _).setCell (Nat.le_refl _) _).setCell (Nat.le_refl _) _⟩
end Go.Proofs.YtdgcdemihalefaaGreatDoor
namespace Go.Proofs.YtdgcdemihalefaaGreatDoor
open Go.RowKit Np Rw Vp Up Qp Pw
set_option maxRecDepth 100000 in
set_option maxHeartbeats 8000000 in
theorem refStep_qNone (s : ByteArray) (i : Nat) (first : Bool) (w : World) (hs : s.size ≤ 1000000) (hlt3 : i + 1 < s.size) (h46 : s[i]'(by omega) = 46) (h34 : s[i + 1] = 34) (nm : List UInt8) (n : Nat) (ee : Int) (hu : unqs (s.data.toList.drop (i + 1)) = (nm, n, ee)) (hee : ee = 0) (hW : isW nm = false) (hq : ¬ quo nm = (s.data.toList.drop (i + 1)).take n) :
    Calls Tryz.prog 208 #[.string s, .int .i64 i, .bool first] w fun e w' => e = .returned (stpV i (none)) ∧ Below w.heap.size w w' := by
  have hb0 : Below w.heap.size w (w.alloc (.cells #[.bool false, .string ⟨#[]⟩, .int .i64 0] 71)) := (Below.refl _ _).alloc (Nat.le_refl _) _
  have HB0 := Lib.hid hb0
  clear hb0
  have hlt : i < s.size := by omega
  have h46b : ((s[i].toNat : Int) == 46) = true := by rw [h46]; rfl
  have h91b : ((s[i + 1].toNat : Int) == 91) = false := by rw [h34]; rfl
  have h91c : ((s[i + 1].toNat : Int) != 91) = true := by rw [h34]; rfl
  have HEX : Hid (∀ m, (s.extract (i + 1) (i + 1 + m)).data.toList = (s.data.toList.drop (i + 1)).take m) := Lib.hid (fun m => by
    have h := Lib.extract_toList s (i + 1) (i + 1 + m)
    rw [ByteArray.toList_eq, Nat.add_sub_cancel_left] at h
    exact h)
  have HRL : Hid ((s.data.toList.drop (i + 1)).length = s.size - (i + 1)) := Lib.hid (by rw [List.length_drop, size_toList])
  have hr2 : s.data.toList.drop (i + 1) = 34 :: s.data.toList.drop (i + 1 + 1) := by
    rw [List.drop_eq_getElem_cons (by rw [size_toList]; exact hlt3)]
    have : s.data.toList[i + 1]'(by rw [size_toList]; exact hlt3) = 34 := h34
    rw [this]
  have HWJ : Hid (∀ W, Calls Tryz.prog 66 #[.string (s.extract (i + 1) (i + 1 + 1))] W fun e w' => e = .returned (.bool false) ∧ w' = W) := Lib.hid (fun W => by
    have h := refWordP_any (s.extract (i + 1) (i + 1 + 1)) W (by rw [ByteArray.size_extract]; unfold maxLen; omega)
    rw [HEX.out 1, hr2] at h
    exact h)
  have HUQ : Hid (∀ W, Calls Tryz.prog 237 #[.string (s.extract (i + 1) s.size)] W fun e w' => e = .returned (.tuple #[.string ⟨nm.toArray⟩, .int .i64 (n : Int), .int .i64 ee]) ∧ Below W.heap.size W w') := Lib.hid (fun W => by
    have h := refUnquote_any (s.extract (i + 1) s.size) W (by rw [ByteArray.size_extract]; omega)
    have e : (s.extract (i + 1) s.size).data.toList = s.data.toList.drop (i + 1) := by
      have := HEX.out (s.size - (i + 1))
      rw [show i + 1 + (s.size - (i + 1)) = s.size by omega] at this
      rw [this, List.take_of_length_le (by rw [HRL.out]; omega)]
    rw [e, hu] at h
    exact h)
  have hgood := unqs_good (s.data.toList.drop (i + 1))
  have hnl := unqs_len (s.data.toList.drop (i + 1))
  rw [hu] at hgood hnl
  simp only at hgood hnl
  have hRL := HRL.out
  have HWM : Hid (∀ W, Calls Tryz.prog 66 #[.string ⟨nm.toArray⟩] W fun e w' => e = .returned (.bool false) ∧ Below W.heap.size W w') := Lib.hid (fun W => by
    have h := refWordP_any ⟨nm.toArray⟩ W (by rw [mk_size]; have := hnl hee; unfold maxLen; omega)
    rw [mk_data, hW] at h
    exact h.mono fun e w' ⟨h1, h2⟩ => ⟨h1, by rw [h2]; exact Below.refl _ _⟩)
  have HQN : Hid (∀ W, Calls Tryz.prog 67 #[.string ⟨nm.toArray⟩] W fun e w' => e = .returned (.string ⟨(quo nm).toArray⟩) ∧ Below W.heap.size W w') := Lib.hid (fun W => by
    have h := refQuote_any ⟨nm.toArray⟩ W (by rw [mk_size]; have := hnl hee; omega)
    rw [mk_data] at h
    exact h)
  have hn2 : i + 1 + n ≤ s.size := by have := (hgood hee).2.1; omega
  have hwq : IntKind.i64.wrap ((i : Int) + 1 + (n : Int)) = (i : Int) + 1 + (n : Int) := IntWalk.i64_in _ ⟨by omega, by omega⟩
  have hq0 : 0 ≤ (i : Int) + 1 := by omega
  have hq1 : (i : Int) + 1 ≤ (i : Int) + 1 + (n : Int) := by omega
  have hq2 : (i : Int) + 1 + (n : Int) ≤ (s.size : Int) := by omega
  have hq3 : ((i : Int) + 1 + (n : Int)).toNat = i + 1 + n := by omega
  have hq4 : ((i : Int) + 1).toNat = i + 1 := by omega
  have hne : ¬ (ByteArray.mk (quo nm).toArray = s.extract (i + 1) (i + 1 + n)) := fun h => hq (by
    have h2 := congrArg (fun b : ByteArray => b.data.toList) h
    simp only at h2
    rw [HEX.out n] at h2
    simpa using h2)
  have hneb : (quo nm == (s.extract (i + 1) (i + 1 + n)).toList) = false := by
    rw [beq_eq_false_iff_ne, ByteArray.toList_eq, HEX.out n]
    exact hq
  have hnel : ((ByteArray.mk (quo nm).toArray).toList == (s.extract (i + 1) (i + 1 + n)).toList) = false := by
    rw [beq_eq_false_iff_ne]
    intro h
    apply hq
    rw [← HEX.out n, ← ByteArray.toList_eq, ← h, ByteArray.toList_eq]
  subst hee
  clear h46 h34 hr2 HRL hRL hgood hnl hu HEX
  go_enter Tryz.func208, Tryz.ntmps208
  go_wp2_with fail
  go_loopw [9] (fun kv wr => kv = .int .i64 ((i + 1 : Nat) : Int) ∧ wr = w.alloc stepZ) (fun kv _ => s.size - (intOf kv).toNat)
  case atStart => exact ⟨by simp, rfl⟩
  case round =>
    obtain ⟨rfl, rfl⟩ := hrel
    go_wp2_with fail
    refine (HWJ.out _).mono ?_
    rintro e wf ⟨rfl, rfl⟩
    go_wp2_with fail
    refine (HUQ.out _).mono ?_
    rintro e w1 ⟨rfl, hb1⟩
    have HB1 : Hid (Below w.heap.size w w1) := Lib.hid (HB0.out.trans (hb1.mono HB0.out.size))
    obtain ⟨hz4, k0, k1, k2, hfz, hfz2⟩ := new_step (W := w.alloc stepZ) (b := w.heap.size) (heap_alloc_new w stepZ) hb1
    clear hb1
    have HQS : Hid (Qs w w1) := Lib.hid ⟨hfz2, HB1.out⟩
    clear hfz2 hz4 k0 k1 k2 hfz
    go_upto_region 10 with fail
    go_region_held3 (fun w' => w'.heap[w.heap.size]? = some stepZ ∧ Below w.heap.size w w') (first | exact Qs.step (by assumption : Qs w _) hb3 | exact Qs.step HQS.out (Below.refl _ _).drew | go_keep)
      (first
        | (go_at_call 66; refine (HWM.out _).mono ?_; rintro e w3 ⟨rfl, hb3⟩)
        | (go_at_call 67; refine (HQN.out _).mono ?_; rintro e w3 ⟨rfl, hb3⟩))
    obtain ⟨k0, k1, k2, hfz, hz4⟩ := Qs.cells (by assumption : Qs w _)
    have HB9 := Lib.hid (by assumption : Qs w _).2
    cases first with
    | true =>
      go_wp2_with fail
      all_goals exact bodyPost_ret (v := .tuple #[sta ⟨false, [], 0⟩, .int .i64 (i : Int)]) (by simp [results, Tryz.results208, go_sem, k0, k1, k2]) rfl ⟨rfl, by first | exact ((HB9.out.setCell (Nat.le_refl _) _).setCell (Nat.le_refl _) _).setCell (Nat.le_refl _) _ | exact (((drewN_below HB9.out _).setCell (Nat.le_refl _) _).setCell (Nat.le_refl _) _).setCell (Nat.le_refl _) _ | exact drewN_below HB9.out _ | trace_state⟩
    | false =>
      go_wp2_with fail
      all_goals exact bodyPost_ret (v := .tuple #[sta ⟨false, [], 0⟩, .int .i64 (i : Int)]) (by simp [results, Tryz.results208, go_sem, k0, k1, k2]) rfl ⟨rfl, by first | exact ((HB9.out.setCell (Nat.le_refl _) _).setCell (Nat.le_refl _) _).setCell (Nat.le_refl _) _ | exact (((drewN_below HB9.out _).setCell (Nat.le_refl _) _).setCell (Nat.le_refl _) _).setCell (Nat.le_refl _) _ | exact drewN_below HB9.out _ | trace_state⟩
end Go.Proofs.YtdgcdemihalefaaGreatDoor
namespace Go.Proofs.YtdgcdemihalefaaGreatDoor
open Go.RowKit Np Rw Vp Up Qp Pw
theorem figR_le {r : List UInt8} {v k : Nat} (h : figR r = some (v, k)) : v ≤ 1000000 := by
  unfold figR at h
  split at h
  · cases h
  · rename_i hc
    injection h with h
    injection h with h1 _
    rw [not_or, not_or] at hc
    omega
set_option maxRecDepth 100000 in
set_option maxHeartbeats 8000000 in
theorem refStep_any (s : ByteArray) (i : Nat) (first : Bool) (w : World) (hs : s.size ≤ 1000000) (hi : i ≤ s.size) :
    Calls Tryz.prog 208 #[.string s, .int .i64 i, .bool first] w fun e w' => e = .returned (stpV i (stepR (s.data.toList.drop i) first)) ∧ Below w.heap.size w w' := by
  have hb0 : Below w.heap.size w (w.alloc (.cells #[.bool false, .string ⟨#[]⟩, .int .i64 0] 71)) := (Below.refl _ _).alloc (Nat.le_refl _) _
  have HB0 := Lib.hid hb0
  clear hb0
  have HFG := Lib.hid (fun a W (ha : a ≤ s.size) => refFigP_any s a W hs ha)
  by_cases hlt : i < s.size
  · have hdr : s.data.toList.drop i = s[i] :: s.data.toList.drop (i + 1) := by
      rw [List.drop_eq_getElem_cons (by rw [size_toList]; exact hlt)]; rfl
    by_cases h46 : s[i].toNat = 46
    · have hc46 : s[i] = 46 := by rw [← u8_of (c := s[i]) (n := 46) h46]; rfl
      have h46b : ((s[i].toNat : Int) == 46) = true := by simp; omega
      have HS1 : Hid (∀ x, fieldR (s.data.toList.drop (i + 1)) = some x → stepR (s.data.toList.drop i) first = some (x.1, x.2 + 1)) := Lib.hid (fun x h => by
        rw [hdr]; simp only [stepR]; rw [if_pos hc46, h])
      have HS2 : Hid (fieldR (s.data.toList.drop (i + 1)) = none → first = false → stepR (s.data.toList.drop i) first = none) := Lib.hid (fun h h2 => by
        rw [hdr]; simp only [stepR]; rw [if_pos hc46, h, h2]; rfl)
      have HS3 : Hid (fieldR (s.data.toList.drop (i + 1)) = none → first = true → (∀ d r', s.data.toList.drop (i + 1) = d :: r' → ¬ d = 91) → stepR (s.data.toList.drop i) first = none) := Lib.hid (fun h h2 h3 => by
        rw [hdr]; simp only [stepR]; rw [if_pos hc46, h, h2]
        cases hq : s.data.toList.drop (i + 1) with
        | nil => rfl
        | cons d r' => simp only [if_true]; rw [if_neg (h3 d r' hq)])
      have HS4 : Hid (∀ d r', fieldR (s.data.toList.drop (i + 1)) = none → first = true → s.data.toList.drop (i + 1) = d :: r' → d = 91 → stepR (s.data.toList.drop i) first = (partR r').map fun x => (x.1, x.2 + 2)) := Lib.hid (fun d r' h h2 hq h4 => by
        rw [hdr]; simp only [stepR]; rw [if_pos hc46, h, h2, hq]; simp only [if_true]; rw [if_pos h4])
      by_cases hq34 : ∃ h : i + 1 < s.size, s[i + 1].toNat = 34
      · obtain ⟨hlt3, h34⟩ := hq34
        have h34c : s[i + 1] = 34 := by rw [← u8_of (c := s[i + 1]) (n := 34) h34]; rfl
        have hr2 : s.data.toList.drop (i + 1) = 34 :: s.data.toList.drop (i + 1 + 1) := by
          rw [List.drop_eq_getElem_cons (by rw [size_toList]; exact hlt3)]
          have : s.data.toList[i + 1]'(by rw [size_toList]; exact hlt3) = 34 := h34c
          rw [this]
        have hwr : wrd (s.data.toList.drop (i + 1)) = [] := by rw [hr2, wrd_mark]
        obtain ⟨nm, n, ee, hu⟩ : ∃ nm n ee, unqs (s.data.toList.drop (i + 1)) = (nm, n, ee) := ⟨_, _, _, rfl⟩
        have hfd : fieldR (s.data.toList.drop (i + 1)) = if ee = 0 ∧ isW nm = false ∧ quo nm = (s.data.toList.drop (i + 1)).take n then some (⟨false, nm, 0⟩, n) else none := by
          unfold fieldR
          rw [if_neg (by rw [hwr]; simp), hu]
        have hgone : fieldR (s.data.toList.drop (i + 1)) = none → stepR (s.data.toList.drop i) first = none := fun hn => by
          cases first with
          | false => exact HS2.out hn rfl
          | true =>
            refine HS3.out hn rfl (fun d r' e h => ?_)
            rw [hr2] at e
            injection e with e1 e2
            rw [← e1] at h
            exact absurd h (by decide)
        by_cases hee : ee = 0
        · cases hW : isW nm with
          | true =>
            rw [hgone (by rw [hfd, if_neg (by rw [hW]; simp)])]
            exact refStep_qWord s i first w hs hlt3 hc46 h34c nm n ee hu hee hW
          | false =>
            by_cases hq : quo nm = (s.data.toList.drop (i + 1)).take n
            · rw [HS1.out (⟨false, nm, 0⟩, n) (by rw [hfd, if_pos ⟨hee, hW, hq⟩])]
              exact refStep_qGood s i first w hs hlt3 hc46 h34c nm n ee hu hee hW hq
            · rw [hgone (by rw [hfd, if_neg (fun h => hq h.2.2)])]
              exact refStep_qNone s i first w hs hlt3 hc46 h34c nm n ee hu hee hW hq
        · rw [hgone (by rw [hfd, if_neg (fun h => hee h.1)])]
          exact refStep_qBad s i first w hs hlt3 hc46 h34c nm n ee hu hee
      have HQ34 := Lib.hid hq34
      clear hq34
      have HXT : Hid (∀ j, j ≤ (s.data.toList.drop (i + 1)).length → (∀ t, t < j → okAt (s.data.toList.drop (i + 1)) t = true) → okAt (s.data.toList.drop (i + 1)) j = false → 0 < j → stepR (s.data.toList.drop i) first = some (⟨false, (s.data.toList.drop (i + 1)).take j, 0⟩, j + 1)) := Lib.hid (fun j hj h1 h2 h0 => HS1.out _ (step_word hj h0 h1 h2))
      have HRL : Hid ((s.data.toList.drop (i + 1)).length = s.size - (i + 1)) := Lib.hid (by rw [List.length_drop, size_toList])
      have HEX : Hid (∀ m, (s.extract (i + 1) (i + 1 + m)).data.toList = (s.data.toList.drop (i + 1)).take m) := Lib.hid (fun m => by
        have h := Lib.extract_toList s (i + 1) (i + 1 + m)
        rw [ByteArray.toList_eq, Nat.add_sub_cancel_left] at h
        exact h)
      have HWD : Hid (∀ m W, Calls Tryz.prog 66 #[.string (s.extract (i + 1) (i + 1 + m))] W fun e w' => e = .returned (.bool (isW ((s.data.toList.drop (i + 1)).take m))) ∧ w' = W) := Lib.hid (fun m W => by
        have h := refWordP_any (s.extract (i + 1) (i + 1 + m)) W (by rw [ByteArray.size_extract]; unfold maxLen; omega)
        rwa [HEX.out] at h)
      clear hdr
      generalize hr : s.data.toList.drop (i + 1) = r at *
      go_enter Tryz.func208, Tryz.ntmps208
      go_wp2_with fail
      go_loopw [9] (fun kv wr => ∃ j : Nat, i + 1 + j ≤ s.size ∧ kv = .int .i64 ((i + 1 + j : Nat) : Int) ∧ Hid (∀ t, t < j → okAt r t = true) ∧ wr = w.alloc stepZ) (fun kv _ => s.size - (intOf kv).toNat)
      case atStart => exact ⟨0, by omega, by simp, Lib.hid (fun t ht => by omega), rfl⟩
      case round =>
        obtain ⟨j, hij, rfl, HA, rfl⟩ := hrel
        by_cases hlt2 : i + 1 + j < s.size
        · have hjr : j < r.length := by rw [HRL.out]; omega
          cases hw : isW (r.take (j + 1)) with
          | true =>
            have HA2 : Hid (∀ t, t < j + 1 → okAt r t = true) := Lib.hid (fun t ht => (isW_take hjr).1 hw t (by omega))
            have HWJ := HWD.out (j + 1)
            rw [hw] at HWJ
            clear hw
            go_wp2_with fail
            refine (HWJ _).mono ?_
            rintro e wf ⟨rfl, rfl⟩
            go_wp2_with fail
            refine ⟨⟨j + 1, by omega, by go_num, HA2, by first | trivial | rfl⟩, ?_⟩
            simp [intOf]; omega
          | false =>
            have hok := step_stop hjr HA.out hw
            have HWJ := HWD.out (j + 1)
            rw [hw] at HWJ
            clear hw
            by_cases hj0 : j = 0
            · subst hj0
              have hlt3 : i + 1 < s.size := by omega
              have hr2 : r = s[i + 1] :: s.data.toList.drop (i + 1 + 1) := by
                rw [← hr, List.drop_eq_getElem_cons (by rw [size_toList]; exact hlt3)]; rfl
              have hwr : wrd r = [] := by rw [wrd_of (Nat.zero_le _) (fun t ht => absurd ht (Nat.not_lt_zero _)) hok]; rfl
              by_cases h34 : s[i + 1].toNat = 34
              · exact absurd ⟨hlt3, h34⟩ HQ34.out
              · have hu : unqs r = ([], 0, 1) := by
                  have hb : bt r 0 = s[i + 1].toNat := by rw [hr2]; rfl
                  rw [unqs, if_neg (by rw [hb]; exact h34)]
                have HNF : Hid (fieldR r = none) := Lib.hid (by
                  unfold fieldR
                  rw [if_neg (by rw [hwr]; simp), hu, if_neg (by simp)])
                have HUQ : Hid (∀ W, Calls Tryz.prog 237 #[.string (s.extract (i + 1) s.size)] W fun e w' => e = .returned (.tuple #[.string ⟨#[]⟩, .int .i64 0, .int .i64 1]) ∧ Below W.heap.size W w') := Lib.hid (fun W => by
                  have h := refUnquote_any (s.extract (i + 1) s.size) W (by rw [ByteArray.size_extract]; omega)
                  have e : (s.extract (i + 1) s.size).data.toList = r := by
                    have := HEX.out (s.size - (i + 1))
                    rw [show i + 1 + (s.size - (i + 1)) = s.size by omega] at this
                    rw [this, List.take_of_length_le (by rw [HRL.out]; omega)]
                  rw [e, hu] at h
                  exact h)
                have HREQ : Hid (first = true → (s[i + 1].toNat = 91 → stepR (s.data.toList.drop i) first = (partR (s.data.toList.drop (i + 1 + 1))).map fun x => (x.1, x.2 + 2)) ∧ (¬ s[i + 1].toNat = 91 → stepR (s.data.toList.drop i) first = none)) := Lib.hid (fun hf => ⟨fun h => HS4.out _ _ HNF.out hf hr2 (by rw [← u8_of (c := s[i + 1]) (n := 91) h]; rfl), fun h => HS3.out HNF.out hf (fun d r' e h2 => by
                  rw [hr2] at e; injection e with e1 e2; exact h (by rw [e1, h2]; rfl))⟩)
                have HSF : Hid (first = false → stepR (s.data.toList.drop i) first = none) := Lib.hid (fun hf => HS2.out HNF.out hf)
                clear hok HXT HS1 HS2 HS3 HS4 hjr HA HRL HEX hwr HNF hr2 hr hu h34 HWD
                cases first with
                | false =>
                  have HS := Lib.hid (HSF.out rfl)
                  clear HSF HREQ
                  go_wp2_with fail
                  refine (HWJ _).mono ?_
                  rintro e wf ⟨rfl, rfl⟩
                  go_wp2_with fail
                  refine (HUQ.out _).mono ?_
                  rintro e w1 ⟨rfl, hb1⟩
                  have HB1 : Hid (Below w.heap.size w w1) := Lib.hid (HB0.out.trans (hb1.mono HB0.out.size))
                  obtain ⟨hz4, k0, k1, k2, hfz, -⟩ := new_step (W := w.alloc stepZ) (b := w.heap.size) (heap_alloc_new w stepZ) hb1
                  clear hb1
                  go_upto_region 10 with fail
                  go_quiet (fail)
                  go_wp2_with fail
                  all_goals exact bodyPost_ret (v := .tuple #[sta ⟨false, [], 0⟩, .int .i64 (i : Int)]) (by simp [results, Tryz.results208, go_sem, k0, k1, k2]) rfl ⟨by rw [HS.out]; rfl, (((drewN_below HB1.out _).setCell (Nat.le_refl _) _).setCell (Nat.le_refl _) _).setCell (Nat.le_refl _) _⟩
                | true =>
                  have HREQ := Lib.hid (HREQ.out rfl)
                  clear HSF
                  by_cases h91 : s[i + 1].toNat = 91
                  · have HR91 : Hid (stepR (s.data.toList.drop i) true = (partR (s.data.toList.drop (i + 1 + 1))).map fun x => (x.1, x.2 + 2)) := Lib.hid (HREQ.out.1 h91)
                    have HFR := HFG.out (i + 1 + 1)
                    have h91b : ((s[i + 1].toNat : Int) == 91) = true := by simp; omega
                    have h91c : ((s[i + 1].toNat : Int) != 91) = false := by simp; omega
                    cases hfg : figR (s.data.toList.drop (i + 1 + 1)) with
                    | none =>
                      have HN : Hid (stepR (s.data.toList.drop i) true = none) := Lib.hid (by rw [HR91.out]; unfold partR; rw [hfg]; rfl)
                      rw [hfg] at HFR
                      clear HR91 hfg
                      go_wp2_with fail
                      refine (HWJ _).mono ?_
                      rintro e wf ⟨rfl, rfl⟩
                      go_wp2_with fail
                      refine (HUQ.out _).mono ?_
                      rintro e w1 ⟨rfl, hb1⟩
                      have HB1 : Hid (Below w.heap.size w w1) := Lib.hid (HB0.out.trans (hb1.mono HB0.out.size))
                      obtain ⟨hz4, k0, k1, k2, hfz, -⟩ := new_step (W := w.alloc stepZ) (b := w.heap.size) (heap_alloc_new w stepZ) hb1
                      clear hb1
                      go_upto_region 10 with fail
                      go_quiet (fail)
                      go_wp2_with fail
                      refine (HFR _ (by omega)).mono ?_
                      rintro e wf ⟨rfl, rfl⟩
                      simp only [figV]
                      go_wp2_with fail
                      all_goals first
                        | (exact bodyPost_ret (v := .tuple #[sta ⟨false, [], 0⟩, .int .i64 (i : Int)]) (by simp [results, Tryz.results208, go_sem, k0, k1, k2]) rfl ⟨by rw [HN.out]; rfl, (((drewN_below HB1.out _).setCell (Nat.le_refl _) _).setCell (Nat.le_refl _) _).setCell (Nat.le_refl _) _⟩)
                        | (exfalso; clear HN HFG HREQ; simp at *; omega)
                    | some x =>
                      obtain ⟨v, k⟩ := x
                      rw [hfg] at HFR
                      have hvm : v ≤ 1000000 := figR_le hfg
                      by_cases hto : i + 1 + 1 + k < s.size
                      · have hat : (s.data.toList.drop (i + 1 + 1))[k]? = some s[i + 1 + 1 + k] := by
                          rw [List.getElem?_drop, List.getElem?_eq_getElem (by rw [size_toList]; exact hto)]; rfl
                        by_cases h93 : s[i + 1 + 1 + k].toNat = 93
                        · have HN : Hid (stepR (s.data.toList.drop i) true = some (⟨true, [], (v : Int)⟩, k + 1 + 2)) := Lib.hid (by
                            rw [HR91.out]; unfold partR; rw [hfg]
                            simp only
                            rw [hat, if_pos (by rw [← u8_of (c := s[i + 1 + 1 + k]) (n := 93) h93]; rfl)]
                            rfl)
                          have h93b : ((s[i + 1 + 1 + k].toNat : Int) == 93) = true := by simp; omega
                          clear HR91 hfg hat
                          go_wp2_with fail
                          refine (HWJ _).mono ?_
                          rintro e wf ⟨rfl, rfl⟩
                          go_wp2_with fail
                          refine (HUQ.out _).mono ?_
                          rintro e w1 ⟨rfl, hb1⟩
                          have HB1 : Hid (Below w.heap.size w w1) := Lib.hid (HB0.out.trans (hb1.mono HB0.out.size))
                          obtain ⟨hz4, k0, k1, k2, hfz, -⟩ := new_step (W := w.alloc stepZ) (b := w.heap.size) (heap_alloc_new w stepZ) hb1
                          clear hb1
                          go_upto_region 10 with fail
                          go_quiet (fail)
                          go_wp2_with fail
                          refine (HFR _ (by omega)).mono ?_
                          rintro e wf ⟨rfl, rfl⟩
                          simp only [figV]
                          go_wp2_with fail
                          exact bodyPost_ret (v := .tuple #[sta ⟨true, [], (v : Int)⟩, .int .i64 ((i + (k + 1 + 2) : Nat) : Int)]) (by simp [results, Tryz.results208, go_sem, k0, k1, k2]; try omega) rfl ⟨by rw [HN.out]; rfl, (((drewN_below HB1.out _).setCell (Nat.le_refl _) _).setCell (Nat.le_refl _) _).setCell (Nat.le_refl _) _⟩
                        · have HN : Hid (stepR (s.data.toList.drop i) true = none) := Lib.hid (by
                            rw [HR91.out]; unfold partR; rw [hfg]
                            simp only
                            rw [hat, if_neg (by intro e; injection e with e; exact h93 (by rw [e]; rfl))]
                            rfl)
                          have h93b : ((s[i + 1 + 1 + k].toNat : Int) == 93) = false := by simp; omega
                          have h93c : ((s[i + 1 + 1 + k].toNat : Int) != 93) = true := by simp; omega
                          clear HR91 hfg hat
                          go_wp2_with fail
                          refine (HWJ _).mono ?_
                          rintro e wf ⟨rfl, rfl⟩
                          go_wp2_with fail
                          refine (HUQ.out _).mono ?_
                          rintro e w1 ⟨rfl, hb1⟩
                          have HB1 : Hid (Below w.heap.size w w1) := Lib.hid (HB0.out.trans (hb1.mono HB0.out.size))
                          obtain ⟨hz4, k0, k1, k2, hfz, -⟩ := new_step (W := w.alloc stepZ) (b := w.heap.size) (heap_alloc_new w stepZ) hb1
                          clear hb1
                          go_upto_region 10 with fail
                          go_quiet (fail)
                          go_wp2_with fail
                          refine (HFR _ (by omega)).mono ?_
                          rintro e wf ⟨rfl, rfl⟩
                          simp only [figV]
                          go_wp2_with fail
                          all_goals first
                        | (exact bodyPost_ret (v := .tuple #[sta ⟨false, [], 0⟩, .int .i64 (i : Int)]) (by simp [results, Tryz.results208, go_sem, k0, k1, k2]) rfl ⟨by rw [HN.out]; rfl, (((drewN_below HB1.out _).setCell (Nat.le_refl _) _).setCell (Nat.le_refl _) _).setCell (Nat.le_refl _) _⟩)
                        | (exfalso; clear HN HFG HREQ; simp at *; omega)
                      · have HN : Hid (stepR (s.data.toList.drop i) true = none) := Lib.hid (by
                          rw [HR91.out]; unfold partR; rw [hfg]
                          simp only
                          rw [List.getElem?_drop, List.getElem?_eq_none (by rw [size_toList]; omega), if_neg (by simp)]
                          rfl)
                        clear HR91 hfg
                        go_wp2_with fail
                        refine (HWJ _).mono ?_
                        rintro e wf ⟨rfl, rfl⟩
                        go_wp2_with fail
                        refine (HUQ.out _).mono ?_
                        rintro e w1 ⟨rfl, hb1⟩
                        have HB1 : Hid (Below w.heap.size w w1) := Lib.hid (HB0.out.trans (hb1.mono HB0.out.size))
                        obtain ⟨hz4, k0, k1, k2, hfz, -⟩ := new_step (W := w.alloc stepZ) (b := w.heap.size) (heap_alloc_new w stepZ) hb1
                        clear hb1
                        go_upto_region 10 with fail
                        go_quiet (fail)
                        go_wp2_with fail
                        refine (HFR _ (by omega)).mono ?_
                        rintro e wf ⟨rfl, rfl⟩
                        simp only [figV]
                        go_wp2_with fail
                        all_goals first
                        | (exact bodyPost_ret (v := .tuple #[sta ⟨false, [], 0⟩, .int .i64 (i : Int)]) (by simp [results, Tryz.results208, go_sem, k0, k1, k2]) rfl ⟨by rw [HN.out]; rfl, (((drewN_below HB1.out _).setCell (Nat.le_refl _) _).setCell (Nat.le_refl _) _).setCell (Nat.le_refl _) _⟩)
                        | (exfalso; clear HN HFG HREQ; simp at *; omega)
                  · have HN : Hid (stepR (s.data.toList.drop i) true = none) := Lib.hid (HREQ.out.2 h91)
                    have h91b : ((s[i + 1].toNat : Int) == 91) = false := by simp; omega
                    go_wp2_with fail
                    refine (HWJ _).mono ?_
                    rintro e wf ⟨rfl, rfl⟩
                    go_wp2_with fail
                    refine (HUQ.out _).mono ?_
                    rintro e w1 ⟨rfl, hb1⟩
                    have HB1 : Hid (Below w.heap.size w w1) := Lib.hid (HB0.out.trans (hb1.mono HB0.out.size))
                    obtain ⟨hz4, k0, k1, k2, hfz, -⟩ := new_step (W := w.alloc stepZ) (b := w.heap.size) (heap_alloc_new w stepZ) hb1
                    clear hb1
                    go_upto_region 10 with fail
                    go_quiet (fail)
                    go_wp2_with fail
                    all_goals first
                        | (exact bodyPost_ret (v := .tuple #[sta ⟨false, [], 0⟩, .int .i64 (i : Int)]) (by simp [results, Tryz.results208, go_sem, k0, k1, k2]) rfl ⟨by rw [HN.out]; rfl, (((drewN_below HB1.out _).setCell (Nat.le_refl _) _).setCell (Nat.le_refl _) _).setCell (Nat.le_refl _) _⟩)
                        | (exfalso; clear HN HFG HREQ; simp at *; omega)
            · have HJL : j ≤ r.length := by omega
              have HS := Lib.hid (HXT.out j HJL HA.out hok (by omega))
              have HEJ : Hid (s.extract (i + 1) (i + 1 + j) = ⟨(r.take j).toArray⟩) := Lib.hid (by rw [← HEX.out j])
              clear hok HXT HS1 HS2 HS3 HS4 hjr HA HJL HRL HEX
              go_wp2_with fail
              refine (HWJ _).mono ?_
              rintro e wf ⟨rfl, rfl⟩
              go_wp2_with fail
              exact bodyPost_ret (v := .tuple #[sta ⟨false, r.take j, 0⟩, .int .i64 ((i + (j + 1) : Nat) : Int)]) (by simp [results, Tryz.results208, go_sem]; exact ⟨HEJ.out, by omega⟩) rfl ⟨by rw [HS.out]; rfl, (Below.refl _ _).alloc (Nat.le_refl _) _⟩
        · have hjr : j = r.length := by rw [HRL.out]; omega
          by_cases hj0 : j = 0
          · subst hj0
            have hrn : r = [] := List.eq_nil_of_length_eq_zero (by omega)
            have hok : okAt r 0 = false := by rw [hrn]; rfl
            have hwr : wrd r = [] := by rw [hrn]; rfl
            have HNF : Hid (fieldR r = none) := Lib.hid (by rw [hrn]; rfl)
            have HS : Hid (stepR (s.data.toList.drop i) first = none) := Lib.hid (by
              cases first with
              | false => exact HS2.out HNF.out rfl
              | true => exact HS3.out HNF.out rfl (by intro d r' e; rw [hrn] at e; cases e))
            have hsz : s.size = i + 1 := by omega
            have HUQ : Hid (∀ W, Calls Tryz.prog 237 #[.string ByteArray.empty] W fun e w' => e = .returned (.tuple #[.string ⟨#[]⟩, .int .i64 0, .int .i64 1]) ∧ Below W.heap.size W w') := Lib.hid (fun W => refUnquote_any ByteArray.empty W (by simp))
            clear hok HXT HS1 HS2 HS3 HS4 hjr HA HRL HEX hwr HNF hrn hr
            go_wp2_with fail
            refine (HUQ.out _).mono ?_
            rintro e w1 ⟨rfl, hb1⟩
            have HB1 : Hid (Below w.heap.size w w1) := Lib.hid (HB0.out.trans (hb1.mono HB0.out.size))
            obtain ⟨hz4, k0, k1, k2, hfz, -⟩ := new_step (W := w.alloc stepZ) (b := w.heap.size) (heap_alloc_new w stepZ) hb1
            clear hb1
            cases first with
            | false =>
              go_upto_region 10 with fail
              go_quiet (fail)
              go_wp2_with fail
              all_goals exact bodyPost_ret (v := .tuple #[sta ⟨false, [], 0⟩, .int .i64 (i : Int)]) (by simp [results, Tryz.results208, go_sem, k0, k1, k2]) rfl ⟨by rw [HS.out]; rfl, (((drewN_below HB1.out _).setCell (Nat.le_refl _) _).setCell (Nat.le_refl _) _).setCell (Nat.le_refl _) _⟩
            | true =>
              go_upto_region 10 with fail
              go_quiet (fail)
              go_wp2_with fail
              all_goals exact bodyPost_ret (v := .tuple #[sta ⟨false, [], 0⟩, .int .i64 (i : Int)]) (by simp [results, Tryz.results208, go_sem, k0, k1, k2]) rfl ⟨by rw [HS.out]; rfl, (((drewN_below HB1.out _).setCell (Nat.le_refl _) _).setCell (Nat.le_refl _) _).setCell (Nat.le_refl _) _⟩
          · have HJL : j ≤ r.length := by omega
            have hok : okAt r j = false := by rw [okAt, List.getElem?_eq_none (by omega)]
            have HS := Lib.hid (HXT.out j HJL HA.out hok (by omega))
            have HEJ : Hid (s.extract (i + 1) (i + 1 + j) = ⟨(r.take j).toArray⟩) := Lib.hid (by rw [← HEX.out j])
            clear hok HXT HS1 HS2 HS3 HS4 hjr HA HJL HRL HEX
            go_wp2_with fail
            exact bodyPost_ret (v := .tuple #[sta ⟨false, r.take j, 0⟩, .int .i64 ((i + (j + 1) : Nat) : Int)]) (by simp [results, Tryz.results208, go_sem]; exact ⟨HEJ.out, by omega⟩) rfl ⟨by rw [HS.out]; rfl, (Below.refl _ _).alloc (Nat.le_refl _) _⟩
    · have h46b : ((s[i].toNat : Int) == 46) = false := by simp; omega
      have hne46 : ¬ s[i] = 46 := fun e => h46 (by rw [e]; rfl)
      cases first with
      | true =>
        have HN : Hid (stepR (s.data.toList.drop i) true = none) := Lib.hid (by
          rw [hdr]; unfold stepR
          simp only
          rw [if_neg hne46]; rfl)
        clear hdr
        go_enter Tryz.func208, Tryz.ntmps208
        go_wp2_with fail
        exact bodyPost_ret (v := .tuple #[sta ⟨false, [], 0⟩, .int .i64 (i : Int)]) (by simp [results, Tryz.results208, go_sem]) rfl ⟨by rw [HN.out]; rfl, HB0.out⟩
      | false =>
        have HREQ : Hid ((s[i].toNat = 91 → stepR (s.data.toList.drop i) false = (partR (s.data.toList.drop (i + 1))).map fun x => (x.1, x.2 + 1)) ∧ (¬ s[i].toNat = 91 → stepR (s.data.toList.drop i) false = none)) := Lib.hid (by
          have hst : stepR (s.data.toList.drop i) false = if s[i] = 91 then (partR (s.data.toList.drop (i + 1))).map fun x => (x.1, x.2 + 1) else none := by
            rw [hdr]; unfold stepR
            simp only
            rw [if_neg hne46]; rfl
          rw [hst]
          refine ⟨fun h => if_pos (by rw [← u8_of (c := s[i]) (n := 91) h]; rfl), fun h => if_neg (fun e => h (by rw [e]; rfl))⟩)
        clear hdr
        by_cases h91 : s[i].toNat = 91
        · have HR91 : Hid (stepR (s.data.toList.drop i) false = (partR (s.data.toList.drop (i + 1))).map fun x => (x.1, x.2 + 1)) := Lib.hid (HREQ.out.1 h91)
          have HFR := HFG.out (i + 1)
          have h91b : ((s[i].toNat : Int) == 91) = true := by simp; omega
          have h91c : ((s[i].toNat : Int) != 91) = false := by simp; omega
          cases hfg : figR (s.data.toList.drop (i + 1)) with
          | none =>
            have HN : Hid (stepR (s.data.toList.drop i) false = none) := Lib.hid (by rw [HR91.out]; unfold partR; rw [hfg]; rfl)
            rw [hfg] at HFR
            clear HR91 hfg
            go_enter Tryz.func208, Tryz.ntmps208
            go_wp2_with fail
            refine (HFR _ (by omega)).mono ?_
            rintro e wf ⟨rfl, rfl⟩
            simp only [figV]
            go_wp2_with fail
            all_goals first
              | (exact bodyPost_ret (v := .tuple #[sta ⟨false, [], 0⟩, .int .i64 (i : Int)]) (by simp [results, Tryz.results208, go_sem]) rfl ⟨by rw [HN.out]; rfl, HB0.out⟩)
              | (exfalso; clear HN HFG HREQ; simp at *; omega)
          | some x =>
            obtain ⟨v, k⟩ := x
            rw [hfg] at HFR
            have hvm : v ≤ 1000000 := figR_le hfg
            by_cases hto : i + 1 + k < s.size
            · have hat : (s.data.toList.drop (i + 1))[k]? = some s[i + 1 + k] := by
                rw [List.getElem?_drop, List.getElem?_eq_getElem (by rw [size_toList]; exact hto)]; rfl
              by_cases h93 : s[i + 1 + k].toNat = 93
              · have HN : Hid (stepR (s.data.toList.drop i) false = some (⟨true, [], (v : Int)⟩, k + 1 + 1)) := Lib.hid (by
                  rw [HR91.out]; unfold partR; rw [hfg]
                  simp only
                  rw [hat, if_pos (by rw [← u8_of (c := s[i + 1 + k]) (n := 93) h93]; rfl)]
                  rfl)
                have h93b : ((s[i + 1 + k].toNat : Int) == 93) = true := by simp; omega
                clear HR91 hfg hat
                go_enter Tryz.func208, Tryz.ntmps208
                go_wp2_with fail
                refine (HFR _ (by omega)).mono ?_
                rintro e wf ⟨rfl, rfl⟩
                simp only [figV]
                go_wp2_with fail
                exact bodyPost_ret (v := .tuple #[sta ⟨true, [], (v : Int)⟩, .int .i64 ((i + (k + 1 + 1) : Nat) : Int)]) (by simp [results, Tryz.results208, go_sem]; try omega) rfl ⟨by rw [HN.out]; rfl, ((Below.refl _ _).alloc (Nat.le_refl _) _)⟩
              · have HN : Hid (stepR (s.data.toList.drop i) false = none) := Lib.hid (by
                  rw [HR91.out]; unfold partR; rw [hfg]
                  simp only
                  rw [hat, if_neg (by intro e; injection e with e; exact h93 (by rw [e]; rfl))]
                  rfl)
                have h93b : ((s[i + 1 + k].toNat : Int) == 93) = false := by simp; omega
                have h93c : ((s[i + 1 + k].toNat : Int) != 93) = true := by simp; omega
                clear HR91 hfg hat
                go_enter Tryz.func208, Tryz.ntmps208
                go_wp2_with fail
                refine (HFR _ (by omega)).mono ?_
                rintro e wf ⟨rfl, rfl⟩
                simp only [figV]
                go_wp2_with fail
                all_goals first
              | (exact bodyPost_ret (v := .tuple #[sta ⟨false, [], 0⟩, .int .i64 (i : Int)]) (by simp [results, Tryz.results208, go_sem]) rfl ⟨by rw [HN.out]; rfl, HB0.out⟩)
              | (exfalso; clear HN HFG HREQ; simp at *; omega)
            · have HN : Hid (stepR (s.data.toList.drop i) false = none) := Lib.hid (by
                rw [HR91.out]; unfold partR; rw [hfg]
                simp only
                rw [List.getElem?_drop, List.getElem?_eq_none (by rw [size_toList]; omega), if_neg (by simp)]
                rfl)
              clear HR91 hfg
              go_enter Tryz.func208, Tryz.ntmps208
              go_wp2_with fail
              refine (HFR _ (by omega)).mono ?_
              rintro e wf ⟨rfl, rfl⟩
              simp only [figV]
              go_wp2_with fail
              all_goals first
              | (exact bodyPost_ret (v := .tuple #[sta ⟨false, [], 0⟩, .int .i64 (i : Int)]) (by simp [results, Tryz.results208, go_sem]) rfl ⟨by rw [HN.out]; rfl, HB0.out⟩)
              | (exfalso; clear HN HFG HREQ; simp at *; omega)
        · have HN : Hid (stepR (s.data.toList.drop i) false = none) := Lib.hid (HREQ.out.2 h91)
          have h91b : ((s[i].toNat : Int) == 91) = false := by simp; omega
          go_enter Tryz.func208, Tryz.ntmps208
          go_wp2_with fail
          all_goals first
              | (exact bodyPost_ret (v := .tuple #[sta ⟨false, [], 0⟩, .int .i64 (i : Int)]) (by simp [results, Tryz.results208, go_sem]) rfl ⟨by rw [HN.out]; rfl, HB0.out⟩)
              | (exfalso; clear HN HFG HREQ; simp at *; omega)
  · have HN : Hid (stepR (s.data.toList.drop i) first = none) := Lib.hid (by
      rw [List.drop_of_length_le (by rw [size_toList]; omega)]; rfl)
    cases first with
    | true =>
      go_enter Tryz.func208, Tryz.ntmps208
      go_wp2_with fail
      exact bodyPost_ret (v := .tuple #[sta ⟨false, [], 0⟩, .int .i64 (i : Int)]) (by simp [results, Tryz.results208, go_sem]) rfl ⟨by rw [HN.out]; rfl, HB0.out⟩
    | false =>
      go_enter Tryz.func208, Tryz.ntmps208
      go_wp2_with fail
      exact bodyPost_ret (v := .tuple #[sta ⟨false, [], 0⟩, .int .i64 (i : Int)]) (by simp [results, Tryz.results208, go_sem]) rfl ⟨by rw [HN.out]; rfl, HB0.out⟩
end Go.Proofs.YtdgcdemihalefaaGreatDoor
namespace Go.Proofs.YtdgcdemihalefaaGreatDoor
open Go.RowKit Np Rw Vp Up Qp Pw
def BegE (w : World) (l : List UInt8) (i : Nat) (R : List St × Nat) (e : Ending) (w' : World) : Prop := ∃ (A : Option Addr) (n c : Nat), e = .returned (.tuple #[.slice A n c, .int .i64 ((if R.1 = [] ∧ l[i]? = some 46 then i + 1 else R.2 : Nat) : Int)]) ∧ Sps w' (.slice A n c) R.1 ∧ Below w.heap.size w w'
theorem stepR_len {l : List UInt8} {b : Bool} {x : St × Nat} (h : stepR l b = some x) : 1 ≤ x.2 ∧ x.2 ≤ l.length := bgn_len (g := x.1) (n := x.2) (by rw [← step_eq]; exact h)
set_option maxRecDepth 100000 in
set_option maxHeartbeats 8000000 in
theorem refBegins_any (s : ByteArray) (i : Nat) (w : World) (hs : s.size ≤ 1000000) (hi : i ≤ s.size) :
    Calls Tryz.prog 186 #[.string s, .int .i64 i] w (BegE w s.data.toList i (bgsF (s.size + 1) [] s.data.toList i)) := by
  have HST := Lib.hid (fun (k : Nat) b W (hk : k ≤ s.size) => refStep_any s k b W hs hk)
  have HSL : Hid (∀ k b x, stepR (s.data.toList.drop k) b = some x → 1 ≤ x.2 ∧ x.2 ≤ s.size - k) := Lib.hid (fun k b x h => by
    have := stepR_len h
    rwa [List.length_drop, size_toList] at this)
  have HSI : Hid (∀ h : i < s.size, s.data.toList[i]? = some s[i]) := Lib.hid (fun h => by
    rw [List.getElem?_eq_getElem (by rw [size_toList]; exact h)]; rfl)
  have HSO : Hid (¬ i < s.size → s.data.toList[i]? = none) := Lib.hid (fun h => List.getElem?_eq_none (by rw [size_toList]; omega))
  generalize hR : bgsF (s.size + 1) [] s.data.toList i = R
  have HR := Lib.hid hR
  clear hR
  go_enter Tryz.func186, Tryz.ntmps186
  go_wp2_with fail
  go_loopw [1, 6] (fun fv pv wr => ∃ (k f : Nat) (acc : List St), k ≤ s.size ∧ s.size < k + f ∧ acc.length ≤ 20 ∧ fv = .int .i64 k ∧ (acc = [] → k = i) ∧ Own spc 3 71 w.heap.size wr pv acc ∧ Hid (bgsF f acc s.data.toList k = R) ∧ Hid (Below w.heap.size w wr)) (fun fv _ _ => s.size - (intOf fv).toNat)
  case atStart => exact ⟨i, s.size + 1, [], hi, by omega, by simp, rfl, fun _ => rfl, Own.lit spc_len w #[] [] (Nat.le_refl _) (Nat.zero_le _) rfl, HR, Lib.hid ((Below.refl _ _).alloc (Nat.le_refl _) _)⟩
  case round =>
    obtain ⟨k, f, acc, hk, hf, ha, rfl, hki, hown, HF, HB⟩ := hrel
    obtain ⟨f, rfl⟩ : ∃ g, f = g + 1 := ⟨f - 1, by omega⟩
    obtain ⟨A, c, rfl, -⟩ := hown.form
    have HO := Lib.hid hown
    clear hown
    by_cases h20 : acc.length < 20
    · have HC := Lib.hid (HST.out k (acc.length == 0) wr hk)
      have hl0 : (((acc.length : Nat) : Int) == 0) = (acc.length == 0) := by rw [Bool.eq_iff_iff]; simp
      cases hst : stepR (s.data.toList.drop k) (acc.length == 0) with
      | none =>
        have HFR : Hid (R = (acc, k)) := Lib.hid (by rw [← HF.out, bgsF, if_pos h20, hst])
        rw [hst, ← hl0] at HC
        simp only [stpV] at HC
        clear hst hl0
        go_wp2_with fail
        refine HC.out.mono ?_
        rintro e w1 ⟨rfl, hb1⟩
        have HO1 := Lib.hid (HO.out.below hb1)
        have HB1 : Hid (Below w.heap.size w w1) := Lib.hid (HB.out.trans (hb1.mono HB.out.size))
        clear hb1
        by_cases hac : acc = []
        · have hk2 := hki hac
          subst hk2
          have hl0 : acc.length = 0 := by rw [hac]; rfl
          by_cases hlt : k < s.size
          · have hat := HSI.out hlt
            by_cases h46 : s[k].toNat = 46
            · have hc46 : s[k] = 46 := by rw [← u8_of (c := s[k]) (n := 46) h46]; rfl
              have h46b : ((s[k].toNat : Int) == 46) = true := by simp; omega
              have HE : Hid ((if R.1 = [] ∧ s.data.toList[k]? = some 46 then k + 1 else R.2) = k + 1) := Lib.hid (by rw [HFR.out, if_pos ⟨hac, by rw [hat, hc46]⟩])
              clear hat hac
              generalize hz : acc.length = zl at *
              subst hl0
              go_wp2_with fail
              exact bodyPost_ret (v := .tuple #[.slice A 0 c, .int .i64 ((k + 1 : Nat) : Int)]) (by simp [results, Tryz.results186, go_sem]) rfl ⟨A, 0, c, by rw [HE.out], by rw [HFR.out, ← hz]; exact Own.row spc_len (by rw [hz]; exact HO1.out.alloc _), HB1.out.alloc HB1.out.size _⟩
            · have hc46 : ¬ s[k] = 46 := fun e => h46 (by rw [e]; rfl)
              have h46b : ((s[k].toNat : Int) == 46) = false := by simp; omega
              have HE : Hid ((if R.1 = [] ∧ s.data.toList[k]? = some 46 then k + 1 else R.2) = k) := Lib.hid (by rw [HFR.out, if_neg (by rw [hat]; rintro ⟨-, h⟩; injection h with h; exact hc46 h)])
              clear hat hac
              generalize hz : acc.length = zl at *
              subst hl0
              go_wp2_with fail
              exact bodyPost_ret (v := .tuple #[.slice A 0 c, .int .i64 ((k : Nat) : Int)]) (by simp [results, Tryz.results186, go_sem]) rfl ⟨A, 0, c, by rw [HE.out], by rw [HFR.out, ← hz]; exact Own.row spc_len (by rw [hz]; exact HO1.out.alloc _), HB1.out.alloc HB1.out.size _⟩
          · have HE : Hid ((if R.1 = [] ∧ s.data.toList[k]? = some 46 then k + 1 else R.2) = k) := Lib.hid (by rw [HFR.out, HSO.out hlt, if_neg (by rintro ⟨-, h⟩; cases h)])
            clear hac
            generalize hz : acc.length = zl at *
            subst hl0
            go_wp2_with fail
            exact bodyPost_ret (v := .tuple #[.slice A 0 c, .int .i64 ((k : Nat) : Int)]) (by simp [results, Tryz.results186, go_sem]) rfl ⟨A, 0, c, by rw [HE.out], by rw [HFR.out, ← hz]; exact Own.row spc_len (by rw [hz]; exact HO1.out.alloc _), HB1.out.alloc HB1.out.size _⟩
        · have HE : Hid ((if R.1 = [] ∧ s.data.toList[i]? = some 46 then i + 1 else R.2) = k) := Lib.hid (by rw [HFR.out, if_neg (by rintro ⟨h, -⟩; exact hac h)])
          have hpos : 0 < acc.length := List.length_pos_iff.2 hac
          have hne0 : (((acc.length : Nat) : Int) == 0) = false := by simp; omega
          clear hac
          generalize hz : acc.length = zl at *
          go_wp2_with fail
          exact bodyPost_ret (v := .tuple #[.slice A zl c, .int .i64 ((k : Nat) : Int)]) (by simp [results, Tryz.results186, go_sem]) rfl ⟨A, zl, c, by rw [HE.out], by rw [HFR.out, ← hz]; exact Own.row spc_len (by rw [hz]; exact HO1.out.alloc _), HB1.out.alloc HB1.out.size _⟩
      | some x =>
        obtain ⟨g, n⟩ := x
        obtain ⟨hn1, hn2⟩ := HSL.out k _ _ hst
        simp only at hn1 hn2
        have HFR : Hid (bgsF f (acc ++ [g]) s.data.toList (k + n) = R) := Lib.hid (by rw [← HF.out, bgsF, if_pos h20, hst])
        rw [hst, ← hl0] at HC
        simp only [stpV] at HC
        clear hst hl0
        have hto : (((k + n : Nat) : Int) == (k : Int)) = false := by simp; omega
        have hto2 : ((k : Int) + (n : Int) == (k : Int)) = false := by simp; omega
        go_wp2_with fail
        refine HC.out.mono ?_
        rintro e w1 ⟨rfl, hb1⟩
        have HO1 := Lib.hid (HO.out.below hb1)
        have HB1 : Hid (Below w.heap.size w w1) := Lib.hid (HB.out.trans (hb1.mono HB.out.size))
        clear hb1
        have HAL : Hid (acc.length < 20) := Lib.hid h20
        go_wp2_with (at_builtin; refine wpList_append_row (base := w.heap.size) elStep rfl _ _ rfl rfl ((HO1.out.alloc _).alloc _) rfl (row_one spc_len (w1.alloc (stepO g)) (w1.heap.size + 1) (by simp) 71 #[.bool g.part, .string ⟨g.name.toArray⟩, .int .i64 g.n] g rfl) ?_ ?_ ?_ ?_)
        · have := HAL.out; unfold maxLen; simp only [List.length_singleton]; omega
        · have := HAL.out; simp only [List.length_singleton]; omega
        · have := HB1.out.size; simp; omega
        · intro A' c' w2 hown2 hg2 hwh
          clear hwh
          have HO2 : Hid (Own spc 3 71 w.heap.size w2 (.slice A' (acc.length + 1) c') (acc ++ [g])) := Lib.hid hown2
          have HB2 : Hid (Below w.heap.size w w2) := Lib.hid (((HB1.out.alloc HB1.out.size _).alloc (by have := HB1.out.size; simp; omega) _).trans (((HO1.out.alloc _).alloc _).kept hg2 (by have := HB1.out.size; simp; omega)))
          clear hown2 hg2
          have HAL2 : Hid ((acc ++ [g]).length ≤ 20) := Lib.hid (by have := HAL.out; simp; omega)
          generalize hz : acc.length + 1 = zl at HO2 ⊢
          go_wp2_with fail
          refine ⟨⟨k + n, f, acc ++ [g], by omega, by omega, HAL2.out, by first | rfl | rw [Int.natCast_add], fun h => by simp at h, HO2.out, HFR, HB2⟩, ?_⟩
          simp [intOf]; omega
    · have HFR : Hid (R = (acc, k)) := Lib.hid (by rw [← HF.out, bgsF, if_neg h20])
      have hac : acc ≠ [] := by intro e; rw [e] at h20; simp at h20
      have HE : Hid ((if R.1 = [] ∧ s.data.toList[i]? = some 46 then i + 1 else R.2) = k) := Lib.hid (by rw [HFR.out, if_neg (by rintro ⟨h, -⟩; exact hac h)])
      have hne0 : (((acc.length : Nat) : Int) == 0) = false := by simp; omega
      clear hac
      generalize hz : acc.length = zl at *
      go_wp2_with fail
      exact bodyPost_ret (v := .tuple #[.slice A zl c, .int .i64 ((k : Nat) : Int)]) (by simp [results, Tryz.results186, go_sem]) rfl ⟨A, zl, c, by rw [HE.out], by rw [HFR.out, ← hz]; exact Own.row spc_len (by rw [hz]; exact HO.out), HB.out⟩
set_option maxRecDepth 100000 in
set_option maxHeartbeats 8000000 in
theorem refReadP_any (s : ByteArray) (w : World) (hs : s.size ≤ 1000000) :
    Calls Tryz.prog 131 #[.string s] w (ReadE w (readP s.data.toList)) := by
  have HBG := Lib.hid (refBegins_any s 0 w hs (Nat.zero_le _))
  by_cases hd : s.data.toList = [46]
  · have hz : s.size = 1 := by rw [← size_toList, hd]; rfl
    have HR : Hid (readP s.data.toList = ([], 0, 0)) := Lib.hid (by unfold readP; rw [if_pos hd])
    have hq : (s.toList == [46]) = true := by rw [ByteArray.toList_eq, hd]; rfl
    have HBN : Hid (bgsF (s.size + 1) [] s.data.toList 0 = ([], 0)) := Lib.hid (by
      rw [hd, bgsF, if_pos (by decide)]
      have : stepR (([46] : List UInt8).drop 0) (([] : List St).length == 0) = none := by rfl
      rw [this])
    rw [HBN.out] at HBG
    generalize readP s.data.toList = R at *
    go_enter Tryz.func131, Tryz.ntmps131
    go_wp2_with fail
    refine HBG.out.mono ?_
    rintro e w1 ⟨A, n, c, rfl, hl, hb⟩
    go_wp2_with fail
    exact bodyPost_ret (v := .tuple #[.slice A n c, .int .i64 0, .int .i64 0]) (by simp [results, Tryz.results131, go_sem]) rfl ⟨A, n, c, by rw [HR.out]; rfl, by rw [HR.out]; exact hl, hb⟩
  · have HR : Hid (readP s.data.toList = endR s.data.toList (bgsF (s.size + 1) [] s.data.toList 0)) := Lib.hid (by rw [readR_eq _ hd, size_toList])
    have hq : (s.toList == [46]) = false := by
      rw [ByteArray.toList_eq, beq_eq_false_iff_ne]
      exact hd
    generalize readP s.data.toList = R at *
    generalize hB : bgsF (s.size + 1) [] s.data.toList 0 = B at *
    obtain ⟨p, at0⟩ := B
    clear hB hd
    go_enter Tryz.func131, Tryz.ntmps131
    go_wp2_with fail
    refine HBG.out.mono ?_
    rintro e w1 ⟨A, n, c, rfl, hl, hb⟩
    have hn : n = p.length := by
      obtain ⟨B, d, hv, -⟩ := hl
      injection hv
    have HL := Lib.hid hl
    have HB := Lib.hid hb
    clear hl hb
    by_cases hp : p = []
    · have hn0 : n = 0 := by rw [hn, hp]; rfl
      have HE : Hid (R = ([], 0, 1)) := Lib.hid (by rw [HR.out]; unfold endR; rw [if_pos hp])
      generalize (if p = [] ∧ s.data.toList[0]? = some 46 then 0 + 1 else at0) = pl
      clear HR hn hp
      subst hn0
      go_wp2_with fail
      exact bodyPost_ret (v := .tuple #[.slice none 0 0, .int .i64 0, .int .i64 1]) (by simp [results, Tryz.results131, go_sem]) rfl ⟨none, 0, 0, by rw [HE.out]; rfl, by rw [HE.out]; exact Row.nil _, HB.out⟩
    · have hpos : 0 < n := by rw [hn]; exact List.length_pos_iff.2 hp
      have hn0 : ((n : Int) == 0) = false := by simp; omega
      rw [show (if p = [] ∧ s.data.toList[0]? = some 46 then 0 + 1 else at0) = at0 from if_neg (fun h => hp h.1)]
      by_cases hlt : at0 < s.size
      · have HE : Hid (R = ([], at0, 1)) := Lib.hid (by rw [HR.out]; unfold endR; rw [if_neg hp, if_pos (by rw [size_toList]; exact hlt)])
        clear HR hp hn
        go_wp2_with fail
        exact bodyPost_ret (v := .tuple #[.slice none 0 0, .int .i64 (at0 : Int), .int .i64 1]) (by simp [results, Tryz.results131, go_sem]) rfl ⟨none, 0, 0, by rw [HE.out], by rw [HE.out]; exact Row.nil _, HB.out⟩
      · have HE : Hid (R = (p, 0, 0)) := Lib.hid (by rw [HR.out]; unfold endR; rw [if_neg hp, if_neg (by rw [size_toList]; exact hlt)])
        clear HR hp hn
        go_wp2_with fail
        exact bodyPost_ret (v := .tuple #[.slice A n c, .int .i64 0, .int .i64 0]) (by simp [results, Tryz.results131, go_sem]) rfl ⟨A, n, c, by rw [HE.out]; rfl, by rw [HE.out]; exact HL.out, HB.out⟩
end Go.Proofs.YtdgcdemihalefaaGreatDoor
