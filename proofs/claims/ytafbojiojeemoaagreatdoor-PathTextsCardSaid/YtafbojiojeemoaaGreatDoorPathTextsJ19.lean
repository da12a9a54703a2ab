/-
  Joined: PR2, PT5a, PT5b, PT5c, PT5d, PT5e.
-/
import Derived.Test.YtafbojiojeemoaaGreatDoorPathTextsJ4
import Derived.Test.YtafbojiojeemoaaGreatDoorPathTextsJ5
import Derived.Test.YtafbojiojeemoaaGreatDoorPathTextsJ9
import Derived.Test.YtafbojiojeemoaaGreatDoorPathTextsJ7
import Derived.Deep.RegionHeld3
import Derived.Deep.RegionLaw

/-
  Plain words: the document's own reading of a path is the program's. No program stands here.
-/
namespace Go.Proofs.YtafbojiojeemoaaGreatDoor
namespace Pw
open Go.RowKit Np Rw Vp Up Qp

/-- The steps that a text begins with at a place, and the place behind them. -/
def bgsF : Nat → List St → List UInt8 → Nat → List St × Nat
  | 0, acc, _, i => (acc, i)
  | f + 1, acc, l, i => if acc.length < 20 then match stepR (l.drop i) (acc.length == 0) with
      | none => (acc, i)
      | some x => bgsF f (acc ++ [x.1]) l (i + x.2)
    else (acc, i)
/-- What comes of the steps: the path, or where it is none. -/
def endR (l : List UInt8) (x : List St × Nat) : List St × Nat × Int := if x.1 = [] then ([], 0, 1) else if x.2 < l.length then ([], x.2, 1) else (x.1, 0, 0)
theorem bgsF_le : ∀ (f : Nat) (acc : List St) (l : List UInt8) (i : Nat), i ≤ l.length → (bgsF f acc l i).2 ≤ l.length
  | 0, acc, l, i, hi => hi
  | f + 1, acc, l, i, hi => by
    rw [bgsF]
    split
    · split
      · exact hi
      · rename_i x hx
        rw [step_eq] at hx
        have := bgn_len (g := x.1) (n := x.2) hx
        rw [List.length_drop] at this
        exact bgsF_le f _ l _ (by omega)
    · exact hi
/-- Both readings end alike. -/
theorem read_ends : ∀ (f : Nat) (acc : List St) (l : List UInt8) (i : Nat), i ≤ l.length → (i = l.length → acc = []) → l.length < i + f → (i = 0 ↔ acc = []) → acc.length ≤ 20 → Pw.readF f acc l i = endR l (bgsF f acc l i)
  | 0, acc, l, i, hi, _, hf, _, _ => by omega
  | f + 1, acc, l, i, hi, hne, hf, h0, h20 => by
    rw [Pw.readF, bgsF]
    have hfst : (i == 0) = (acc.length == 0) := by
      rw [Bool.eq_iff_iff, beq_iff_eq, beq_iff_eq, h0]
      exact ⟨fun h => by rw [h]; rfl, fun h => List.eq_nil_of_length_eq_zero h⟩
    rw [hfst, ← step_eq]
    cases hs : stepR (l.drop i) (acc.length == 0) with
    | none =>
      simp only
      have hE : endR l (acc, i) = ([], i, 1) := by
        unfold endR
        by_cases ha : acc = []
        · rw [if_pos ha, h0.2 ha]
        · rw [if_neg ha, if_pos]
          rcases Nat.lt_or_ge i l.length with h | h
          · exact h
          · exact absurd (hne (by omega)) ha
      split <;> exact hE.symm
    | some x =>
      simp only
      have hl := bgn_len (g := x.1) (n := x.2) (by rw [← step_eq]; exact hs)
      rw [List.length_drop] at hl
      by_cases ha : acc.length = 20
      · rw [if_pos ha, if_neg (by omega)]
        unfold endR
        have hna : acc ≠ [] := by intro e; rw [e] at ha; simp at ha
        rw [if_neg hna, if_pos (by simp only; omega)]
      · rw [if_neg ha, if_pos (show acc.length < 20 by omega)]
        by_cases he : i + x.2 = l.length
        · rw [if_pos he]
          have hb : bgsF f (acc ++ [x.1]) l (i + x.2) = (acc ++ [x.1], i + x.2) := by
            cases f with
            | zero => rfl
            | succ f =>
              rw [bgsF]
              have : l.drop (i + x.2) = [] := List.drop_of_length_le (by omega)
              rw [this]
              have hn : stepR [] ((acc ++ [x.1]).length == 0) = none := rfl
              rw [hn]
              simp
          rw [hb]
          unfold endR
          rw [if_neg (by simp), if_neg (by simp only; omega)]
        · rw [if_neg he]
          exact read_ends f (acc ++ [x.1]) l (i + x.2) (by omega) (fun h => absurd h he) (by omega) ⟨fun h => by omega, fun h => by simp at h⟩ (by simp; omega)
/-- The document's reading of a text. -/
theorem readR_eq (l : List UInt8) (h : l ≠ [46]) : readP l = endR l (bgsF (l.length + 1) [] l 0) := by
  unfold readP
  rw [if_neg h]
  exact read_ends _ _ _ _ (Nat.zero_le _) (fun _ => rfl) (by omega) ⟨fun _ => rfl, fun _ => rfl⟩ (by simp)
end Pw
end Go.Proofs.YtafbojiojeemoaaGreatDoor

/-
  The document's own step at a place: plain words, and its walk.
-/
namespace Go.Proofs.YtafbojiojeemoaaGreatDoor
open Go.RowKit Np Rw Vp Up Qp Pw

/-- What step answers. -/
def stpV (i : Nat) : Option (St × Nat) → Value
  | none => .tuple #[sta ⟨false, [], 0⟩, .int .i64 i]
  | some x => .tuple #[sta x.1, .int .i64 (i + x.2 : Nat)]
theorem isW_take {r : List UInt8} {j : Nat} (hj : j < r.length) : isW (r.take (j + 1)) = true ↔ ∀ t, t ≤ j → okAt r t = true := by
  have hl : (r.take (j + 1)).length = j + 1 := by rw [List.length_take]; omega
  have hat : ∀ t, t < j + 1 → okAt (r.take (j + 1)) t = okAt r t := fun t ht => by
    unfold okAt
    rw [List.getElem?_take, if_pos ht]
  constructor
  · intro h t ht
    cases hk : okAt r t with
    | true => rfl
    | false =>
      exfalso
      have key : ∀ n, n ≤ j → okAt r n = false → False := by
        intro n
        induction n using Nat.strongRecOn with
        | _ n ih =>
          intro hn hb
          by_cases hall : ∀ m, m < n → okAt r m = true
          · have := isW_bad (l := r.take (j + 1)) (k := n) (by omega) (fun m hm => by rw [hat m (by omega)]; exact hall m hm) (by rw [hat n (by omega)]; exact hb)
            rw [this] at h; cases h
          · have hall2 : ∃ m, m < n ∧ ¬ okAt r m = true := by
              apply Classical.byContradiction
              intro hc
              exact hall (fun m hm => Classical.byContradiction (fun hx => hc ⟨m, hm, hx⟩))
            obtain ⟨m, hm, hx⟩ := hall2
            exact ih m hm (by omega) (by simpa using hx)
      exact key t ht hk
  · intro h
    exact isW_all (by intro e; rw [e] at hl; simp at hl) (fun t ht => by rw [hl] at ht; rw [hat t ht]; exact h t (by omega))
theorem step_word {r : List UInt8} {j : Nat} (hj : j ≤ r.length) (h0 : 0 < j) (h1 : ∀ t, t < j → okAt r t = true) (h2 : okAt r j = false) : fieldR r = some (⟨false, r.take j, 0⟩, j) := by
  have hw := wrd_of hj h1 h2
  have hl : (r.take j).length = j := by rw [List.length_take]; omega
  unfold fieldR
  rw [hw, if_pos (by intro e; rw [e] at hl; simp at hl; omega), hl]
theorem step_stop {r : List UInt8} {j : Nat} (hjr : j < r.length) (h1 : ∀ t, t < j → okAt r t = true) (hw : isW (r.take (j + 1)) = false) : okAt r j = false := by
  cases h : okAt r j with
  | false => rfl
  | true =>
    have := (isW_take hjr).2 (fun t ht => by
      by_cases e : t < j
      · exact h1 t e
      · obtain rfl : t = j := by omega
        exact h)
    rw [this] at hw; cases hw
/-- What a region of step holds fast: the step that was laid, and what lay below. -/
def Qs (w w' : World) : Prop := w'.heap[w.heap.size]? = some stepZ ∧ Below w.heap.size w w'
theorem Qs.step {w w' w'' : World} (h : Qs w w') (hb : Below w'.heap.size w' w'') : Qs w w'' := by
  obtain ⟨h1, h2⟩ := h
  have hs : w.heap.size < w'.heap.size := (Array.getElem?_eq_some_iff.1 h1).1
  exact ⟨(hb.block _ hs).trans h1, h2.trans (hb.mono h2.size)⟩
theorem Qs.cells {w w' : World} (h : Qs w w') : w'.cell? ⟨w.heap.size, 0, none⟩ = some (.bool false) ∧ w'.cell? ⟨w.heap.size, 1, none⟩ = some (.string ⟨#[]⟩) ∧ w'.cell? ⟨w.heap.size, 2, none⟩ = some (.int .i64 0) ∧ (∀ o, w'.frozen? ⟨w.heap.size, o, none⟩ = false) ∧ w.heap.size < w'.heap.size := by
  obtain ⟨zz, -⟩ := h
  refine ⟨?_, ?_, ?_, fun o => Lib.frozen_of_heap zz o, (Array.getElem?_eq_some_iff.1 zz).1⟩ <;> (rw [Lib.cell_of_heap zz]; rfl)
end Go.Proofs.YtafbojiojeemoaaGreatDoor

/-
  The document's own step at a place: plain words, and its walk.
-/
namespace Go.Proofs.YtafbojiojeemoaaGreatDoor
open Go.RowKit Np Rw Vp Up Qp Pw

set_option maxRecDepth 100000 in
set_option maxHeartbeats 8000000 in
theorem refStep_qBad (s : ByteArray) (i : Nat) (first : Bool) (w : World) (hs : s.size ≤ 1000000) (hlt3 : i + 1 < s.size) (h46 : s[i]'(by omega) = 46) (h34 : s[i + 1] = 34) (nm : List UInt8) (n : Nat) (ee : Int) (hu : unqs (s.data.toList.drop (i + 1)) = (nm, n, ee)) (hee : ¬ ee = 0) :
    Calls Tryz.prog 84 #[.string s, .int .i64 i, .bool first] w fun e w' => e = .returned (stpV i (none)) ∧ Below w.heap.size w w' := by
  have hb0 : Below w.heap.size w (w.alloc (.cells #[.bool false, .string ⟨#[]⟩, .int .i64 0] 74)) := (Below.refl _ _).alloc (Nat.le_refl _) _
  have HB0 := Lib.hid hb0
  clear hb0
  have hlt : i < s.size := by omega
  have h46b : ((s[i].toNat : Int) == 46) = true := by rw [h46]; rfl
  have h91b : ((s[i + 1].toNat : Int) == 91) = false := by rw [h34]; rfl
  have h91c : ((s[i + 1].toNat : Int) != 91) = true := by rw [h34]; rfl
  have HEX : Hid (∀ m, (s.extract (i + 1) (i + 1 + m)).data.toList = (s.data.toList.drop (i + 1)).take m) := Lib.hid (fun m => by
    have h := Lib.extract_toList s (i + 1) (i + 1 + m)
    rw [ByteArray.toList_eq, Nat.add_sub_cancel_left] at h
    exact h)
  have HRL : Hid ((s.data.toList.drop (i + 1)).length = s.size - (i + 1)) := Lib.hid (by rw [List.length_drop, size_toList])
  have hr2 : s.data.toList.drop (i + 1) = 34 :: s.data.toList.drop (i + 1 + 1) := by
    rw [List.drop_eq_getElem_cons (by rw [size_toList]; exact hlt3)]
    have : s.data.toList[i + 1]'(by rw [size_toList]; exact hlt3) = 34 := h34
    rw [this]
  have HWJ : Hid (∀ W, Calls Tryz.prog 52 #[.string (s.extract (i + 1) (i + 1 + 1))] W fun e w' => e = .returned (.bool false) ∧ w' = W) := Lib.hid (fun W => by
    have h := refWordP_any (s.extract (i + 1) (i + 1 + 1)) W (by rw [ByteArray.size_extract]; unfold maxLen; omega)
    rw [HEX.out 1, hr2] at h
    exact h)
  have HUQ : Hid (∀ W, Calls Tryz.prog 61 #[.string (s.extract (i + 1) s.size)] W fun e w' => e = .returned (.tuple #[.string ⟨nm.toArray⟩, .int .i64 (n : Int), .int .i64 ee]) ∧ Below W.heap.size W w') := Lib.hid (fun W => by
    have h := refUnquote_any (s.extract (i + 1) s.size) W (by rw [ByteArray.size_extract]; omega)
    have e : (s.extract (i + 1) s.size).data.toList = s.data.toList.drop (i + 1) := by
      have := HEX.out (s.size - (i + 1))
      rw [show i + 1 + (s.size - (i + 1)) = s.size by omega] at this
      rw [this, List.take_of_length_le (by rw [HRL.out]; omega)]
    rw [e, hu] at h
    exact h)
  have hgood := unqs_good (s.data.toList.drop (i + 1))
  have hnl := unqs_len (s.data.toList.drop (i + 1))
  rw [hu] at hgood hnl
  simp only at hgood hnl
  have hRL := HRL.out
  have heb : (ee == 0) = false := by simpa using hee
  clear h46 h34 hr2 HRL hRL hgood hnl hu HEX
  go_enter Tryz.func84, Tryz.ntmps84
  go_wp2_with fail
  go_loopw [9] (fun kv wr => kv = .int .i64 ((i + 1 : Nat) : Int) ∧ wr = w.alloc stepZ) (fun kv _ => s.size - (intOf kv).toNat)
  case atStart => exact ⟨by simp, rfl⟩
  case round =>
    obtain ⟨rfl, rfl⟩ := hrel
    go_wp2_with fail
    refine (HWJ.out _).mono ?_
    rintro e wf ⟨rfl, rfl⟩
    go_wp2_with fail
    refine (HUQ.out _).mono ?_
    rintro e w1 ⟨rfl, hb1⟩
    have HB1 : Hid (Below w.heap.size w w1) := Lib.hid (HB0.out.trans (hb1.mono HB0.out.size))
    obtain ⟨hz4, k0, k1, k2, hfz, hfz2⟩ := new_step (W := w.alloc stepZ) (b := w.heap.size) (heap_alloc_new w stepZ) hb1
    clear hb1
    cases first with
    | false =>
      go_upto_region 10 with fail
      go_quiet (fail)
      go_wp2_with fail
      all_goals exact bodyPost_ret (v := .tuple #[sta ⟨false, [], 0⟩, .int .i64 (i : Int)]) (by simp [results, Tryz.results84, go_sem, k0, k1, k2]) rfl ⟨rfl, by first | exact ((HB1.out.setCell (Nat.le_refl _) _).setCell (Nat.le_refl _) _).setCell (Nat.le_refl _) _ | exact (((drewN_below HB1.out _).setCell (Nat.le_refl _) _).setCell (Nat.le_refl _) _).setCell (Nat.le_refl _) _ | exact drewN_below HB1.out _ | trace_state⟩
    | true =>
      go_upto_region 10 with fail
      go_quiet (fail)
      go_wp2_with fail
      all_goals exact bodyPost_ret (v := .tuple #[sta ⟨false, [], 0⟩, .int .i64 (i : Int)]) (by simp [results, Tryz.results84, go_sem, k0, k1, k2]) rfl ⟨rfl, by first | exact ((HB1.out.setCell (Nat.le_refl _) _).setCell (Nat.le_refl _) _).setCell (Nat.le_refl _) _ | exact (((drewN_below HB1.out _).setCell (Nat.le_refl _) _).setCell (Nat.le_refl _) _).setCell (Nat.le_refl _) _ | exact drewN_below HB1.out _ | trace_state⟩
end Go.Proofs.YtafbojiojeemoaaGreatDoor

/-
  The document's own step at a place: plain words, and its walk.
-/
namespace Go.Proofs.YtafbojiojeemoaaGreatDoor
open Go.RowKit Np Rw Vp Up Qp Pw

set_option maxRecDepth 100000 in
set_option maxHeartbeats 8000000 in
theorem refStep_qWord (s : ByteArray) (i : Nat) (first : Bool) (w : World) (hs : s.size ≤ 1000000) (hlt3 : i + 1 < s.size) (h46 : s[i]'(by omega) = 46) (h34 : s[i + 1] = 34) (nm : List UInt8) (n : Nat) (ee : Int) (hu : unqs (s.data.toList.drop (i + 1)) = (nm, n, ee)) (hee : ee = 0) (hW : isW nm = true) :
    Calls Tryz.prog 84 #[.string s, .int .i64 i, .bool first] w fun e w' => e = .returned (stpV i (none)) ∧ Below w.heap.size w w' := by
  have hb0 : Below w.heap.size w (w.alloc (.cells #[.bool false, .string ⟨#[]⟩, .int .i64 0] 74)) := (Below.refl _ _).alloc (Nat.le_refl _) _
  have HB0 := Lib.hid hb0
  clear hb0
  have hlt : i < s.size := by omega
  have h46b : ((s[i].toNat : Int) == 46) = true := by rw [h46]; rfl
  have h91b : ((s[i + 1].toNat : Int) == 91) = false := by rw [h34]; rfl
  have h91c : ((s[i + 1].toNat : Int) != 91) = true := by rw [h34]; rfl
  have HEX : Hid (∀ m, (s.extract (i + 1) (i + 1 + m)).data.toList = (s.data.toList.drop (i + 1)).take m) := Lib.hid (fun m => by
    have h := Lib.extract_toList s (i + 1) (i + 1 + m)
    rw [ByteArray.toList_eq, Nat.add_sub_cancel_left] at h
    exact h)
  have HRL : Hid ((s.data.toList.drop (i + 1)).length = s.size - (i + 1)) := Lib.hid (by rw [List.length_drop, size_toList])
  have hr2 : s.data.toList.drop (i + 1) = 34 :: s.data.toList.drop (i + 1 + 1) := by
    rw [List.drop_eq_getElem_cons (by rw [size_toList]; exact hlt3)]
    have : s.data.toList[i + 1]'(by rw [size_toList]; exact hlt3) = 34 := h34
    rw [this]
  have HWJ : Hid (∀ W, Calls Tryz.prog 52 #[.string (s.extract (i + 1) (i + 1 + 1))] W fun e w' => e = .returned (.bool false) ∧ w' = W) := Lib.hid (fun W => by
    have h := refWordP_any (s.extract (i + 1) (i + 1 + 1)) W (by rw [ByteArray.size_extract]; unfold maxLen; omega)
    rw [HEX.out 1, hr2] at h
    exact h)
  have HUQ : Hid (∀ W, Calls Tryz.prog 61 #[.string (s.extract (i + 1) s.size)] W fun e w' => e = .returned (.tuple #[.string ⟨nm.toArray⟩, .int .i64 (n : Int), .int .i64 ee]) ∧ Below W.heap.size W w') := Lib.hid (fun W => by
    have h := refUnquote_any (s.extract (i + 1) s.size) W (by rw [ByteArray.size_extract]; omega)
    have e : (s.extract (i + 1) s.size).data.toList = s.data.toList.drop (i + 1) := by
      have := HEX.out (s.size - (i + 1))
      rw [show i + 1 + (s.size - (i + 1)) = s.size by omega] at this
      rw [this, List.take_of_length_le (by rw [HRL.out]; omega)]
    rw [e, hu] at h
    exact h)
  have hgood := unqs_good (s.data.toList.drop (i + 1))
  have hnl := unqs_len (s.data.toList.drop (i + 1))
  rw [hu] at hgood hnl
  simp only at hgood hnl
  have hRL := HRL.out
  have HWM : Hid (∀ W, Calls Tryz.prog 52 #[.string ⟨nm.toArray⟩] W fun e w' => e = .returned (.bool true) ∧ Below W.heap.size W w') := Lib.hid (fun W => by
    have h := refWordP_any ⟨nm.toArray⟩ W (by rw [mk_size]; have := hnl hee; unfold maxLen; omega)
    rw [mk_data, hW] at h
    exact h.mono fun e w' ⟨h1, h2⟩ => ⟨h1, by rw [h2]; exact Below.refl _ _⟩)
  subst hee
  clear h46 h34 hr2 HRL hRL hgood hnl hu HEX
  go_enter Tryz.func84, Tryz.ntmps84
  go_wp2_with fail
  go_loopw [9] (fun kv wr => kv = .int .i64 ((i + 1 : Nat) : Int) ∧ wr = w.alloc stepZ) (fun kv _ => s.size - (intOf kv).toNat)
  case atStart => exact ⟨by simp, rfl⟩
  case round =>
    obtain ⟨rfl, rfl⟩ := hrel
    go_wp2_with fail
    refine (HWJ.out _).mono ?_
    rintro e wf ⟨rfl, rfl⟩
    go_wp2_with fail
    refine (HUQ.out _).mono ?_
    rintro e w1 ⟨rfl, hb1⟩
    have HB1 : Hid (Below w.heap.size w w1) := Lib.hid (HB0.out.trans (hb1.mono HB0.out.size))
    obtain ⟨hz4, k0, k1, k2, hfz, hfz2⟩ := new_step (W := w.alloc stepZ) (b := w.heap.size) (heap_alloc_new w stepZ) hb1
    clear hb1
    have HQS : Hid (Qs w w1) := Lib.hid ⟨hfz2, HB1.out⟩
    have HQD : Hid (Qs w w1.drew) := Lib.hid (Qs.step HQS.out (Below.refl _ _).drew)
    clear hfz2 hz4 k0 k1 k2 hfz
    go_upto_region 10 with fail
    refine wp_region_held_drew (S := (fun w' => w'.heap[w.heap.size]? = some stepZ ∧ Below w.heap.size w w')) (by kernel_rfl) (HQD.out) (fun hH => ?_)
    refine wpAnyH_take (i := 0) (v := .int .i64 0) rfl (by kernel_rfl) (by kernel_rfl) (by kernel_rfl) (fun _ _ _ h => h) (Or.inl ⟨by kernel_rfl, ?_⟩) (by assumption) ?_
    · intro w' hSw; (try dsimp only at hSw); go_simp
    try simp only [Act.put, List.getElem_toArray, List.getElem_cons_zero, List.setIfInBounds_toArray, List.set_cons_zero, List.set_cons_succ]
    refine wpAnyH_take (i := 1) (v := .bool true) rfl (by kernel_rfl) (by kernel_rfl) (by kernel_rfl) (fun _ _ _ h => h) (Or.inl ⟨by kernel_rfl, ?_⟩) (by assumption) ?_
    · intro w' hSw; (try dsimp only at hSw); go_simp
    try simp only [Act.put, List.getElem_toArray, List.getElem_cons_succ, List.getElem_cons_zero, List.setIfInBounds_toArray, List.set_cons_zero, List.set_cons_succ]
    refine wpAnyH_take (i := 2) (v := .bool true) rfl (by kernel_rfl) (by kernel_rfl) (by kernel_rfl) (fun _ _ _ h => h) (Or.inl ⟨by kernel_rfl, ?_⟩) (by assumption) ?_
    · intro w' hSw; (try dsimp only at hSw); go_simp
    try simp only [Act.put, List.getElem_toArray, List.getElem_cons_succ, List.getElem_cons_zero, List.setIfInBounds_toArray, List.set_cons_zero, List.set_cons_succ]
    refine wpAnyH_take (i := 3) (v := .string ⟨nm.toArray⟩) rfl (by kernel_rfl) (by kernel_rfl) (by kernel_rfl) (fun _ _ _ h => h) (Or.inl ⟨by kernel_rfl, ?_⟩) (by assumption) ?_
    · intro w' hSw; (try dsimp only at hSw); go_simp
    try simp only [Act.put, List.getElem_toArray, List.getElem_cons_succ, List.getElem_cons_zero, List.setIfInBounds_toArray, List.set_cons_zero, List.set_cons_succ]
    refine wpAnyH_ready (rs := [4]) (by kernel_rfl) (by simp) ?_
    refine AllReadyH.cons rfl (fun K4 hK4 => ?_) AllReadyH.nil
    go_simp
    go_at_call 52
    refine (HWM.out _).mono ?_
    rintro e w3 ⟨rfl, hb3⟩
    go_wp2_with fail
    refine hK4.out _ _ (Qs.step HQD.out hb3) (fun hHeld4 => ?_)
    clear hK4 K4
    try simp only [Act.put, List.getElem_toArray, List.getElem_cons_succ, List.getElem_cons_zero, List.setIfInBounds_toArray, List.set_cons_zero, List.set_cons_succ]
    refine wpAnyH_take (i := 5) (v := .bool false) rfl (by kernel_rfl) (by kernel_rfl) (by kernel_rfl) (fun _ _ _ h => h) (Or.inl ⟨by kernel_rfl, ?_⟩) (by assumption) ?_
    · intro w' hSw; (try dsimp only at hSw); go_simp
    try simp only [Act.put, List.getElem_toArray, List.getElem_cons_succ, List.getElem_cons_zero, List.setIfInBounds_toArray, List.set_cons_zero, List.set_cons_succ]
    refine wpAnyH_take (i := 6) (v := .bool false) rfl (by kernel_rfl) (by kernel_rfl) (by kernel_rfl) (fun _ _ _ h => h) (Or.inl ⟨by kernel_rfl, ?_⟩) (by assumption) ?_
    · intro w' hSw; (try dsimp only at hSw); go_simp
    try simp only [Act.put, List.getElem_toArray, List.getElem_cons_succ, List.getElem_cons_zero, List.setIfInBounds_toArray, List.set_cons_zero, List.set_cons_succ]
    refine wpAnyH_take (i := 7) (v := .bool false) rfl (by kernel_rfl) (by kernel_rfl) (by kernel_rfl) (fun _ _ _ h => h) (Or.inl ⟨by kernel_rfl, ?_⟩) (by assumption) ?_
    · intro w' hSw; (try dsimp only at hSw); go_simp
    try simp only [Act.put, List.getElem_toArray, List.getElem_cons_succ, List.getElem_cons_zero, List.setIfInBounds_toArray, List.set_cons_zero, List.set_cons_succ]
    refine wpAnyH_take (i := 8) (v := undef) rfl (by kernel_rfl) (by kernel_rfl) (by kernel_rfl) (fun _ _ _ h => h) (Or.inr ⟨by kernel_rfl, rfl⟩) (by assumption) ?_
    try simp only [Act.put, List.getElem_toArray, List.getElem_cons_succ, List.getElem_cons_zero, List.setIfInBounds_toArray, List.set_cons_zero, List.set_cons_succ]
    refine wpAnyH_take (i := 9) (v := undef) rfl (by kernel_rfl) (by kernel_rfl) (by kernel_rfl) (fun _ _ _ h => h) (Or.inr ⟨by kernel_rfl, rfl⟩) (by assumption) ?_
    try simp only [Act.put, List.getElem_toArray, List.getElem_cons_succ, List.getElem_cons_zero, List.setIfInBounds_toArray, List.set_cons_zero, List.set_cons_succ]
    refine wpAnyH_take (i := 10) (v := undef) rfl (by kernel_rfl) (by kernel_rfl) (by kernel_rfl) (fun _ _ _ h => h) (Or.inr ⟨by kernel_rfl, rfl⟩) (by assumption) ?_
    try simp only [Act.put, List.getElem_toArray, List.getElem_cons_succ, List.getElem_cons_zero, List.setIfInBounds_toArray, List.set_cons_zero, List.set_cons_succ]
    refine wpAnyH_take (i := 11) (v := undef) rfl (by kernel_rfl) (by kernel_rfl) (by kernel_rfl) (fun _ _ _ h => h) (Or.inr ⟨by kernel_rfl, rfl⟩) (by assumption) ?_
    try simp only [Act.put, List.getElem_toArray, List.getElem_cons_succ, List.getElem_cons_zero, List.setIfInBounds_toArray, List.set_cons_zero, List.set_cons_succ]
    refine wpAnyH_take (i := 12) (v := undef) rfl (by kernel_rfl) (by kernel_rfl) (by kernel_rfl) (fun _ _ _ h => h) (Or.inr ⟨by kernel_rfl, rfl⟩) (by assumption) ?_
    try simp only [Act.put, List.getElem_toArray, List.getElem_cons_succ, List.getElem_cons_zero, List.setIfInBounds_toArray, List.set_cons_zero, List.set_cons_succ]
    refine wpAnyH_take (i := 13) (v := undef) rfl (by kernel_rfl) (by kernel_rfl) (by kernel_rfl) (fun _ _ _ h => h) (Or.inr ⟨by kernel_rfl, rfl⟩) (by assumption) ?_
    try simp only [Act.put, List.getElem_toArray, List.getElem_cons_succ, List.getElem_cons_zero, List.setIfInBounds_toArray, List.set_cons_zero, List.set_cons_succ]
    refine wpAnyH_take (i := 14) (v := undef) rfl (by kernel_rfl) (by kernel_rfl) (by kernel_rfl) (fun _ _ _ h => h) (Or.inr ⟨by kernel_rfl, rfl⟩) (by assumption) ?_
    try simp only [Act.put, List.getElem_toArray, List.getElem_cons_succ, List.getElem_cons_zero, List.setIfInBounds_toArray, List.set_cons_zero, List.set_cons_succ]
    refine wpAnyH_take (i := 15) (v := undef) rfl (by kernel_rfl) (by kernel_rfl) (by kernel_rfl) (fun _ _ _ h => h) (Or.inr ⟨by kernel_rfl, rfl⟩) (by assumption) ?_
    try simp only [Act.put, List.getElem_toArray, List.getElem_cons_succ, List.getElem_cons_zero, List.setIfInBounds_toArray, List.set_cons_zero, List.set_cons_succ]
    refine wpAnyH_take (i := 16) (v := undef) rfl (by kernel_rfl) (by kernel_rfl) (by kernel_rfl) (fun _ _ _ h => h) (Or.inr ⟨by kernel_rfl, rfl⟩) (by assumption) ?_
    try simp only [Act.put, List.getElem_toArray, List.getElem_cons_succ, List.getElem_cons_zero, List.setIfInBounds_toArray, List.set_cons_zero, List.set_cons_succ]
    refine wpAnyH_take (i := 17) (v := .bool false) rfl (by kernel_rfl) (by kernel_rfl) (by kernel_rfl) (fun _ _ _ h => h) (Or.inl ⟨by kernel_rfl, ?_⟩) (by assumption) ?_
    · intro w' hSw; (try dsimp only at hSw); go_simp
    try simp only [Act.put, List.getElem_toArray, List.getElem_cons_succ, List.getElem_cons_zero, List.setIfInBounds_toArray, List.set_cons_zero, List.set_cons_succ]
    refine wpAnyH_done (by kernel_rfl) ?_ _
    obtain ⟨k0, k1, k2, hfz, hz4⟩ := Qs.cells (by assumption : Qs w w3)
    have HB9 := Lib.hid (by assumption : Qs w w3).2
    cases first with
    | true =>
      go_wp2_with fail
      all_goals exact bodyPost_ret (v := .tuple #[sta ⟨false, [], 0⟩, .int .i64 (i : Int)]) (by simp [results, Tryz.results84, go_sem, k0, k1, k2]) rfl ⟨rfl, by first | exact ((HB9.out.setCell (Nat.le_refl _) _).setCell (Nat.le_refl _) _).setCell (Nat.le_refl _) _ | exact (((drewN_below HB9.out _).setCell (Nat.le_refl _) _).setCell (Nat.le_refl _) _).setCell (Nat.le_refl _) _ | exact drewN_below HB9.out _ | trace_state⟩
    | false =>
      go_wp2_with fail
      all_goals exact bodyPost_ret (v := .tuple #[sta ⟨false, [], 0⟩, .int .i64 (i : Int)]) (by simp [results, Tryz.results84, go_sem, k0, k1, k2]) rfl ⟨rfl, by first | exact ((HB9.out.setCell (Nat.le_refl _) _).setCell (Nat.le_refl _) _).setCell (Nat.le_refl _) _ | exact (((drewN_below HB9.out _).setCell (Nat.le_refl _) _).setCell (Nat.le_refl _) _).setCell (Nat.le_refl _) _ | exact drewN_below HB9.out _ | trace_state⟩
end Go.Proofs.YtafbojiojeemoaaGreatDoor

/-
  The document's own step at a place: plain words, and its walk.
-/
namespace Go.Proofs.YtafbojiojeemoaaGreatDoor
open Go.RowKit Np Rw Vp Up Qp Pw

set_option maxRecDepth 100000 in
set_option maxHeartbeats 8000000 in
theorem refStep_qGood (s : ByteArray) (i : Nat) (first : Bool) (w : World) (hs : s.size ≤ 1000000) (hlt3 : i + 1 < s.size) (h46 : s[i]'(by omega) = 46) (h34 : s[i + 1] = 34) (nm : List UInt8) (n : Nat) (ee : Int) (hu : unqs (s.data.toList.drop (i + 1)) = (nm, n, ee)) (hee : ee = 0) (hW : isW nm = false) (hq : quo nm = (s.data.toList.drop (i + 1)).take n) :
    Calls Tryz.prog 84 #[.string s, .int .i64 i, .bool first] w fun e w' => e = .returned (stpV i (some (⟨false, nm, 0⟩, n + 1))) ∧ Below w.heap.size w w' := by
  have hb0 : Below w.heap.size w (w.alloc (.cells #[.bool false, .string ⟨#[]⟩, .int .i64 0] 74)) := (Below.refl _ _).alloc (Nat.le_refl _) _
  have HB0 := Lib.hid hb0
  clear hb0
  have hlt : i < s.size := by omega
  have h46b : ((s[i].toNat : Int) == 46) = true := by rw [h46]; rfl
  have h91b : ((s[i + 1].toNat : Int) == 91) = false := by rw [h34]; rfl
  have h91c : ((s[i + 1].toNat : Int) != 91) = true := by rw [h34]; rfl
  have HEX : Hid (∀ m, (s.extract (i + 1) (i + 1 + m)).data.toList = (s.data.toList.drop (i + 1)).take m) := Lib.hid (fun m => by
    have h := Lib.extract_toList s (i + 1) (i + 1 + m)
    rw [ByteArray.toList_eq, Nat.add_sub_cancel_left] at h
    exact h)
  have HRL : Hid ((s.data.toList.drop (i + 1)).length = s.size - (i + 1)) := Lib.hid (by rw [List.length_drop, size_toList])
  have hr2 : s.data.toList.drop (i + 1) = 34 :: s.data.toList.drop (i + 1 + 1) := by
    rw [List.drop_eq_getElem_cons (by rw [size_toList]; exact hlt3)]
    have : s.data.toList[i + 1]'(by rw [size_toList]; exact hlt3) = 34 := h34
    rw [this]
  have HWJ : Hid (∀ W, Calls Tryz.prog 52 #[.string (s.extract (i + 1) (i + 1 + 1))] W fun e w' => e = .returned (.bool false) ∧ w' = W) := Lib.hid (fun W => by
    have h := refWordP_any (s.extract (i + 1) (i + 1 + 1)) W (by rw [ByteArray.size_extract]; unfold maxLen; omega)
    rw [HEX.out 1, hr2] at h
    exact h)
  have HUQ : Hid (∀ W, Calls Tryz.prog 61 #[.string (s.extract (i + 1) s.size)] W fun e w' => e = .returned (.tuple #[.string ⟨nm.toArray⟩, .int .i64 (n : Int), .int .i64 ee]) ∧ Below W.heap.size W w') := Lib.hid (fun W => by
    have h := refUnquote_any (s.extract (i + 1) s.size) W (by rw [ByteArray.size_extract]; omega)
    have e : (s.extract (i + 1) s.size).data.toList = s.data.toList.drop (i + 1) := by
      have := HEX.out (s.size - (i + 1))
      rw [show i + 1 + (s.size - (i + 1)) = s.size by omega] at this
      rw [this, List.take_of_length_le (by rw [HRL.out]; omega)]
    rw [e, hu] at h
    exact h)
  have hgood := unqs_good (s.data.toList.drop (i + 1))
  have hnl := unqs_len (s.data.toList.drop (i + 1))
  rw [hu] at hgood hnl
  simp only at hgood hnl
  have hRL := HRL.out
  have HWM : Hid (∀ W, Calls Tryz.prog 52 #[.string ⟨nm.toArray⟩] W fun e w' => e = .returned (.bool false) ∧ Below W.heap.size W w') := Lib.hid (fun W => by
    have h := refWordP_any ⟨nm.toArray⟩ W (by rw [mk_size]; have := hnl hee; unfold maxLen; omega)
    rw [mk_data, hW] at h
    exact h.mono fun e w' ⟨h1, h2⟩ => ⟨h1, by rw [h2]; exact Below.refl _ _⟩)
  have HQN : Hid (∀ W, Calls Tryz.prog 53 #[.string ⟨nm.toArray⟩] W fun e w' => e = .returned (.string ⟨(quo nm).toArray⟩) ∧ Below W.heap.size W w') := Lib.hid (fun W => by
    have h := refQuote_any ⟨nm.toArray⟩ W (by rw [mk_size]; have := hnl hee; omega)
    rw [mk_data] at h
    exact h)
  have hn2 : i + 1 + n ≤ s.size := by have := (hgood hee).2.1; omega
  have hwq : IntKind.i64.wrap ((i : Int) + 1 + (n : Int)) = (i : Int) + 1 + (n : Int) := IntWalk.i64_in _ ⟨by omega, by omega⟩
  have hq0 : 0 ≤ (i : Int) + 1 := by omega
  have hq1 : (i : Int) + 1 ≤ (i : Int) + 1 + (n : Int) := by omega
  have hq2 : (i : Int) + 1 + (n : Int) ≤ (s.size : Int) := by omega
  have hq3 : ((i : Int) + 1 + (n : Int)).toNat = i + 1 + n := by omega
  have hq4 : ((i : Int) + 1).toNat = i + 1 := by omega
  have hEQ : (quo nm == (s.extract (i + 1) (i + 1 + n)).toList) = true := by
    rw [ByteArray.toList_eq, HEX.out n, hq]
    simp
  clear hq
  subst hee
  clear h46 h34 hr2 HRL hRL hgood hnl hu HEX
  go_enter Tryz.func84, Tryz.ntmps84
  go_wp2_with fail
  go_loopw [9] (fun kv wr => kv = .int .i64 ((i + 1 : Nat) : Int) ∧ wr = w.alloc stepZ) (fun kv _ => s.size - (intOf kv).toNat)
  case atStart => exact ⟨by simp, rfl⟩
  case round =>
    obtain ⟨rfl, rfl⟩ := hrel
    go_wp2_with fail
    refine (HWJ.out _).mono ?_
    rintro e wf ⟨rfl, rfl⟩
    go_wp2_with fail
    refine (HUQ.out _).mono ?_
    rintro e w1 ⟨rfl, hb1⟩
    have HB1 : Hid (Below w.heap.size w w1) := Lib.hid (HB0.out.trans (hb1.mono HB0.out.size))
    obtain ⟨hz4, k0, k1, k2, hfz, hfz2⟩ := new_step (W := w.alloc stepZ) (b := w.heap.size) (heap_alloc_new w stepZ) hb1
    clear hb1
    have HQS : Hid (Qs w w1) := Lib.hid ⟨hfz2, HB1.out⟩
    clear hfz2 hz4 k0 k1 k2 hfz
    go_upto_region 10 with fail
    go_region_held3 (fun w' => w'.heap[w.heap.size]? = some stepZ ∧ Below w.heap.size w w') (first | exact Qs.step (by assumption : Qs w _) hb3 | exact Qs.step HQS.out (Below.refl _ _).drew | go_keep)
      (first
        | (go_at_call 52; refine (HWM.out _).mono ?_; rintro e w3 ⟨rfl, hb3⟩)
        | (go_at_call 53; refine (HQN.out _).mono ?_; rintro e w3 ⟨rfl, hb3⟩))
    obtain ⟨k0, k1, k2, hfz, hz4⟩ := Qs.cells (by assumption : Qs w _)
    have HB9 := Lib.hid (by assumption : Qs w _).2
    go_wp2_with fail
    exact bodyPost_ret (v := .tuple #[sta ⟨false, nm, 0⟩, .int .i64 ((i : Int) + 1 + (n : Int))]) (by simp [results, Tryz.results84, go_sem, k0, k1, k2]) rfl ⟨by show _ = Ending.returned (.tuple #[sta ⟨false, nm, 0⟩, .int .i64 ((i + (n + 1) : Nat) : Int)]); rw [show ((i + (n + 1) : Nat) : Int) = (i : Int) + 1 + (n : Int) by omega], ((HB9.out.setCell (Nat.le_refl _) _).setCell (Nat.le_refl _) _).setCell (Nat.le_refl _) _⟩
end Go.Proofs.YtafbojiojeemoaaGreatDoor

/-
  The document's own step at a place: plain words, and its walk.
-/
namespace Go.Proofs.YtafbojiojeemoaaGreatDoor
open Go.RowKit Np Rw Vp Up Qp Pw

set_option maxRecDepth 100000 in
set_option maxHeartbeats 8000000 in
theorem refStep_qNone (s : ByteArray) (i : Nat) (first : Bool) (w : World) (hs : s.size ≤ 1000000) (hlt3 : i + 1 < s.size) (h46 : s[i]'(by omega) = 46) (h34 : s[i + 1] = 34) (nm : List UInt8) (n : Nat) (ee : Int) (hu : unqs (s.data.toList.drop (i + 1)) = (nm, n, ee)) (hee : ee = 0) (hW : isW nm = false) (hq : ¬ quo nm = (s.data.toList.drop (i + 1)).take n) :
    Calls Tryz.prog 84 #[.string s, .int .i64 i, .bool first] w fun e w' => e = .returned (stpV i (none)) ∧ Below w.heap.size w w' := by
  have hb0 : Below w.heap.size w (w.alloc (.cells #[.bool false, .string ⟨#[]⟩, .int .i64 0] 74)) := (Below.refl _ _).alloc (Nat.le_refl _) _
  have HB0 := Lib.hid hb0
  clear hb0
  have hlt : i < s.size := by omega
  have h46b : ((s[i].toNat : Int) == 46) = true := by rw [h46]; rfl
  have h91b : ((s[i + 1].toNat : Int) == 91) = false := by rw [h34]; rfl
  have h91c : ((s[i + 1].toNat : Int) != 91) = true := by rw [h34]; rfl
  have HEX : Hid (∀ m, (s.extract (i + 1) (i + 1 + m)).data.toList = (s.data.toList.drop (i + 1)).take m) := Lib.hid (fun m => by
    have h := Lib.extract_toList s (i + 1) (i + 1 + m)
    rw [ByteArray.toList_eq, Nat.add_sub_cancel_left] at h
    exact h)
  have HRL : Hid ((s.data.toList.drop (i + 1)).length = s.size - (i + 1)) := Lib.hid (by rw [List.length_drop, size_toList])
  have hr2 : s.data.toList.drop (i + 1) = 34 :: s.data.toList.drop (i + 1 + 1) := by
    rw [List.drop_eq_getElem_cons (by rw [size_toList]; exact hlt3)]
    have : s.data.toList[i + 1]'(by rw [size_toList]; exact hlt3) = 34 := h34
    rw [this]
  have HWJ : Hid (∀ W, Calls Tryz.prog 52 #[.string (s.extract (i + 1) (i + 1 + 1))] W fun e w' => e = .returned (.bool false) ∧ w' = W) := Lib.hid (fun W => by
    have h := refWordP_any (s.extract (i + 1) (i + 1 + 1)) W (by rw [ByteArray.size_extract]; unfold maxLen; omega)
    rw [HEX.out 1, hr2] at h
    exact h)
  have HUQ : Hid (∀ W, Calls Tryz.prog 61 #[.string (s.extract (i + 1) s.size)] W fun e w' => e = .returned (.tuple #[.string ⟨nm.toArray⟩, .int .i64 (n : Int), .int .i64 ee]) ∧ Below W.heap.size W w') := Lib.hid (fun W => by
    have h := refUnquote_any (s.extract (i + 1) s.size) W (by rw [ByteArray.size_extract]; omega)
    have e : (s.extract (i + 1) s.size).data.toList = s.data.toList.drop (i + 1) := by
      have := HEX.out (s.size - (i + 1))
      rw [show i + 1 + (s.size - (i + 1)) = s.size by omega] at this
      rw [this, List.take_of_length_le (by rw [HRL.out]; omega)]
    rw [e, hu] at h
    exact h)
  have hgood := unqs_good (s.data.toList.drop (i + 1))
  have hnl := unqs_len (s.data.toList.drop (i + 1))
  rw [hu] at hgood hnl
  simp only at hgood hnl
  have hRL := HRL.out
  have HWM : Hid (∀ W, Calls Tryz.prog 52 #[.string ⟨nm.toArray⟩] W fun e w' => e = .returned (.bool false) ∧ Below W.heap.size W w') := Lib.hid (fun W => by
    have h := refWordP_any ⟨nm.toArray⟩ W (by rw [mk_size]; have := hnl hee; unfold maxLen; omega)
    rw [mk_data, hW] at h
    exact h.mono fun e w' ⟨h1, h2⟩ => ⟨h1, by rw [h2]; exact Below.refl _ _⟩)
  have HQN : Hid (∀ W, Calls Tryz.prog 53 #[.string ⟨nm.toArray⟩] W fun e w' => e = .returned (.string ⟨(quo nm).toArray⟩) ∧ Below W.heap.size W w') := Lib.hid (fun W => by
    have h := refQuote_any ⟨nm.toArray⟩ W (by rw [mk_size]; have := hnl hee; omega)
    rw [mk_data] at h
    exact h)
  have hn2 : i + 1 + n ≤ s.size := by have := (hgood hee).2.1; omega
  have hwq : IntKind.i64.wrap ((i : Int) + 1 + (n : Int)) = (i : Int) + 1 + (n : Int) := IntWalk.i64_in _ ⟨by omega, by omega⟩
  have hq0 : 0 ≤ (i : Int) + 1 := by omega
  have hq1 : (i : Int) + 1 ≤ (i : Int) + 1 + (n : Int) := by omega
  have hq2 : (i : Int) + 1 + (n : Int) ≤ (s.size : Int) := by omega
  have hq3 : ((i : Int) + 1 + (n : Int)).toNat = i + 1 + n := by omega
  have hq4 : ((i : Int) + 1).toNat = i + 1 := by omega
  have hne : ¬ (ByteArray.mk (quo nm).toArray = s.extract (i + 1) (i + 1 + n)) := fun h => hq (by
    have h2 := congrArg (fun b : ByteArray => b.data.toList) h
    simp only at h2
    rw [HEX.out n] at h2
    simpa using h2)
  have hneb : (quo nm == (s.extract (i + 1) (i + 1 + n)).toList) = false := by
    rw [beq_eq_false_iff_ne, ByteArray.toList_eq, HEX.out n]
    exact hq
  have hnel : ((ByteArray.mk (quo nm).toArray).toList == (s.extract (i + 1) (i + 1 + n)).toList) = false := by
    rw [beq_eq_false_iff_ne]
    intro h
    apply hq
    rw [← HEX.out n, ← ByteArray.toList_eq, ← h, ByteArray.toList_eq]
  subst hee
  clear h46 h34 hr2 HRL hRL hgood hnl hu HEX
  go_enter Tryz.func84, Tryz.ntmps84
  go_wp2_with fail
  go_loopw [9] (fun kv wr => kv = .int .i64 ((i + 1 : Nat) : Int) ∧ wr = w.alloc stepZ) (fun kv _ => s.size - (intOf kv).toNat)
  case atStart => exact ⟨by simp, rfl⟩
  case round =>
    obtain ⟨rfl, rfl⟩ := hrel
    go_wp2_with fail
    refine (HWJ.out _).mono ?_
    rintro e wf ⟨rfl, rfl⟩
    go_wp2_with fail
    refine (HUQ.out _).mono ?_
    rintro e w1 ⟨rfl, hb1⟩
    have HB1 : Hid (Below w.heap.size w w1) := Lib.hid (HB0.out.trans (hb1.mono HB0.out.size))
    obtain ⟨hz4, k0, k1, k2, hfz, hfz2⟩ := new_step (W := w.alloc stepZ) (b := w.heap.size) (heap_alloc_new w stepZ) hb1
    clear hb1
    have HQS : Hid (Qs w w1) := Lib.hid ⟨hfz2, HB1.out⟩
    clear hfz2 hz4 k0 k1 k2 hfz
    go_upto_region 10 with fail
    go_region_held3 (fun w' => w'.heap[w.heap.size]? = some stepZ ∧ Below w.heap.size w w') (first | exact Qs.step (by assumption : Qs w _) hb3 | exact Qs.step HQS.out (Below.refl _ _).drew | go_keep)
      (first
        | (go_at_call 52; refine (HWM.out _).mono ?_; rintro e w3 ⟨rfl, hb3⟩)
        | (go_at_call 53; refine (HQN.out _).mono ?_; rintro e w3 ⟨rfl, hb3⟩))
    obtain ⟨k0, k1, k2, hfz, hz4⟩ := Qs.cells (by assumption : Qs w _)
    have HB9 := Lib.hid (by assumption : Qs w _).2
    cases first with
    | true =>
      go_wp2_with fail
      all_goals exact bodyPost_ret (v := .tuple #[sta ⟨false, [], 0⟩, .int .i64 (i : Int)]) (by simp [results, Tryz.results84, go_sem, k0, k1, k2]) rfl ⟨rfl, by first | exact ((HB9.out.setCell (Nat.le_refl _) _).setCell (Nat.le_refl _) _).setCell (Nat.le_refl _) _ | exact (((drewN_below HB9.out _).setCell (Nat.le_refl _) _).setCell (Nat.le_refl _) _).setCell (Nat.le_refl _) _ | exact drewN_below HB9.out _ | trace_state⟩
    | false =>
      go_wp2_with fail
      all_goals exact bodyPost_ret (v := .tuple #[sta ⟨false, [], 0⟩, .int .i64 (i : Int)]) (by simp [results, Tryz.results84, go_sem, k0, k1, k2]) rfl ⟨rfl, by first | exact ((HB9.out.setCell (Nat.le_refl _) _).setCell (Nat.le_refl _) _).setCell (Nat.le_refl _) _ | exact (((drewN_below HB9.out _).setCell (Nat.le_refl _) _).setCell (Nat.le_refl _) _).setCell (Nat.le_refl _) _ | exact drewN_below HB9.out _ | trace_state⟩
end Go.Proofs.YtafbojiojeemoaaGreatDoor
