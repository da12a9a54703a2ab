/-
  What the document's own answers are: Same, Texts, Lists; the library's Equal and val's Same.
-/
import Derived.Test.YtoomgpbfcpnefaaDoorMem
import Derived.Outline
namespace Go.Proofs.YtoomgpbfcpnefaaDoor
open Go.RowKit Np

theorem take_eq_succ {α : Type} {a b : List α} {k : Nat} {x y : α} (h : a.take k = b.take k) (hx : a[k]? = some x) (hy : b[k]? = some y) (he : x = y) : a.take (k + 1) = b.take (k + 1) := by
  rw [List.take_add_one, List.take_add_one, h, hx, hy, he]
theorem ne_of_at {α : Type} {a b : List α} {k : Nat} {x y : α} (hx : a[k]? = some x) (hy : b[k]? = some y) (he : x ≠ y) : a ≠ b := by
  rintro rfl
  rw [hx] at hy
  exact he (Option.some.inj hy)
theorem eq_of_take {α : Type} {a b : List α} {k : Nat} (h : a.take k = b.take k) (ha : a.length ≤ k) (hb : b.length ≤ k) : a = b := by
  rwa [List.take_of_length_le ha, List.take_of_length_le hb] at h

set_option maxHeartbeats 400000 in
theorem refSame_quiet (va vb : Value) (la lb : List Nd) (w : World) (ha : Nds w va la) (hb : Nds w vb lb) :
    Calls Tryd.prog 14 #[va, vb] w fun e w' => e = .returned (.bool (decide (la = lb))) ∧ ∃ n, w' = w.drewN n := by
  have hB : ∃ n, w = w.drewN n := ⟨0, rfl⟩
  by_cases hl : la.length = lb.length
  · rcases Nat.eq_zero_or_pos la.length with h0 | h0
    · have e1 := List.eq_nil_of_length_eq_zero h0
      have e2 := List.eq_nil_of_length_eq_zero (hl ▸ h0)
      subst e1 e2
      obtain ⟨A, c, rfl, -⟩ := ha
      obtain ⟨B, d, rfl, -⟩ := hb
      clear hl h0
      simp only [List.length_nil]
      go_enter Tryd.func14, Tryd.ntmps14
      go_wp2
      go_loopw [5] (fun i wr => i = .int .i64 0 ∧ wr = w) (fun _ _ => 0)
      case atStart => exact ⟨rfl, rfl⟩
      case round =>
        obtain ⟨rfl, rfl⟩ := hrel
        go_wp2
        go_ret
        exact ⟨ret_bool rfl, hB⟩
    · have hlen := ha.len
      obtain ⟨g, o, c, rfl, hc, hcm, hg, hx⟩ := ha.opened h0
      obtain ⟨g2, o2, c2, rfl, hc2, hcm2, hg2, hx2⟩ := hb.opened (hl ▸ h0)
      rw [← hl]
      have HX := Lib.hid hx
      have HX2 := Lib.hid hx2
      have HL := Lib.hid hl
      clear hx hx2 hl
      generalize hn : la.length = n at *
      have HN := Lib.hid hn; clear hn
      unfold maxLen at hlen
      have hneq := neq_nd
      go_enter Tryd.func14, Tryd.ntmps14
      go_wp2
      go_loopw [5] (fun i wr => ∃ k : Nat, k ≤ n ∧ i = .int .i64 k ∧ (∃ m, wr = w.drewN m) ∧ la.take k = lb.take k) (fun i _ => n - (intOf i).toNat)
      case atStart => exact ⟨0, Nat.zero_le _, rfl, ⟨0, rfl⟩, rfl⟩
      case round =>
        obtain ⟨k, hk, rfl, hq, ht⟩ := hrel
        have HQ := Lib.hid hq; clear hq
        have HT := Lib.hid ht; clear ht
        by_cases hlt : k < n
        · obtain ⟨a, ha⟩ : ∃ a, la[k]? = some a := ⟨_, List.getElem?_eq_getElem (by rw [HN.out]; exact hlt)⟩
          obtain ⟨b, hb'⟩ : ∃ b, lb[k]? = some b := ⟨_, List.getElem?_eq_getElem (by rw [← HL.out]; exact hlt)⟩
          obtain ⟨a0, a1, a2, a3, a4, a5⟩ := (HX.out k a ha).nd.quiet HQ.out
          obtain ⟨b0, b1, b2, b3, b4, b5⟩ := (HX2.out k b hb').nd.quiet HQ.out
          have HA := Lib.hid ha
          have HB := Lib.hid hb'
          clear ha hb'
          by_cases he : a = b
          · have HE : Hid (la.take (k + 1) = lb.take (k + 1)) := Lib.hid (take_eq_succ HT.out HA.out HB.out he)
            have hd : decide (a = b) = true := by simp [he]
            clear he
            go_wp2
            go_quiet (fail)
            go_wp2
            go_roundw
            case rel => exact ⟨k + 1, by omega, by go_num, quiet_more HQ.out _, HE.out⟩
            case measure => simp [intOf]; omega
          · have HE : Hid (la ≠ lb) := Lib.hid (ne_of_at HA.out HB.out he)
            have hd : decide (a = b) = false := by simp [he]
            clear he
            go_wp2
            go_quiet (fail)
            go_wp2
            go_ret
            exact ⟨ret_bool (by simp [HE.out]), quiet_more HQ.out _⟩
        · have HE : Hid (la = lb) := Lib.hid (eq_of_take HT.out (by rw [HN.out]; omega) (by rw [← HL.out]; omega))
          go_wp2
          go_ret
          exact ⟨ret_bool (by simp [HE.out]), HQ.out⟩
  · obtain ⟨A, c, rfl, -⟩ := ha
    obtain ⟨B, d, rfl, -⟩ := hb
    have HE : Hid (la ≠ lb) := Lib.hid (fun h => hl (by rw [h]))
    have hz : ((la.length : Int) == lb.length) = false := by simp; omega
    have hz2 : ((la.length : Int) != lb.length) = true := by simp; omega
    clear hl
    go_enter Tryd.func14, Tryd.ntmps14
    go_wp2
    go_ret
    exact ⟨ret_bool (by simp [HE.out]), hB⟩
theorem refSame_any (va vb : Value) (la lb : List Nd) (w : World) (ha : Nds w va la) (hb : Nds w vb lb) :
    Calls Tryd.prog 14 #[va, vb] w fun e w' => e = .returned (.bool (decide (la = lb))) ∧ Below w.heap.size w w' :=
  (refSame_quiet va vb la lb w ha hb).mono fun _ _ ⟨he, hw⟩ => ⟨he, below_quiet hw⟩
set_option maxHeartbeats 400000 in
theorem equal_quiet (va vb : Value) (la lb : List Nd) (w : World) (ha : Nds w va la) (hb : Nds w vb lb) :
    Calls Tryd.prog 43 #[va, vb] w fun e w' => e = .returned (.bool (decide (la = lb))) ∧ ∃ n, w' = w.drewN n := by
  have hB : ∃ n, w = w.drewN n := ⟨0, rfl⟩
  by_cases hl : la.length = lb.length
  · rcases Nat.eq_zero_or_pos la.length with h0 | h0
    · have e1 := List.eq_nil_of_length_eq_zero h0
      have e2 := List.eq_nil_of_length_eq_zero (hl ▸ h0)
      subst e1 e2
      obtain ⟨A, c, rfl, -⟩ := ha
      obtain ⟨B, d, rfl, -⟩ := hb
      clear hl h0
      simp only [List.length_nil]
      go_enter Tryd.func43, Tryd.ntmps43
      go_wp2
      go_loopw [13] (fun i wr => i = .int .i64 0 ∧ wr = w) (fun _ _ => 0)
      case atStart => exact ⟨rfl, rfl⟩
      case round =>
        obtain ⟨rfl, rfl⟩ := hrel
        go_wp2
        go_ret
        exact ⟨ret_bool rfl, hB⟩
    · have hlen := ha.len
      obtain ⟨g, o, c, rfl, hc, hcm, hg, hx⟩ := ha.opened h0
      obtain ⟨g2, o2, c2, rfl, hc2, hcm2, hg2, hx2⟩ := hb.opened (hl ▸ h0)
      rw [← hl]
      have HX := Lib.hid hx
      have HX2 := Lib.hid hx2
      have HL := Lib.hid hl
      clear hx hx2 hl
      generalize hn : la.length = n at *
      have HN := Lib.hid hn; clear hn
      unfold maxLen at hlen
      have hneq := neq_nd
      go_enter Tryd.func43, Tryd.ntmps43
      go_wp2
      go_loopw [13] (fun i wr => ∃ k : Nat, k ≤ n ∧ i = .int .i64 k ∧ (∃ m, wr = w.drewN m) ∧ la.take k = lb.take k) (fun i _ => n - (intOf i).toNat)
      case atStart => exact ⟨0, Nat.zero_le _, rfl, ⟨0, rfl⟩, rfl⟩
      case round =>
        obtain ⟨k, hk, rfl, hq, ht⟩ := hrel
        have HQ := Lib.hid hq; clear hq
        have HT := Lib.hid ht; clear ht
        by_cases hlt : k < n
        · obtain ⟨a, ha⟩ : ∃ a, la[k]? = some a := ⟨_, List.getElem?_eq_getElem (by rw [HN.out]; exact hlt)⟩
          obtain ⟨b, hb'⟩ : ∃ b, lb[k]? = some b := ⟨_, List.getElem?_eq_getElem (by rw [← HL.out]; exact hlt)⟩
          obtain ⟨a0, a1, a2, a3, a4, a5⟩ := (HX.out k a ha).nd.quiet HQ.out
          obtain ⟨b0, b1, b2, b3, b4, b5⟩ := (HX2.out k b hb').nd.quiet HQ.out
          have HA := Lib.hid ha
          have HB := Lib.hid hb'
          clear ha hb'
          by_cases he : a = b
          · have HE : Hid (la.take (k + 1) = lb.take (k + 1)) := Lib.hid (take_eq_succ HT.out HA.out HB.out he)
            have hd : decide (a = b) = true := by simp [he]
            clear he
            go_wp2
            go_quiet (fail)
            go_wp2
            go_roundw
            case rel => exact ⟨k + 1, by omega, by go_num, quiet_more HQ.out _, HE.out⟩
            case measure => simp [intOf]; omega
          · have HE : Hid (la ≠ lb) := Lib.hid (ne_of_at HA.out HB.out he)
            have hd : decide (a = b) = false := by simp [he]
            clear he
            go_wp2
            go_quiet (fail)
            go_wp2
            go_ret
            exact ⟨ret_bool (by simp [HE.out]), quiet_more HQ.out _⟩
        · have HE : Hid (la = lb) := Lib.hid (eq_of_take HT.out (by rw [HN.out]; omega) (by rw [← HL.out]; omega))
          go_wp2
          go_ret
          exact ⟨ret_bool (by simp [HE.out]), HQ.out⟩
  · obtain ⟨A, c, rfl, -⟩ := ha
    obtain ⟨B, d, rfl, -⟩ := hb
    have HE : Hid (la ≠ lb) := Lib.hid (fun h => hl (by rw [h]))
    have hz : ((la.length : Int) == lb.length) = false := by simp; omega
    have hz2 : ((la.length : Int) != lb.length) = true := by simp; omega
    clear hl
    go_enter Tryd.func43, Tryd.ntmps43
    go_wp2
    go_ret
    exact ⟨ret_bool (by simp [HE.out]), hB⟩
theorem same_quiet (va vb : Value) (la lb : List Nd) (w : World) (ha : Nds w va la) (hb : Nds w vb lb) :
    Calls Tryd.prog 13 #[va, vb] w fun e w' => e = .returned (.bool (decide (la = lb))) ∧ ∃ n, w' = w.drewN n := by
  go_enter Tryd.func13, Tryd.ntmps13
  go_wp2_with (go_at_call 43; refine (equal_quiet _ _ _ _ _ ha hb).mono ?_; rintro e w' ⟨rfl, n, rfl⟩)
  go_ret
  exact ⟨rfl, n, rfl⟩
theorem same_any (va vb : Value) (la lb : List Nd) (w : World) (ha : Nds w va la) (hb : Nds w vb lb) :
    Calls Tryd.prog 13 #[va, vb] w fun e w' => e = .returned (.bool (decide (la = lb))) ∧ Below w.heap.size w w' :=
  (same_quiet va vb la lb w ha hb).mono fun _ _ ⟨he, hw⟩ => ⟨he, below_quiet hw⟩

set_option maxHeartbeats 400000 in
theorem refTexts_quiet (va vb : Value) (la lb : List (List UInt8)) (w : World) (ha : Sts w va la) (hb : Sts w vb lb) :
    Calls Tryd.prog 20 #[va, vb] w fun e w' => e = .returned (.bool (decide (la = lb))) ∧ ∃ n, w' = w.drewN n := by
  have hB : ∃ n, w = w.drewN n := ⟨0, rfl⟩
  by_cases hl : la.length = lb.length
  · rcases Nat.eq_zero_or_pos la.length with h0 | h0
    · have e1 := List.eq_nil_of_length_eq_zero h0
      have e2 := List.eq_nil_of_length_eq_zero (hl ▸ h0)
      subst e1 e2
      obtain ⟨A, c, rfl, -⟩ := ha
      obtain ⟨B, d, rfl, -⟩ := hb
      clear hl h0
      simp only [List.length_nil]
      go_enter Tryd.func20, Tryd.ntmps20
      go_wp2
      go_loopw [5] (fun i wr => i = .int .i64 0 ∧ wr = w) (fun _ _ => 0)
      case atStart => exact ⟨rfl, rfl⟩
      case round =>
        obtain ⟨rfl, rfl⟩ := hrel
        go_wp2
        go_ret
        exact ⟨ret_bool rfl, hB⟩
    · have hlen := ha.len
      obtain ⟨g, o, c, rfl, hc, hcm, hg, hx⟩ := ha.opened h0
      obtain ⟨g2, o2, c2, rfl, hc2, hcm2, hg2, hx2⟩ := hb.opened (hl ▸ h0)
      rw [← hl]
      have HX := Lib.hid hx
      have HX2 := Lib.hid hx2
      have HL := Lib.hid hl
      clear hx hx2 hl
      generalize hn : la.length = n at *
      have HN := Lib.hid hn; clear hn
      unfold maxLen at hlen
      go_enter Tryd.func20, Tryd.ntmps20
      go_wp2
      go_loopw [5] (fun i wr => ∃ k : Nat, k ≤ n ∧ i = .int .i64 k ∧ (∃ m, wr = w.drewN m) ∧ la.take k = lb.take k) (fun i _ => n - (intOf i).toNat)
      case atStart => exact ⟨0, Nat.zero_le _, rfl, ⟨0, rfl⟩, rfl⟩
      case round =>
        obtain ⟨k, hk, rfl, hq, ht⟩ := hrel
        have HQ := Lib.hid hq; clear hq
        have HT := Lib.hid ht; clear ht
        by_cases hlt : k < n
        · obtain ⟨a, ha⟩ : ∃ a, la[k]? = some a := ⟨_, List.getElem?_eq_getElem (by rw [HN.out]; exact hlt)⟩
          obtain ⟨b, hb'⟩ : ∃ b, lb[k]? = some b := ⟨_, List.getElem?_eq_getElem (by rw [← HL.out]; exact hlt)⟩
          have a0 := cell_quiet (HX.out k a ha).st HQ.out
          have b0 := cell_quiet (HX2.out k b hb').st HQ.out
          have HA := Lib.hid ha
          have HB := Lib.hid hb'
          clear ha hb'
          by_cases he : a = b
          · have HE : Hid (la.take (k + 1) = lb.take (k + 1)) := Lib.hid (take_eq_succ HT.out HA.out HB.out he)
            have hd : (a == b) = true := by simp [he]
            clear he
            go_wp2
            go_quiet (fail)
            go_wp2
            go_roundw
            case rel => exact ⟨k + 1, by omega, by go_num, quiet_more HQ.out _, HE.out⟩
            case measure => simp [intOf]; omega
          · have HE : Hid (la ≠ lb) := Lib.hid (ne_of_at HA.out HB.out he)
            have hd : (a == b) = false := by simp [he]
            clear he
            go_wp2
            go_quiet (fail)
            go_wp2
            go_ret
            exact ⟨ret_bool (by simp [HE.out]), quiet_more HQ.out _⟩
        · have HE : Hid (la = lb) := Lib.hid (eq_of_take HT.out (by rw [HN.out]; omega) (by rw [← HL.out]; omega))
          go_wp2
          go_ret
          exact ⟨ret_bool (by simp [HE.out]), HQ.out⟩
  · obtain ⟨A, c, rfl, -⟩ := ha
    obtain ⟨B, d, rfl, -⟩ := hb
    have HE : Hid (la ≠ lb) := Lib.hid (fun h => hl (by rw [h]))
    have hz : ((la.length : Int) == lb.length) = false := by simp; omega
    have hz2 : ((la.length : Int) != lb.length) = true := by simp; omega
    clear hl
    go_enter Tryd.func20, Tryd.ntmps20
    go_wp2
    go_ret
    exact ⟨ret_bool (by simp [HE.out]), hB⟩
set_option maxHeartbeats 400000 in
theorem refLists_quiet (va vb : Value) (la lb : List (List Nd)) (w : World) (ha : Vls w va la) (hb : Vls w vb lb) :
    Calls Tryd.prog 17 #[va, vb] w fun e w' => e = .returned (.bool (decide (la = lb))) ∧ ∃ n, w' = w.drewN n := by
  have hB : ∃ n, w = w.drewN n := ⟨0, rfl⟩
  obtain ⟨us, hul, hu, hur⟩ := ha
  obtain ⟨vs, hvl, hv, hvr⟩ := hb
  by_cases hl : us.length = vs.length
  · rcases Nat.eq_zero_or_pos us.length with h0 | h0
    · have e1 := List.eq_nil_of_length_eq_zero h0
      have e2 := List.eq_nil_of_length_eq_zero (hl ▸ h0)
      subst e1 e2
      have e3 := List.eq_nil_of_length_eq_zero hul.symm
      have e4 := List.eq_nil_of_length_eq_zero hvl.symm
      subst e3 e4
      obtain ⟨A, c, rfl, -⟩ := hu
      obtain ⟨B, d, rfl, -⟩ := hv
      clear hl h0 hul hvl hur hvr
      simp only [List.length_nil]
      go_enter Tryd.func17, Tryd.ntmps17
      go_wp2
      go_loopw [5] (fun i wr => i = .int .i64 0 ∧ wr = w) (fun _ _ => 0)
      case atStart => exact ⟨rfl, rfl⟩
      case round =>
        obtain ⟨rfl, rfl⟩ := hrel
        go_wp2
        go_ret
        exact ⟨ret_bool rfl, hB⟩
    · have hlen := hu.len
      obtain ⟨g, o, c, rfl, hc, hcm, hg, hx⟩ := hu.opened h0
      obtain ⟨g2, o2, c2, rfl, hc2, hcm2, hg2, hx2⟩ := hv.opened (hl ▸ h0)
      rw [← hl]
      have HX := Lib.hid hx
      have HX2 := Lib.hid hx2
      have HL := Lib.hid hl
      have HUL := Lib.hid hul
      have HVL := Lib.hid hvl
      have HU := Lib.hid hur
      have HV := Lib.hid hvr
      clear hx hx2 hl hul hvl hur hvr
      generalize hn : us.length = n at *
      have HN := Lib.hid hn; clear hn
      unfold maxLen at hlen
      go_enter Tryd.func17, Tryd.ntmps17
      go_wp2
      go_loopw [5] (fun i wr => ∃ k : Nat, k ≤ n ∧ i = .int .i64 k ∧ (∃ m, wr = w.drewN m) ∧ la.take k = lb.take k) (fun i _ => n - (intOf i).toNat)
      case atStart => exact ⟨0, Nat.zero_le _, rfl, ⟨0, rfl⟩, rfl⟩
      case round =>
        obtain ⟨k, hk, rfl, hq, ht⟩ := hrel
        have HQ := Lib.hid hq; clear hq
        have HT := Lib.hid ht; clear ht
        by_cases hlt : k < n
        · obtain ⟨x, hx⟩ : ∃ a, us[k]? = some a := ⟨_, List.getElem?_eq_getElem (by rw [HN.out]; exact hlt)⟩
          obtain ⟨y, hy⟩ : ∃ a, vs[k]? = some a := ⟨_, List.getElem?_eq_getElem (by rw [← HL.out]; exact hlt)⟩
          obtain ⟨a, ha⟩ : ∃ a, la[k]? = some a := ⟨_, List.getElem?_eq_getElem (by rw [← HUL.out]; exact hlt)⟩
          obtain ⟨b, hb'⟩ : ∃ b, lb[k]? = some b := ⟨_, List.getElem?_eq_getElem (by rw [← HVL.out, ← HL.out]; exact hlt)⟩
          have a0 := cell_quiet (HX.out k x hx).one HQ.out
          have b0 := cell_quiet (HX2.out k y hy).one HQ.out
          have hra : Nds wr x a := (HU.out k x a hx ha).quiet HQ.out
          have hrb : Nds wr y b := (HV.out k y b hy hb').quiet HQ.out
          have HA := Lib.hid ha
          have HB := Lib.hid hb'
          clear ha hb' hx hy
          have hcall : ∀ bb, decide (a = b) = bb → ∀ m, Calls Tryd.prog 14 #[x, y] (wr.drewN m) fun e w' => e = .returned (.bool bb) ∧ ∃ n, w' = (wr.drewN m).drewN n := fun bb h m => h ▸ refSame_quiet x y a b (wr.drewN m) hra hrb
          have HCALL := Lib.hid hcall; clear hcall
          obtain ⟨A, c, rfl, -⟩ := hra
          obtain ⟨A', c', rfl, -⟩ := hrb
          by_cases he : a = b
          · have HE : Hid (la.take (k + 1) = lb.take (k + 1)) := Lib.hid (take_eq_succ HT.out HA.out HB.out he)
            have HD : Hid (decide (a = b) = true) := Lib.hid (by simp [he])
            clear he
            go_wp2
            go_quiet ((go_at_call 14; exact Calls.quiet_of (HCALL.out _ HD.out _)))
            go_wp2
            go_roundw
            case rel => exact ⟨k + 1, by omega, by go_num, quiet_more HQ.out _, HE.out⟩
            case measure => simp [intOf]; omega
          · have HE : Hid (la ≠ lb) := Lib.hid (ne_of_at HA.out HB.out he)
            have HD : Hid (decide (a = b) = false) := Lib.hid (by simp [he])
            clear he
            go_wp2
            go_quiet ((go_at_call 14; exact Calls.quiet_of (HCALL.out _ HD.out _)))
            go_wp2
            go_ret
            exact ⟨ret_bool (by simp [HE.out]), quiet_more HQ.out _⟩
        · have HE : Hid (la = lb) := Lib.hid (eq_of_take HT.out (by rw [← HUL.out]; omega) (by rw [← HVL.out, ← HL.out]; omega))
          go_wp2
          go_ret
          exact ⟨ret_bool (by simp [HE.out]), HQ.out⟩
  · have HE : Hid (la ≠ lb) := Lib.hid (fun h => hl (by rw [hul, hvl, h]))
    obtain ⟨A, c, rfl, -⟩ := hu
    obtain ⟨B, d, rfl, -⟩ := hv
    have hz : ((us.length : Int) == vs.length) = false := by simp; omega
    have hz2 : ((us.length : Int) != vs.length) = true := by simp; omega
    clear hl hul hvl hur hvr
    go_enter Tryd.func17, Tryd.ntmps17
    go_wp2
    go_ret
    exact ⟨ret_bool (by simp [HE.out]), hB⟩
end Go.Proofs.YtoomgpbfcpnefaaDoor
