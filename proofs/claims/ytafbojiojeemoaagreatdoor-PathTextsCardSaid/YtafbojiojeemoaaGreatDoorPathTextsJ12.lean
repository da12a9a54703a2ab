/-
  Joined: RefW2, Pa6, Pa7, Pa8, PRef1, PRef2, PFew.
-/
import Derived.Test.YtafbojiojeemoaaGreatDoorMem
import Derived.Outline
import Derived.Test.YtafbojiojeemoaaGreatDoorPathTextsJ2
import Derived.Test.YtafbojiojeemoaaGreatDoorPathTextsJ8
import Derived.Test.YtafbojiojeemoaaGreatDoorRefW1

/-
  What the document's own answers are: Same, Texts, Lists; the library's Equal and val's Same.
-/
namespace Go.Proofs.YtafbojiojeemoaaGreatDoor
open Go.RowKit Np

theorem take_eq_succ {α : Type} {a b : List α} {k : Nat} {x y : α} (h : a.take k = b.take k) (hx : a[k]? = some x) (hy : b[k]? = some y) (he : x = y) : a.take (k + 1) = b.take (k + 1) := by
  rw [List.take_add_one, List.take_add_one, h, hx, hy, he]
theorem ne_of_at {α : Type} {a b : List α} {k : Nat} {x y : α} (hx : a[k]? = some x) (hy : b[k]? = some y) (he : x ≠ y) : a ≠ b := by
  rintro rfl
  rw [hx] at hy
  exact he (Option.some.inj hy)
theorem eq_of_take {α : Type} {a b : List α} {k : Nat} (h : a.take k = b.take k) (ha : a.length ≤ k) (hb : b.length ≤ k) : a = b := by
  rwa [List.take_of_length_le ha, List.take_of_length_le hb] at h

set_option maxHeartbeats 400000 in
theorem refSame_quiet (va vb : Value) (la lb : List Nd) (w : World) (ha : Nds w va la) (hb : Nds w vb lb) :
    Calls Tryz.prog 11 #[va, vb] w fun e w' => e = .returned (.bool (decide (la = lb))) ∧ ∃ n, w' = w.drewN n := by
  have hB : ∃ n, w = w.drewN n := ⟨0, rfl⟩
  by_cases hl : la.length = lb.length
  · rcases Nat.eq_zero_or_pos la.length with h0 | h0
    · have e1 := List.eq_nil_of_length_eq_zero h0
      have e2 := List.eq_nil_of_length_eq_zero (hl ▸ h0)
      subst e1 e2
      obtain ⟨A, c, rfl, -⟩ := ha
      obtain ⟨B, d, rfl, -⟩ := hb
      clear hl h0
      simp only [List.length_nil]
      go_enter Tryz.func11, Tryz.ntmps11
      go_wp2
      go_loopw [5] (fun i wr => i = .int .i64 0 ∧ wr = w) (fun _ _ => 0)
      case atStart => exact ⟨rfl, rfl⟩
      case round =>
        obtain ⟨rfl, rfl⟩ := hrel
        go_wp2
        go_ret
        exact ⟨ret_bool rfl, hB⟩
    · have hlen := ha.len
      obtain ⟨g, o, c, rfl, hc, hcm, hg, hx⟩ := ha.opened h0
      obtain ⟨g2, o2, c2, rfl, hc2, hcm2, hg2, hx2⟩ := hb.opened (hl ▸ h0)
      rw [← hl]
      have HX := Lib.hid hx
      have HX2 := Lib.hid hx2
      have HL := Lib.hid hl
      clear hx hx2 hl
      generalize hn : la.length = n at *
      have HN := Lib.hid hn; clear hn
      unfold maxLen at hlen
      have hneq := neq_nd
      go_enter Tryz.func11, Tryz.ntmps11
      go_wp2
      go_loopw [5] (fun i wr => ∃ k : Nat, k ≤ n ∧ i = .int .i64 k ∧ (∃ m, wr = w.drewN m) ∧ la.take k = lb.take k) (fun i _ => n - (intOf i).toNat)
      case atStart => exact ⟨0, Nat.zero_le _, rfl, ⟨0, rfl⟩, rfl⟩
      case round =>
        obtain ⟨k, hk, rfl, hq, ht⟩ := hrel
        have HQ := Lib.hid hq; clear hq
        have HT := Lib.hid ht; clear ht
        by_cases hlt : k < n
        · obtain ⟨a, ha⟩ : ∃ a, la[k]? = some a := ⟨_, List.getElem?_eq_getElem (by rw [HN.out]; exact hlt)⟩
          obtain ⟨b, hb'⟩ : ∃ b, lb[k]? = some b := ⟨_, List.getElem?_eq_getElem (by rw [← HL.out]; exact hlt)⟩
          obtain ⟨a0, a1, a2, a3, a4, a5⟩ := (HX.out k a ha).nd.quiet HQ.out
          obtain ⟨b0, b1, b2, b3, b4, b5⟩ := (HX2.out k b hb').nd.quiet HQ.out
          have HA := Lib.hid ha
          have HB := Lib.hid hb'
          clear ha hb'
          by_cases he : a = b
          · have HE : Hid (la.take (k + 1) = lb.take (k + 1)) := Lib.hid (take_eq_succ HT.out HA.out HB.out he)
            have hd : decide (a = b) = true := by simp [he]
            clear he
            go_wp2
            go_quiet (fail)
            go_wp2
            go_roundw
            case rel => exact ⟨k + 1, by omega, by go_num, quiet_more HQ.out _, HE.out⟩
            case measure => simp [intOf]; omega
          · have HE : Hid (la ≠ lb) := Lib.hid (ne_of_at HA.out HB.out he)
            have hd : decide (a = b) = false := by simp [he]
            clear he
            go_wp2
            go_quiet (fail)
            go_wp2
            go_ret
            exact ⟨ret_bool (by simp [HE.out]), quiet_more HQ.out _⟩
        · have HE : Hid (la = lb) := Lib.hid (eq_of_take HT.out (by rw [HN.out]; omega) (by rw [← HL.out]; omega))
          go_wp2
          go_ret
          exact ⟨ret_bool (by simp [HE.out]), HQ.out⟩
  · obtain ⟨A, c, rfl, -⟩ := ha
    obtain ⟨B, d, rfl, -⟩ := hb
    have HE : Hid (la ≠ lb) := Lib.hid (fun h => hl (by rw [h]))
    have hz : ((la.length : Int) == lb.length) = false := by simp; omega
    have hz2 : ((la.length : Int) != lb.length) = true := by simp; omega
    clear hl
    go_enter Tryz.func11, Tryz.ntmps11
    go_wp2
    go_ret
    exact ⟨ret_bool (by simp [HE.out]), hB⟩
theorem refSame_any (va vb : Value) (la lb : List Nd) (w : World) (ha : Nds w va la) (hb : Nds w vb lb) :
    Calls Tryz.prog 11 #[va, vb] w fun e w' => e = .returned (.bool (decide (la = lb))) ∧ Below w.heap.size w w' :=
  (refSame_quiet va vb la lb w ha hb).mono fun _ _ ⟨he, hw⟩ => ⟨he, below_quiet hw⟩

end Go.Proofs.YtafbojiojeemoaaGreatDoor

/-
  What slices.Equal answers of paths; path's Apart; the document's own Apart and Same.
-/
namespace Go.Proofs.YtafbojiojeemoaaGreatDoor
open Go.RowKit Np Rw Vp Pw

theorem Sp3.quiet {w w' : World} {g o : Nat} {s : St} (h : Sp3 w g o s) (hq : ∃ m, w' = w.drewN m) : Sp3 w' g o s := by
  obtain ⟨m, rfl⟩ := hq
  exact ⟨h.c0, h.c1, h.c2⟩
set_option maxHeartbeats 1000000 in
theorem neq_st (a b : St) (w : World) :
    (binOp .neq 74 (.agg #[.bool a.part, .string ⟨a.name.toArray⟩, .int .i64 a.n]) (.agg #[.bool b.part, .string ⟨b.name.toArray⟩, .int .i64 b.n])).run Tryz.prog w
      = .ok (.bool (!decide (a = b))) w := by
  obtain ⟨p, nm, n⟩ := a
  obtain ⟨p2, nm2, n2⟩ := b
  simp only [St.mk.injEq]
  by_cases h1 : p = p2
  · by_cases h2 : nm = nm2
    · by_cases h3 : n = n2
      · subst h1 h2 h3; simp [go_sem]
      · subst h1 h2; simp [go_sem, h3]
    · subst h1; simp [go_sem, h2]
  · simp [go_sem, h1]
set_option maxHeartbeats 400000 in
theorem equalP_quiet (va vb : Value) (la lb : List St) (w : World) (ha : Sps w va la) (hb : Sps w vb lb) :
    Calls Tryz.prog 81 #[va, vb] w fun e w' => e = .returned (.bool (decide (la = lb))) ∧ ∃ n, w' = w.drewN n := by
  have hB : ∃ n, w = w.drewN n := ⟨0, rfl⟩
  by_cases hl : la.length = lb.length
  · rcases Nat.eq_zero_or_pos la.length with h0 | h0
    · have e1 := List.eq_nil_of_length_eq_zero h0
      have e2 := List.eq_nil_of_length_eq_zero (hl ▸ h0)
      subst e1 e2
      obtain ⟨A, c, rfl, -⟩ := ha
      obtain ⟨B, d, rfl, -⟩ := hb
      clear hl h0
      simp only [List.length_nil]
      go_enter Tryz.func81, Tryz.ntmps81
      go_wp2
      go_loopw [13] (fun i wr => i = .int .i64 0 ∧ wr = w) (fun _ _ => 0)
      case atStart => exact ⟨rfl, rfl⟩
      case round =>
        obtain ⟨rfl, rfl⟩ := hrel
        go_wp2
        go_ret
        exact ⟨ret_bool rfl, hB⟩
    · have hlen := ha.len
      obtain ⟨g, o, c, rfl, hc, hcm, hg, hx⟩ := ha.opened h0
      obtain ⟨g2, o2, c2, rfl, hc2, hcm2, hg2, hx2⟩ := hb.opened (hl ▸ h0)
      rw [← hl]
      have HX := Lib.hid hx
      have HX2 := Lib.hid hx2
      have HL := Lib.hid hl
      clear hx hx2 hl
      generalize hn : la.length = n at *
      have HN := Lib.hid hn; clear hn
      unfold maxLen at hlen
      have hneq := neq_st
      go_enter Tryz.func81, Tryz.ntmps81
      go_wp2
      go_loopw [13] (fun i wr => ∃ k : Nat, k ≤ n ∧ i = .int .i64 k ∧ (∃ m, wr = w.drewN m) ∧ la.take k = lb.take k) (fun i _ => n - (intOf i).toNat)
      case atStart => exact ⟨0, Nat.zero_le _, rfl, ⟨0, rfl⟩, rfl⟩
      case round =>
        obtain ⟨k, hk, rfl, hq, ht⟩ := hrel
        have HQ := Lib.hid hq; clear hq
        have HT := Lib.hid ht; clear ht
        by_cases hlt : k < n
        · obtain ⟨a, ha⟩ : ∃ a, la[k]? = some a := ⟨_, List.getElem?_eq_getElem (by rw [HN.out]; exact hlt)⟩
          obtain ⟨b, hb'⟩ : ∃ b, lb[k]? = some b := ⟨_, List.getElem?_eq_getElem (by rw [← HL.out]; exact hlt)⟩
          obtain ⟨a0, a1, a2⟩ := (HX.out k a ha).sp.quiet HQ.out
          obtain ⟨b0, b1, b2⟩ := (HX2.out k b hb').sp.quiet HQ.out
          have HA := Lib.hid ha
          have HB := Lib.hid hb'
          clear ha hb'
          by_cases he : a = b
          · have HE : Hid (la.take (k + 1) = lb.take (k + 1)) := Lib.hid (take_eq_succ HT.out HA.out HB.out he)
            have hd : decide (a = b) = true := by simp [he]
            clear he
            go_wp2
            go_quiet (fail)
            go_wp2
            go_roundw
            case rel => exact ⟨k + 1, by omega, by go_num, quiet_more HQ.out _, HE.out⟩
            case measure => simp [intOf]; omega
          · have HE : Hid (la ≠ lb) := Lib.hid (ne_of_at HA.out HB.out he)
            have hd : decide (a = b) = false := by simp [he]
            clear he
            go_wp2
            go_quiet (fail)
            go_wp2
            go_ret
            exact ⟨ret_bool (by simp [HE.out]), quiet_more HQ.out _⟩
        · have HE : Hid (la = lb) := Lib.hid (eq_of_take HT.out (by rw [HN.out]; omega) (by rw [← HL.out]; omega))
          go_wp2
          go_ret
          exact ⟨ret_bool (by simp [HE.out]), HQ.out⟩
  · obtain ⟨A, c, rfl, -⟩ := ha
    obtain ⟨B, d, rfl, -⟩ := hb
    have HE : Hid (la ≠ lb) := Lib.hid (fun h => hl (by rw [h]))
    have hz : ((la.length : Int) == lb.length) = false := by simp; omega
    have hz2 : ((la.length : Int) != lb.length) = true := by simp; omega
    clear hl
    go_enter Tryz.func81, Tryz.ntmps81
    go_wp2
    go_ret
    exact ⟨ret_bool (by simp [HE.out]), hB⟩
end Go.Proofs.YtafbojiojeemoaaGreatDoor

/-
  path's Apart (two paths with a common beginning).
-/
namespace Go.Proofs.YtafbojiojeemoaaGreatDoor
open Go.RowKit Np Rw Vp Pw

theorem apart_min : ∀ p q : List St, apartP p q = !decide (p.take (min p.length q.length) = q.take (min p.length q.length))
  | [], q => by simp [apartP]
  | s :: p, [] => by simp [apartP]
  | s :: p, s' :: q => by
    rw [apartP, List.length_cons, List.length_cons, show min (p.length + 1) (q.length + 1) = min p.length q.length + 1 by omega, List.take_succ_cons, List.take_succ_cons, apart_min p q]
    by_cases h : s = s'
    · rw [if_pos h, h]; simp
    · rw [if_neg h]; simp [h]
set_option maxRecDepth 100000 in
set_option maxHeartbeats 2000000 in
theorem papart_pos (pv qv : Value) (p q : List St) (w : World) (hp : Sps w pv p) (hq : Sps w qv q) (h0 : 0 < min p.length q.length) (h1 : p.length ≤ 1000000) (h2 : q.length ≤ 1000000) :
    Calls Tryz.prog 43 #[pv, qv] w fun e w' => e = .returned (.bool (apartP p q)) ∧ ∃ n, w' = w.drewN n := by
  have HR := Lib.hid (apart_min p q)
  obtain ⟨g, o, c, rfl, hc, hcm, hg, hx⟩ := hp.opened (by omega)
  obtain ⟨g2, o2, c2, rfl, hc2, hcm2, hg2, hx2⟩ := hq.opened (by omega)
  have HE := Lib.hid (fun (W : World) (hw : ∃ n, W = w.drewN n) => equalP_quiet _ _ _ _ W ((hp.front (min p.length q.length) (by omega) (by omega) hcm).quiet hw) ((hq.front (min p.length q.length) (by omega) (by omega) hcm2).quiet hw))
  clear hx hx2 hp hq
  generalize hb : min p.length q.length = b at *
  have hbi : min (p.length : Int) (q.length : Int) = (b : Int) := by omega
  have hb1 : b ≤ p.length := by omega
  have hb2 : b ≤ q.length := by omega
  generalize decide (p.take b = q.take b) = B at *
  generalize apartP p q = R at *
  clear hb
  generalize p.length = n at *
  generalize q.length = m at *
  go_enter Tryz.func43, Tryz.ntmps43
  go_upto_region 2 with fail
  go_region_with (first | (go_at_call 81; refine (HE.out _ ⟨1, rfl⟩).mono ?_; rintro e w3 ⟨rfl, hq3⟩))
  all_goals go_wp2_with fail
  all_goals go_ret
  all_goals exact ⟨ret_bool HR.out.symm, by obtain ⟨k, rfl⟩ := hq3; exact ⟨1 + k, by rw [← World.drewN_drewN]⟩⟩
end Go.Proofs.YtafbojiojeemoaaGreatDoor

/-
  path's Apart: one of the two paths is empty; both cases together.
-/
namespace Go.Proofs.YtafbojiojeemoaaGreatDoor
open Go.RowKit Np Rw Vp Pw

set_option maxRecDepth 100000 in
set_option maxHeartbeats 2000000 in
theorem papart_zero (pv qv : Value) (p q : List St) (w : World) (hp : Sps w pv p) (hq : Sps w qv q) (h0 : min p.length q.length = 0) (h1 : p.length ≤ 1000000) (h2 : q.length ≤ 1000000) :
    Calls Tryz.prog 43 #[pv, qv] w fun e w' => e = .returned (.bool (apartP p q)) ∧ ∃ n, w' = w.drewN n := by
  have HR := Lib.hid (apart_min p q)
  rw [h0] at HR
  have HR2 : Hid (apartP p q = false) := Lib.hid (by rw [HR.out]; simp)
  obtain ⟨A, c, rfl, hc, hcm, hcz, -⟩ := hp
  obtain ⟨B, d, rfl, hd, hdm, hdz, -⟩ := hq
  have hbi : min (p.length : Int) (q.length : Int) = 0 := by omega
  generalize apartP p q = R at *
  clear h0
  generalize p.length = n at *
  generalize q.length = m at *
  cases A with
  | none =>
    obtain rfl := hcz rfl
    obtain rfl : n = 0 := by omega
    cases B with
    | none =>
      obtain rfl := hdz rfl
      obtain rfl : m = 0 := by omega
      go_enter Tryz.func43, Tryz.ntmps43
      go_upto_region 2 with fail
      go_region_with (first | (go_at_call 81; refine (equalP_quiet _ _ [] [] _ (Row.nil _) (Row.nil _)).mono ?_; rintro e w3 ⟨rfl, hq3⟩))
      all_goals go_wp2_with fail
      all_goals go_ret
      all_goals exact ⟨ret_bool (by rw [HR2.out]; first | done | simp), by obtain ⟨k, rfl⟩ := hq3; exact ⟨1 + k, by rw [← World.drewN_drewN]; first | done | rfl⟩⟩
    | some ad =>
      have HZ : (min 0 (m : Int)).toNat = 0 := by omega
      go_enter Tryz.func43, Tryz.ntmps43
      go_upto_region 2 with fail
      go_region_with (first | (go_at_call 81; (try rw [HZ]); refine (equalP_quiet _ _ [] [] _ (Row.nil _) (Row.empty _ _ _ hdm)).mono ?_; rintro e w3 ⟨rfl, hq3⟩))
      all_goals go_wp2_with fail
      all_goals go_ret
      all_goals exact ⟨ret_bool (by rw [HR2.out]; first | done | simp), by obtain ⟨k, rfl⟩ := hq3; exact ⟨1 + k, by rw [← World.drewN_drewN]; first | done | rfl⟩⟩
  | some ad2 =>
    cases B with
    | none =>
      obtain rfl := hdz rfl
      obtain rfl : m = 0 := by omega
      have HZ : (min (n : Int) 0).toNat = 0 := by omega
      go_enter Tryz.func43, Tryz.ntmps43
      go_upto_region 2 with fail
      go_region_with (first | (go_at_call 81; (try rw [HZ]); refine (equalP_quiet _ _ [] [] _ (Row.empty _ _ _ hcm) (Row.nil _)).mono ?_; rintro e w3 ⟨rfl, hq3⟩))
      all_goals go_wp2_with fail
      all_goals go_ret
      all_goals exact ⟨ret_bool (by rw [HR2.out]; first | done | simp), by obtain ⟨k, rfl⟩ := hq3; exact ⟨1 + k, by rw [← World.drewN_drewN]; first | done | rfl⟩⟩
    | some ad =>
      have HZ : (min (n : Int) (m : Int)).toNat = 0 := by omega
      go_enter Tryz.func43, Tryz.ntmps43
      go_upto_region 2 with fail
      go_region_with (first | (go_at_call 81; (try rw [HZ]); refine (equalP_quiet _ _ [] [] _ (Row.empty _ _ _ hcm) (Row.empty _ _ _ hdm)).mono ?_; rintro e w3 ⟨rfl, hq3⟩))
      all_goals go_wp2_with fail
      all_goals go_ret
      all_goals exact ⟨ret_bool (by rw [HR2.out]; first | done | simp), by obtain ⟨k, rfl⟩ := hq3; exact ⟨1 + k, by rw [← World.drewN_drewN]; first | done | rfl⟩⟩
theorem papart_any (pv qv : Value) (p q : List St) (w : World) (hp : Sps w pv p) (hq : Sps w qv q) (h1 : p.length ≤ 1000000) (h2 : q.length ≤ 1000000) :
    Calls Tryz.prog 43 #[pv, qv] w fun e w' => e = .returned (.bool (apartP p q)) ∧ ∃ n, w' = w.drewN n := by
  rcases Nat.eq_zero_or_pos (min p.length q.length) with h0 | h0
  · exact papart_zero pv qv p q w hp hq h0 h1 h2
  · exact papart_pos pv qv p q w hp hq h0 h1 h2
end Go.Proofs.YtafbojiojeemoaaGreatDoor

/-
  The document's own Apart and Same of paths.
-/
namespace Go.Proofs.YtafbojiojeemoaaGreatDoor
open Go.RowKit Np Rw Vp Pw

theorem apart_at {p q : List St} {k : Nat} {a b : St} (ha : p[k]? = some a) (hb : q[k]? = some b) (hne : a ≠ b) : apartP p q = true := by
  rw [apart_min]
  have h1 := (List.getElem?_eq_some_iff.mp ha).1
  have h2 := (List.getElem?_eq_some_iff.mp hb).1
  simp only [Bool.not_eq_true', decide_eq_false_iff_not]
  intro h
  have e1 : (p.take (min p.length q.length))[k]? = some a := by rw [List.getElem?_take, if_pos (by omega), ha]
  have e2 : (q.take (min p.length q.length))[k]? = some b := by rw [List.getElem?_take, if_pos (by omega), hb]
  rw [h, e2] at e1
  exact hne (by cases e1; rfl)
theorem apart_none {p q : List St} {k : Nat} (h : p.take k = q.take k) (hk : k ≤ p.length ∧ k ≤ q.length) (hs : k = p.length ∨ k = q.length) : apartP p q = false := by
  rw [apart_min, show min p.length q.length = k by omega, h]
  simp
set_option maxRecDepth 100000 in
set_option maxHeartbeats 1000000 in
theorem refApart_any (va vb : Value) (la lb : List St) (w : World) (ha : Sps w va la) (hb : Sps w vb lb) :
    Calls Tryz.prog 46 #[va, vb] w fun e w' => e = .returned (.bool (apartP la lb)) ∧ ∃ n, w' = w.drewN n := by
  have hneq := neq_st
  have hlen := ha.len
  have hlen2 := hb.len
  have HA := Lib.hid ha
  have HB := Lib.hid hb
  obtain ⟨A, c, rfl, hc, hcm, -, -⟩ := ha
  obtain ⟨B, d, rfl, hd, hdm, -, -⟩ := hb
  have HAt := Lib.hid (fun k a b => @apart_at la lb k a b)
  have HNo := Lib.hid (fun k => @apart_none la lb k)
  generalize apartP la lb = R at *
  generalize hn : la.length = n at *
  generalize hm : lb.length = m at *
  have HN := Lib.hid hn
  have HM := Lib.hid hm
  clear hn hm
  unfold maxLen at hlen hlen2
  go_enter Tryz.func46, Tryz.ntmps46
  go_wp2
  go_loopw [5] (fun i wr => ∃ k : Nat, k ≤ n ∧ k ≤ m ∧ i = .int .i64 k ∧ (∃ m, wr = w.drewN m) ∧ la.take k = lb.take k) (fun i _ => n - (intOf i).toNat)
  case atStart => exact ⟨0, Nat.zero_le _, Nat.zero_le _, rfl, ⟨0, rfl⟩, rfl⟩
  case round =>
    obtain ⟨k, hk, hk2, rfl, hq, ht⟩ := hrel
    have HQ := Lib.hid hq; clear hq
    have HT := Lib.hid ht; clear ht
    by_cases hlt : k < n
    · by_cases hlt2 : k < m
      · obtain ⟨a, ha⟩ : ∃ a, la[k]? = some a := ⟨_, List.getElem?_eq_getElem (by rw [HN.out]; exact hlt)⟩
        obtain ⟨b, hb⟩ : ∃ b, lb[k]? = some b := ⟨_, List.getElem?_eq_getElem (by rw [HM.out]; exact hlt2)⟩
        obtain ⟨g, o, c', hv, -, -, -, hx⟩ := HA.out.opened (by rw [HN.out]; omega)
        obtain ⟨g2, o2, c2', hv2, -, -, -, hx2⟩ := HB.out.opened (by rw [HM.out]; omega)
        cases hv
        cases hv2
        obtain ⟨a0, a1, a2⟩ := (hx k a ha).sp.quiet HQ.out
        obtain ⟨b0, b1, b2⟩ := (hx2 k b hb).sp.quiet HQ.out
        clear hx hx2
        have HA' := Lib.hid ha
        have HB' := Lib.hid hb
        clear ha hb
        by_cases he : a = b
        · have HE : Hid (la.take (k + 1) = lb.take (k + 1)) := Lib.hid (take_eq_succ HT.out HA'.out HB'.out he)
          have hd' : decide (a = b) = true := by simp [he]
          clear he
          go_wp2
          go_quiet (fail)
          go_wp2
          go_roundw
          case rel => exact ⟨k + 1, by omega, by omega, by go_num, quiet_more HQ.out _, HE.out⟩
          case measure => simp [intOf]; omega
        · have HE : Hid (R = true) := Lib.hid (HAt.out k a b HA'.out HB'.out he)
          have hd' : decide (a = b) = false := by simp [he]
          clear he
          go_wp2
          go_quiet (fail)
          go_wp2
          go_ret
          exact ⟨ret_bool HE.out.symm, quiet_more HQ.out _⟩
      · have HE : Hid (R = false) := Lib.hid (HNo.out k HT.out ⟨hk, hk2⟩ (.inr (by omega)))
        go_wp2
        go_ret
        exact ⟨ret_bool HE.out.symm, HQ.out⟩
    · have HE : Hid (R = false) := Lib.hid (HNo.out k HT.out ⟨hk, hk2⟩ (.inl (by omega)))
      go_wp2
      go_ret
      exact ⟨ret_bool HE.out.symm, HQ.out⟩
theorem same_iff (p q : List St) (hl : p.length = q.length) : (!apartP p q) = decide (p = q) := by
  rw [apart_min, ← hl, Nat.min_self, List.take_length, hl, List.take_length, Bool.not_not]
set_option maxHeartbeats 400000 in
theorem refSameP_any (va vb : Value) (la lb : List St) (w : World) (ha : Sps w va la) (hb : Sps w vb lb) :
    Calls Tryz.prog 24 #[va, vb] w fun e w' => e = .returned (.bool (decide (la = lb))) ∧ ∃ n, w' = w.drewN n := by
  have HA := Lib.hid ha
  have HB := Lib.hid hb
  obtain ⟨A, c, rfl, -⟩ := ha
  obtain ⟨B, d, rfl, -⟩ := hb
  by_cases hl : la.length = lb.length
  · have HE := Lib.hid (same_iff la lb hl)
    have HF := Lib.hid (refApart_any _ _ la lb w HA.out HB.out)
    rw [← hl] at HF ⊢
    clear hl
    go_enter Tryz.func24, Tryz.ntmps24
    go_wp2_with fail
    refine HF.out.mono ?_
    rintro e w1 ⟨rfl, hq⟩
    have HQ := Lib.hid hq
    clear hq
    generalize apartP la lb = R at *
    go_wp2_with fail
    go_ret
    exact ⟨ret_bool HE.out, HQ.out⟩
  · have HE : Hid (decide (la = lb) = false) := Lib.hid (by simp; intro h; exact hl (by rw [h]))
    have hz : ((la.length : Int) == lb.length) = false := by simp; omega
    clear hl
    go_enter Tryz.func24, Tryz.ntmps24
    go_wp2_with fail
    go_ret
    exact ⟨ret_bool HE.out.symm, ⟨0, rfl⟩⟩
end Go.Proofs.YtafbojiojeemoaaGreatDoor

/-
  The document's own Right of paths.
-/
namespace Go.Proofs.YtafbojiojeemoaaGreatDoor
open Go.RowKit Np Rw Vp Pw

set_option maxRecDepth 100000 in
set_option maxHeartbeats 1000000 in
theorem refRightP_any (pv : Value) (p : List St) (w : World) (hp : Sps w pv p) (hs : ∀ s ∈ p, s.name.length ≤ maxLen) :
    Calls Tryz.prog 26 #[pv] w fun e w' => e = .returned (.bool (rightP p)) ∧ w' = w := by
  have HS := Lib.hid hs
  have hlen := hp.len
  have HXP : Hid (∀ k s, p[k]? = some s → ∃ g o c, pv = .slice (some ⟨g, o, none⟩) p.length c ∧ g < w.heap.size ∧ Sp3 w g (o + k * 3) s) := Lib.hid fun k s hs => by
    obtain ⟨g, o, c, hv, -, -, hg, hx⟩ := hp.opened (by have := (List.getElem?_eq_some_iff.1 hs).1; omega)
    exact ⟨g, o, c, hv, hg, (hx k s hs).sp⟩
  obtain ⟨P, pc, rfl, -⟩ := hp
  clear hs
  generalize hRR : rightP p = R at *
  have HR : Hid (R = (p.all rightS && decide (p.length ≤ 20))) := Lib.hid (by rw [← hRR, rightP])
  clear hRR
  generalize hpp : p.length = n at *
  have HP := Lib.hid hpp
  clear hpp
  unfold maxLen at hlen
  go_enter Tryz.func26, Tryz.ntmps26
  go_wp2_with fail
  go_loopw [3] (fun iv wr => ∃ k : Nat, k ≤ n ∧ iv = .int .i64 k ∧ Hid ((p.take k).all rightS = true) ∧ wr = w) (fun iv _ => n - (intOf iv).toNat)
  case atStart => exact ⟨0, Nat.zero_le _, rfl, Lib.hid (by simp), rfl⟩
  case round =>
    obtain ⟨k, hk, rfl, HA, rfl⟩ := hrel
    by_cases hlt : k < n
    · have hkp : k < p.length := by rw [HP.out]; exact hlt
      obtain ⟨gp, op, cp, e1, hgp, hs3⟩ := HXP.out k _ (List.getElem?_eq_getElem hkp)
      injection e1 with e1 e2 e3
      subst e1 e3
      obtain ⟨s0, s1, s2⟩ := hs3
      have htk : p.take (k + 1) = p.take k ++ [p[k]] := List.take_succ_eq_append_getElem hkp
      have HTK := Lib.hid htk
      have HSN := Lib.hid (HS.out _ (List.getElem_mem hkp))
      have HMEM : Hid (p[k] ∈ p) := Lib.hid (List.getElem_mem hkp)
      have HBAD : Hid (rightS p[k] = false → R = false) := Lib.hid (fun hr => by
        rw [HR.out]
        have : p.all rightS = false := by
          rw [List.all_eq_false]
          exact ⟨p[k], HMEM.out, by rw [hr]; simp⟩
        rw [this]; rfl)
      clear e2 htk
      generalize p[k] = s at *
      obtain ⟨sp, nm, sn⟩ := s
      have HRE : Hid (rightS ⟨sp, nm, sn⟩ = if sp then decide (nm = []) && decide (0 ≤ sn) && decide (sn ≤ 1000000) else decide (sn = 0) && vld nm) := Lib.hid rfl
      cases sp with
      | true =>
        by_cases h1 : nm = []
        · subst h1
          by_cases h2 : 0 ≤ sn
          · by_cases h3 : sn ≤ 1000000
            · have HRS : Hid (rightS ⟨true, [], sn⟩ = true) := Lib.hid (by rw [HRE.out]; simp [h2, h3])
              have HA2 : Hid ((p.take (k + 1)).all rightS = true) := Lib.hid (by rw [HTK.out, List.all_append, HA.out]; simp [HRS.out])
              go_wp2_with fail
              go_roundw
              case rel => exact ⟨k + 1, by omega, by go_num, HA2, by first | trivial | rfl⟩
              case measure => simp [intOf]; omega
            · have HRS : Hid (rightS ⟨true, [], sn⟩ = false) := Lib.hid (by rw [HRE.out]; simp [h3])
              have HF : Hid (R = false) := Lib.hid (HBAD.out HRS.out)
              go_wp2_with fail
              go_ret
              exact ⟨ret_bool HF.out.symm, rfl⟩
          · have HRS : Hid (rightS ⟨true, [], sn⟩ = false) := Lib.hid (by rw [HRE.out]; simp [h2])
            have HF : Hid (R = false) := Lib.hid (HBAD.out HRS.out)
            go_wp2_with fail
            go_ret
            exact ⟨ret_bool HF.out.symm, rfl⟩
        · have HRS : Hid (rightS ⟨true, nm, sn⟩ = false) := Lib.hid (by rw [HRE.out]; simp [h1])
          have h2 : (nm == []) = false := by simpa using h1
          have HF : Hid (R = false) := Lib.hid (HBAD.out HRS.out)
          go_wp2_with fail
          go_ret
          exact ⟨ret_bool HF.out.symm, rfl⟩
      | false =>
        by_cases h1 : sn = 0
        · subst h1
          have HU := Lib.hid (refUtf_any ⟨nm.toArray⟩ wr HSN.out)
          cases hv : vld nm with
          | true =>
            have HRS : Hid (rightS ⟨false, nm, 0⟩ = true) := Lib.hid (by rw [HRE.out]; simp [hv])
            rw [show Lib.validD (ByteArray.mk nm.toArray).data.toList = true from hv] at HU
            clear hv
            have HA2 : Hid ((p.take (k + 1)).all rightS = true) := Lib.hid (by rw [HTK.out, List.all_append, HA.out]; simp [HRS.out])
            go_wp2_with (go_at_call 38; refine (HU.out).mono ?_; rintro e w3 ⟨rfl, rfl⟩)
            go_roundw
            case rel => exact ⟨k + 1, by omega, by go_num, HA2, by first | trivial | rfl⟩
            case measure => simp [intOf]; omega
          | false =>
            have HRS : Hid (rightS ⟨false, nm, 0⟩ = false) := Lib.hid (by rw [HRE.out]; simp [hv])
            rw [show Lib.validD (ByteArray.mk nm.toArray).data.toList = false from hv] at HU
            clear hv
            have HF : Hid (R = false) := Lib.hid (HBAD.out HRS.out)
            go_wp2_with (go_at_call 38; refine (HU.out).mono ?_; rintro e w3 ⟨rfl, rfl⟩)
            go_ret
            exact ⟨ret_bool HF.out.symm, rfl⟩
        · have HRS : Hid (rightS ⟨false, nm, sn⟩ = false) := Lib.hid (by rw [HRE.out]; simp [h1])
          have h2 : (sn == 0) = false := by simpa using h1
          have HF : Hid (R = false) := Lib.hid (HBAD.out HRS.out)
          go_wp2_with fail
          go_ret
          exact ⟨ret_bool HF.out.symm, rfl⟩
    · obtain rfl : k = n := by omega
      have HF : Hid (R = decide (k ≤ 20)) := Lib.hid (by
        have h1 := HA.out
        rw [List.take_of_length_le (by rw [HP.out]; omega)] at h1
        rw [HR.out, h1]; rfl)
      go_wp2_with fail
      go_ret
      exact ⟨ret_bool (by rw [HF.out]; simp; try omega), rfl⟩
end Go.Proofs.YtafbojiojeemoaaGreatDoor

/-
  Is a path short enough to be tried: no more than 31 steps, no name longer than 100 bytes.
-/
namespace Go.Proofs.YtafbojiojeemoaaGreatDoor
open Go.RowKit Np Rw Vp Pw

def shortS (s : St) : Bool := decide (s.name.length ≤ 100)
def fewP (p : List St) : Bool := decide (p.length ≤ 31) && p.all shortS
set_option maxRecDepth 100000 in
set_option maxHeartbeats 1000000 in
theorem lawFew_any (pv : Value) (p : List St) (w : World) (hp : Sps w pv p) (hs : ∀ s ∈ p, s.name.length ≤ maxLen) :
    Calls Tryz.prog 20 #[pv] w fun e w' => e = .returned (.bool (fewP p)) ∧ w' = w := by
  have HS := Lib.hid hs
  have hlen := hp.len
  have HXP : Hid (∀ k s, p[k]? = some s → ∃ g o c, pv = .slice (some ⟨g, o, none⟩) p.length c ∧ g < w.heap.size ∧ Sp3 w g (o + k * 3) s) := Lib.hid fun k s hs => by
    obtain ⟨g, o, c, hv, -, -, hg, hx⟩ := hp.opened (by have := (List.getElem?_eq_some_iff.1 hs).1; omega)
    exact ⟨g, o, c, hv, hg, (hx k s hs).sp⟩
  obtain ⟨P, pc, rfl, -⟩ := hp
  clear hs
  generalize hRR : fewP p = R at *
  have HR : Hid (R = (decide (p.length ≤ 31) && p.all shortS)) := Lib.hid (by rw [← hRR, fewP])
  clear hRR
  generalize hpp : p.length = n at *
  have HP := Lib.hid hpp
  clear hpp
  unfold maxLen at hlen
  go_enter Tryz.func20, Tryz.ntmps20
  go_wp2_with fail
  go_loopw [3] (fun iv wr => ∃ k : Nat, k ≤ n ∧ iv = .int .i64 k ∧ Hid ((p.take k).all shortS = true ∧ k ≤ 31) ∧ wr = w) (fun iv _ => n - (intOf iv).toNat)
  case atStart => exact ⟨0, Nat.zero_le _, rfl, Lib.hid ⟨by simp, by omega⟩, rfl⟩
  case round =>
    obtain ⟨k, hk, rfl, HA, rfl⟩ := hrel
    by_cases hlt : k < n
    · have hkp : k < p.length := by rw [HP.out]; exact hlt
      obtain ⟨gp, op, cp, e1, hgp, hs3⟩ := HXP.out k _ (List.getElem?_eq_getElem hkp)
      injection e1 with e1 e2 e3
      subst e1 e3
      obtain ⟨s0, s1, s2⟩ := hs3
      have htk : p.take (k + 1) = p.take k ++ [p[k]] := List.take_succ_eq_append_getElem hkp
      have HTK := Lib.hid htk
      have hsn := HS.out _ (List.getElem_mem hkp)
      have HMEM : Hid (p[k] ∈ p) := Lib.hid (List.getElem_mem hkp)
      clear e2 htk
      generalize p[k] = s at *
      obtain ⟨sp, nm, sn⟩ := s
      have hsn' : nm.length ≤ 2 ^ 63 - 1 := hsn
      by_cases h1 : k > 30
      · have HF : Hid (R = false) := Lib.hid (by rw [HR.out]; simp; intro h; omega)
        go_wp2_with fail
        go_ret
        exact ⟨ret_bool HF.out.symm, rfl⟩
      · by_cases h2 : nm.length > 100
        · have HF : Hid (R = false) := Lib.hid (by
            rw [HR.out]
            have : p.all shortS = false := by
              rw [List.all_eq_false]
              exact ⟨_, HMEM.out, by simp [shortS]; omega⟩
            rw [this, Bool.and_false])
          go_wp2_with fail
          go_ret
          exact ⟨ret_bool HF.out.symm, rfl⟩
        · have HA2 : Hid ((p.take (k + 1)).all shortS = true ∧ k + 1 ≤ 31) := Lib.hid ⟨by rw [HTK.out, List.all_append, HA.out.1]; simp [shortS]; omega, by omega⟩
          go_wp2_with fail
          go_roundw
          case rel => exact ⟨k + 1, by omega, by go_num, HA2, by first | trivial | rfl⟩
          case measure => simp [intOf]; omega
    · obtain rfl : k = n := by omega
      have HF : Hid (R = true) := Lib.hid (by
        have h1 := HA.out.1
        rw [List.take_of_length_le (by rw [HP.out]; omega)] at h1
        rw [HR.out, h1]; simp [HA.out.2])
      go_wp2_with fail
      go_ret
      exact ⟨ret_bool HF.out.symm, rfl⟩
end Go.Proofs.YtafbojiojeemoaaGreatDoor
