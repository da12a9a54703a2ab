/-
  Joined: RefW2, FwA0, FwA, FrA, PT4, PT5a, PT5b, FrC.
-/
import Derived.Test.YtdgcdemihalefaaGreatDoorMem
import Derived.Outline
import Derived.Test.YtdgcdemihalefaaGreatDoorTermTellsJ1
import Derived.Test.YtdgcdemihalefaaGreatDoorTermTellsJ2
import Derived.Test.YtdgcdemihalefaaGreatDoorRefW3
import Derived.Test.YtdgcdemihalefaaGreatDoorTermTellsJ7
import Derived.Deep.RegionHeld3
import Derived.Deep.RegionLaw
import Derived.Test.YtdgcdemihalefaaGreatDoorRefW1
import Derived.Sort.Walk0
namespace Go.Proofs.YtdgcdemihalefaaGreatDoor
open Go.RowKit Np
theorem take_eq_succ {α : Type} {a b : List α} {k : Nat} {x y : α} (h : a.take k = b.take k) (hx : a[k]? = some x) (hy : b[k]? = some y) (he : x = y) : a.take (k + 1) = b.take (k + 1) := by
  rw [List.take_add_one, List.take_add_one, h, hx, hy, he]
theorem ne_of_at {α : Type} {a b : List α} {k : Nat} {x y : α} (hx : a[k]? = some x) (hy : b[k]? = some y) (he : x ≠ y) : a ≠ b := by
  rintro rfl
  rw [hx] at hy
  exact he (Option.some.inj hy)
theorem eq_of_take {α : Type} {a b : List α} {k : Nat} (h : a.take k = b.take k) (ha : a.length ≤ k) (hb : b.length ≤ k) : a = b := by
  rwa [List.take_of_length_le ha, List.take_of_length_le hb] at h
end Go.Proofs.YtdgcdemihalefaaGreatDoor
namespace Go.Proofs.YtdgcdemihalefaaGreatDoor
open Go.RowKit Np Rw Vp Pw Fw
theorem fskip_bound : ∀ (l : List Tm) (q : Nat) (r : List Tm), skip tmany l q = some r → q + r.length ≤ l.length := by
  intro l q r h
  obtain ⟨ts, -, h2, rfl⟩ := skip_inv l q r h
  have := flats_len ts
  rw [List.length_append]; omega
theorem fskip_step {n : Tm} {l : List Tm} {q : Nat} {r : List Tm} (h : skip tmany (n :: l) (q + 1) = some r) : ∃ k : Nat, n.many = k ∧ skip tmany l (q + k) = some r := by
  rw [skip_cons] at h
  by_cases hn : tmany n < 0
  · rw [if_pos hn] at h; cases h
  · rw [if_neg hn] at h
    exact ⟨n.many.toNat, by have : 0 ≤ n.many := by unfold tmany at hn; omega
                            omega, h⟩
set_option maxHeartbeats 1000000 in
theorem fpast_any (v : Value) (l : List Tm) (a m : Nat) (r : List Tm) (w : World) (hv : Tms w v l) (ha : a ≤ l.length) (hs : skip tmany (l.drop a) 1 = some r) (hl : l.length ≤ 1000000) (hm : m + r.length = l.length) :
    Calls Tryz.prog 60 #[v, .int .i64 a] w fun e w' => e = .returned (.int .i64 m) ∧ w' = w := by
  have h0 : 0 < l.length := by
    have := fskip_bound _ _ _ hs
    rw [List.length_drop] at this
    omega
  obtain ⟨g, o, c, rfl, hc, hcm, hg, hx⟩ := hv.opened h0
  have HX := Lib.hid hx
  have HS0 := Lib.hid hs
  have HM := Lib.hid hm
  clear hx hv hs hm
  unfold maxLen at hcm
  generalize hn : l.length = N at *
  have HN := Lib.hid hn; clear hn
  go_enter Tryz.func60, Tryz.ntmps60
  go_wp2_with fail
  go_loopw [5, 1] (fun mv av wr => ∃ (j q : Nat), j ≤ N ∧ mv = .int .i64 q ∧ av = .int .i64 j ∧ Hid (skip tmany (l.drop j) q = some r) ∧ wr = w) (fun _ av _ => N - (intOf av).toNat)
  case atStart => exact ⟨a, 1, ha, rfl, rfl, HS0, rfl⟩
  case round =>
    obtain ⟨j, q, hj, rfl, rfl, HS, rfl⟩ := hrel
    have hb := fskip_bound _ _ _ HS.out
    rw [List.length_drop, HN.out] at hb
    rcases Nat.eq_zero_or_pos q with hq | hq
    · subst hq
      have hr : l.drop j = r := by have := HS.out; rw [skip_zero] at this; injection this
      have hjm : j = m := by
        have h1 := congrArg List.length hr
        rw [List.length_drop, HN.out] at h1
        have := HM.out
        omega
      subst hjm
      go_wp2_with fail
      go_ret
      exact ⟨rfl, rfl⟩
    · have hjn : j < N := by omega
      obtain ⟨x, hx⟩ : ∃ x, l[j]? = some x := ⟨_, List.getElem?_eq_getElem (by rw [HN.out]; exact hjn)⟩
      have hd : l.drop j = x :: l.drop (j + 1) := by
        obtain ⟨h1, h2⟩ := List.getElem?_eq_some_iff.1 hx
        rw [← h2, List.getElem_cons_drop]
      obtain ⟨q', rfl⟩ : ∃ q', q = q' + 1 := ⟨q - 1, by omega⟩
      obtain ⟨k, hk, hs2⟩ := fskip_step (hd ▸ HS.out)
      have hb2 := fskip_bound _ _ _ hs2
      rw [List.length_drop, HN.out] at hb2
      have c1 := (HX.out j x hx).tm.c1
      rw [hk] at c1
      have HS2 := Lib.hid hs2
      clear hs2 hd hk hx
      go_wp2_with fail
      refine ⟨⟨j + 1, q' + k, by omega, by congr 1; omega, by go_num, HS2, trivial⟩, ?_⟩
      simp [intOf]; omega
set_option maxRecDepth 100000 in
set_option maxHeartbeats 1000000 in
theorem fclone_any (v : Value) (l : List Tm) (w : World) (hv : Tms w v l) (hl : l.length ≤ 65536) :
    Calls Tryz.prog 61 #[v] w (OwnsT w l) := by
  have hvH := Lib.hid hv
  have hnil := fun (W : World) (a : Option Addr) (n c : Nat) => Lib.run_eql_slice_nil (P := Tryz.prog) W 23 47 a n c 0 0 Tryz.underlying23
  obtain ⟨A, c, rfl, hc, hcm, hz, -⟩ := hv
  cases A with
  | none =>
    have := hz rfl
    subst this
    have hl0 : l.length = 0 := by omega
    have := List.eq_nil_of_length_eq_zero hl0
    subst this
    simp only [List.length_nil]
    clear hl0 hz hc hvH
    go_enter Tryz.func61, Tryz.ntmps61
    go_wp2_with fail
    go_ret
    exact ⟨_, rfl, Own.nil _, Below.refl _ _⟩
  | some ad =>
    have HO : Hid (OwnT w.heap.size (w.alloc (.cells #[] 47)) (.slice (some ⟨w.heap.size, 0, none⟩) 0 0) []) := Lib.hid (Own.lit (l := []) tmc_len w #[] (Nat.le_refl _) (Nat.zero_le _) rfl)
    have HR : Hid (Tms (w.alloc (.cells #[] 47)) (.slice (some ad) l.length c) l) := Lib.hid (hvH.out.below ((Below.refl _ _).alloc (Nat.le_refl _) _))
    clear hz
    go_enter Tryz.func61, Tryz.ntmps61
    go_wp2_with (at_builtin; refine wpList_append_row (base := w.heap.size) elTerm rfl _ _ rfl rfl HO.out rfl HR.out ?_ ?_ ?_ ?_)
    · unfold maxLen; simp only [List.length_nil]; omega
    · simp only [List.length_nil]; omega
    · simp
    · intro A' c' w2 hown2 hg2 _
      have HOW := Lib.hid hown2
      have HB2 : Hid (Below w.heap.size w w2) := Lib.hid (((Below.refl _ _).alloc (Nat.le_refl _) _).trans (HO.out.kept hg2 (by simp)))
      clear hown2 hg2
      go_wp2_with fail
      go_ret
      exact ⟨_, rfl, HOW.out, HB2.out⟩
set_option maxHeartbeats 1000000 in
theorem fown_any (v : Value) (n : Tm) (l : List Tm) (w : World) (hv : Tms w v (n :: l)) (hl : (n :: l).length ≤ 65536) :
    Calls Tryz.prog 32 #[v] w (OwnsT w (noNm n :: l)) := by
  have hvH := Lib.hid hv
  clear hv
  go_enter Tryz.func32, Tryz.ntmps32
  go_wp2_with fail
  refine (fclone_any _ _ _ hvH.out hl).mono ?_
  rintro e w1 ⟨v1, rfl, ho1, hb1⟩
  obtain ⟨g, cap, rfl, hg, hglt⟩ := ho1.opened (by simp)
  have HO := Lib.hid ho1
  have k2 := Own.cell tmc_len (k := 0) (j := 2) ho1 rfl rfl
  have f2 := ho1.free 2
  simp only [Nat.zero_mul, Nat.zero_add] at k2
  have HP : Hid (OwnT w.heap.size (w1.setCell ⟨g, 2, none⟩ (.string ⟨#[]⟩)) (.slice (some ⟨g, 0, none⟩) (n :: l).length cap) (noNm n :: l)) := Lib.hid (by
    have := Own.put tmc_len (k := 0) (j := 2) (y := noNm n) (u := .string ⟨#[]⟩) ho1 rfl (by decide) rfl
    simpa using this)
  clear ho1
  have hpos : 0 < (n :: l).length := by simp
  generalize (n :: l).length = N at *
  go_wp2_with fail
  go_ret
  exact ⟨_, rfl, HP.out, hb1.setCell (p := ⟨g, 2, none⟩) hg _⟩
set_option maxHeartbeats 1000000 in
theorem fequal_quiet (va vb : Value) (la lb : List Tm) (w : World) (ha : Tms w va la) (hb : Tms w vb lb) :
    Calls Tryz.prog 30 #[va, vb] w fun e w' => e = .returned (.bool (decide (la = lb))) ∧ ∃ n, w' = w.drewN n := by
  have hB : ∃ n, w = w.drewN n := ⟨0, rfl⟩
  by_cases hl : la.length = lb.length
  · rcases Nat.eq_zero_or_pos la.length with h0 | h0
    · have e1 := List.eq_nil_of_length_eq_zero h0
      have e2 := List.eq_nil_of_length_eq_zero (hl ▸ h0)
      subst e1 e2
      obtain ⟨A, c, rfl, -⟩ := ha
      obtain ⟨B, d, rfl, -⟩ := hb
      clear hl h0
      simp only [List.length_nil]
      go_enter Tryz.func30, Tryz.ntmps30
      go_wp2
      go_loopw [13] (fun i wr => i = .int .i64 0 ∧ wr = w) (fun _ _ => 0)
      case atStart => exact ⟨rfl, rfl⟩
      case round =>
        obtain ⟨rfl, rfl⟩ := hrel
        go_wp2
        go_ret
        exact ⟨ret_bool rfl, hB⟩
    · have hlen := ha.len
      obtain ⟨g, o, c, rfl, hc, hcm, hg, hx⟩ := ha.opened h0
      obtain ⟨g2, o2, c2, rfl, hc2, hcm2, hg2, hx2⟩ := hb.opened (hl ▸ h0)
      rw [← hl]
      have HX := Lib.hid hx
      have HX2 := Lib.hid hx2
      have HL := Lib.hid hl
      clear hx hx2 hl
      generalize hn : la.length = n at *
      have HN := Lib.hid hn; clear hn
      unfold maxLen at hlen
      have hneq := neq_tm
      go_enter Tryz.func30, Tryz.ntmps30
      go_wp2
      go_loopw [13] (fun i wr => ∃ k : Nat, k ≤ n ∧ i = .int .i64 k ∧ (∃ m, wr = w.drewN m) ∧ la.take k = lb.take k) (fun i _ => n - (intOf i).toNat)
      case atStart => exact ⟨0, Nat.zero_le _, rfl, ⟨0, rfl⟩, rfl⟩
      case round =>
        obtain ⟨k, hk, rfl, hq, ht⟩ := hrel
        have HQ := Lib.hid hq; clear hq
        have HT := Lib.hid ht; clear ht
        by_cases hlt : k < n
        · obtain ⟨a, ha⟩ : ∃ a, la[k]? = some a := ⟨_, List.getElem?_eq_getElem (by rw [HN.out]; exact hlt)⟩
          obtain ⟨b, hb'⟩ : ∃ b, lb[k]? = some b := ⟨_, List.getElem?_eq_getElem (by rw [← HL.out]; exact hlt)⟩
          obtain ⟨a0, a1, a2, a3, a4, a5, a6, a7, a8, a9, a10⟩ := (HX.out k a ha).tm.quiet HQ.out
          obtain ⟨b0, b1, b2, b3, b4, b5, b6, b7, b8, b9, b10⟩ := (HX2.out k b hb').tm.quiet HQ.out
          have HA := Lib.hid ha
          have HB := Lib.hid hb'
          clear ha hb'
          by_cases he : a = b
          · have HE : Hid (la.take (k + 1) = lb.take (k + 1)) := Lib.hid (take_eq_succ HT.out HA.out HB.out he)
            have hd : decide (a = b) = true := by simp [he]
            clear he
            go_wp2
            go_quiet (fail)
            go_wp2
            go_roundw
            case rel => exact ⟨k + 1, by omega, by go_num, quiet_more HQ.out _, HE.out⟩
            case measure => simp [intOf]; omega
          · have HE : Hid (la ≠ lb) := Lib.hid (ne_of_at HA.out HB.out he)
            have hd : decide (a = b) = false := by simp [he]
            clear he
            go_wp2
            go_quiet (fail)
            go_wp2
            go_ret
            exact ⟨ret_bool (by simp [HE.out]), quiet_more HQ.out _⟩
        · have HE : Hid (la = lb) := Lib.hid (eq_of_take HT.out (by rw [HN.out]; omega) (by rw [← HL.out]; omega))
          go_wp2
          go_ret
          exact ⟨ret_bool (by simp [HE.out]), HQ.out⟩
  · obtain ⟨A, c, rfl, -⟩ := ha
    obtain ⟨B, d, rfl, -⟩ := hb
    have HE : Hid (la ≠ lb) := Lib.hid (fun h => hl (by rw [h]))
    have hz : ((la.length : Int) == lb.length) = false := by simp; omega
    have hz2 : ((la.length : Int) != lb.length) = true := by simp; omega
    clear hl
    go_enter Tryz.func30, Tryz.ntmps30
    go_wp2
    go_ret
    exact ⟨ret_bool (by simp [HE.out]), hB⟩
theorem tsame_any (va vb : Value) (la lb : List Tm) (w : World) (ha : Tms w va la) (hb : Tms w vb lb) :
    Calls Tryz.prog 9 #[va, vb] w fun e w' => e = .returned (.bool (decide (la = lb))) ∧ Below w.heap.size w w' := by
  have HQ := Lib.hid (fequal_quiet va vb la lb w ha hb)
  obtain ⟨A, c, rfl, -⟩ := ha
  obtain ⟨B, d, rfl, -⟩ := hb
  go_enter Tryz.func9, Tryz.ntmps9
  go_wp2_with fail
  refine HQ.out.mono ?_
  rintro e w1 ⟨rfl, n, rfl⟩
  go_wp2_with fail
  go_ret
  exact ⟨rfl, drewN_below (Below.refl _ _) n⟩
end Go.Proofs.YtdgcdemihalefaaGreatDoor
namespace Go.Proofs.YtdgcdemihalefaaGreatDoor
open Go.RowKit Np Rw Vp Pw Fw
theorem lastP_drop {l r : List Tm} {a : Nat} {k u : Tr Tm} {n : Tm} (h : l.drop a = flat (.mk n [k, u]) ++ r) : l.drop (a + 1) = flat k ++ (flat u ++ r) ∧ l.drop (a + 1 + (flat k).length) = flat u ++ r := by
  have h1 : l.drop (a + 1) = flat k ++ (flat u ++ r) := by
    rw [← List.drop_drop, h, flat_mk]
    simp
  exact ⟨h1, by rw [← List.drop_drop, h1, List.drop_left]⟩
set_option maxHeartbeats 1000000 in
theorem lastPiped_any (v : Value) (l : List Tm) (t : Tr Tm) (w : World) (hv : Tms w v l) (hl : l.length ≤ 1000000) (he : l = flat t) (ho : okT tmany t) (hr : rightTF t = true) :
    Calls Tryz.prog 50 #[v] w fun e w' => e = .returned (.int .i64 (lastP t : Nat)) ∧ w' = w := by
  have h0 : 0 < l.length := by rw [he]; exact flat_pos t
  have HV := Lib.hid hv
  obtain ⟨g, o, c, rfl, hc, hcm, hg, hx⟩ := hv.opened h0
  have HX := Lib.hid hx
  have HE : Hid (l.drop 0 = flat t ++ []) := Lib.hid (by rw [he]; simp)
  have HO := Lib.hid ho
  have HR := Lib.hid hr
  clear hx hv ho hr he
  unfold maxLen at hcm
  generalize hn : l.length = N at *
  have HN := Lib.hid hn; clear hn
  generalize hans : lastP t = ans
  have HANS := Lib.hid hans; clear hans
  go_enter Tryz.func50, Tryz.ntmps50
  go_wp2_with fail
  go_loopw [3] (fun av wr => ∃ (j : Nat) (u : Tr Tm) (r : List Tm), j < N ∧ av = .int .i64 j ∧ Hid (l.drop j = flat u ++ r) ∧ Hid (okT tmany u) ∧ Hid (rightTF u = true) ∧ Hid (j + lastP u = ans) ∧ wr = w) (fun av _ => N - (intOf av).toNat)
  case atStart => exact ⟨0, t, [], h0, rfl, HE, HO, HR, Lib.hid (by rw [HANS.out, Nat.zero_add]), rfl⟩
  case round =>
    obtain ⟨j, u, r, hj, rfl, HD, HO, HR, HL, rfl⟩ := hrel
    have hx0 : l[j]? = some u.nd := by
      have h1 : (l.drop j)[0]? = some u.nd := by rw [HD.out, flat_eq u]; rfl
      rw [List.getElem?_drop] at h1
      simpa using h1
    have c0 := (HX.out j _ hx0).tm.c0
    by_cases h4 : u.nd.op = 4
    · obtain ⟨k, u', he, -⟩ := pipe_form HO.out HR.out h4
      have hd2 := lastP_drop (he ▸ HD.out)
      have hkk := flt_kids HO.out HR.out
      have hk1 := hkk k (by rw [he]; simp)
      have hu1 := hkk u' (by rw [he]; simp)
      have hL2 : j + 1 + (flat k).length + lastP u' = ans := by
        have h1 := HL.out
        rw [he, lastP_pos rfl] at h1; omega
      have hlen : j + 1 + (flat k).length + (flat u').length ≤ N := by
        have h1 := congrArg List.length hd2.2
        rw [List.length_drop, List.length_append, HN.out] at h1
        have := flat_pos u'; omega
      have hup := flat_pos u'
      have hlr : (flat k).length + (flat u' ++ r).length = N - (j + 1) := by
        have h1 := congrArg List.length hd2.1
        rw [List.length_drop, List.length_append, HN.out] at h1; exact h1.symm
      have HP : Hid (Calls Tryz.prog 60 #[.slice (some ⟨g, o, none⟩) N c, .int .i64 ((j + 1 : Nat) : Int)] wr fun e w' => e = .returned (.int .i64 ((j + 1 + (flat k).length : Nat) : Int)) ∧ w' = wr) := Lib.hid (by
        have h1 := HV.out
        have h2 := HN.out
        refine fpast_any _ l (j + 1) (j + 1 + (flat k).length) (flat u' ++ r) wr h1 (by omega) ?_ (by omega) (by omega)
        have := skip_flat k (flat u' ++ r) 0 hk1.1
        rw [hd2.1]; simpa using this)
      have HD2 := Lib.hid hd2.2
      have HO2 := Lib.hid hu1.1
      have HR2 := Lib.hid hu1.2.1
      have HL2 := Lib.hid hL2
      rw [h4] at c0
      clear hd2 hkk hk1 hu1 hL2 he hx0 h4 hlr
      have e1 : ((j + 1 : Nat) : Int) = (j : Int) + 1 := by omega
      rw [e1] at HP
      generalize (flat k).length = K at *
      go_wp2_with (go_at_call 60; refine HP.out.mono ?_; rintro e w' ⟨rfl, rfl⟩)
      go_roundw
      case rel => exact ⟨j + 1 + K, u', r, by omega, rfl, HD2, HO2, HR2, HL2, trivial⟩
      case measure => simp [intOf]; omega
    · have HJ : Hid (j = ans) := Lib.hid (by have := HL.out; rw [lastP_neg h4] at this; omega)
      have e4 : (u.nd.op == 4) = false := by simp [h4]
      obtain rfl := HJ.out
      clear h4
      go_wp2_with fail
      go_ret
      exact ⟨rfl, rfl⟩
end Go.Proofs.YtdgcdemihalefaaGreatDoor
namespace Go.Proofs.YtdgcdemihalefaaGreatDoor
open Go.RowKit Np Rw Vp Pw Fw
set_option maxHeartbeats 1000000 in
theorem refSameT_quiet (va vb : Value) (la lb : List Tm) (w : World) (ha : Tms w va la) (hb : Tms w vb lb) :
    Calls Tryz.prog 10 #[va, vb] w fun e w' => e = .returned (.bool (decide (la = lb))) ∧ ∃ n, w' = w.drewN n := by
  have hB : ∃ n, w = w.drewN n := ⟨0, rfl⟩
  by_cases hl : la.length = lb.length
  · rcases Nat.eq_zero_or_pos la.length with h0 | h0
    · have e1 := List.eq_nil_of_length_eq_zero h0
      have e2 := List.eq_nil_of_length_eq_zero (hl ▸ h0)
      subst e1 e2
      obtain ⟨A, c, rfl, -⟩ := ha
      obtain ⟨B, d, rfl, -⟩ := hb
      clear hl h0
      simp only [List.length_nil]
      go_enter Tryz.func10, Tryz.ntmps10
      go_wp2
      go_loopw [5] (fun i wr => i = .int .i64 0 ∧ wr = w) (fun _ _ => 0)
      case atStart => exact ⟨rfl, rfl⟩
      case round =>
        obtain ⟨rfl, rfl⟩ := hrel
        go_wp2
        go_ret
        exact ⟨ret_bool rfl, hB⟩
    · have hlen := ha.len
      obtain ⟨g, o, c, rfl, hc, hcm, hg, hx⟩ := ha.opened h0
      obtain ⟨g2, o2, c2, rfl, hc2, hcm2, hg2, hx2⟩ := hb.opened (hl ▸ h0)
      rw [← hl]
      have HX := Lib.hid hx
      have HX2 := Lib.hid hx2
      have HL := Lib.hid hl
      clear hx hx2 hl
      generalize hn : la.length = n at *
      have HN := Lib.hid hn; clear hn
      unfold maxLen at hlen
      have hneq := neq_tm
      go_enter Tryz.func10, Tryz.ntmps10
      go_wp2
      go_loopw [5] (fun i wr => ∃ k : Nat, k ≤ n ∧ i = .int .i64 k ∧ (∃ m, wr = w.drewN m) ∧ la.take k = lb.take k) (fun i _ => n - (intOf i).toNat)
      case atStart => exact ⟨0, Nat.zero_le _, rfl, ⟨0, rfl⟩, rfl⟩
      case round =>
        obtain ⟨k, hk, rfl, hq, ht⟩ := hrel
        have HQ := Lib.hid hq; clear hq
        have HT := Lib.hid ht; clear ht
        by_cases hlt : k < n
        · obtain ⟨a, ha⟩ : ∃ a, la[k]? = some a := ⟨_, List.getElem?_eq_getElem (by rw [HN.out]; exact hlt)⟩
          obtain ⟨b, hb'⟩ : ∃ b, lb[k]? = some b := ⟨_, List.getElem?_eq_getElem (by rw [← HL.out]; exact hlt)⟩
          obtain ⟨a0, a1, a2, a3, a4, a5, a6, a7, a8, a9, a10⟩ := (HX.out k a ha).tm.quiet HQ.out
          obtain ⟨b0, b1, b2, b3, b4, b5, b6, b7, b8, b9, b10⟩ := (HX2.out k b hb').tm.quiet HQ.out
          have HA := Lib.hid ha
          have HB := Lib.hid hb'
          clear ha hb'
          by_cases he : a = b
          · have HE : Hid (la.take (k + 1) = lb.take (k + 1)) := Lib.hid (take_eq_succ HT.out HA.out HB.out he)
            have hd : decide (a = b) = true := by simp [he]
            clear he
            go_wp2
            go_quiet (fail)
            go_wp2
            go_roundw
            case rel => exact ⟨k + 1, by omega, by go_num, quiet_more HQ.out _, HE.out⟩
            case measure => simp [intOf]; omega
          · have HE : Hid (la ≠ lb) := Lib.hid (ne_of_at HA.out HB.out he)
            have hd : decide (a = b) = false := by simp [he]
            clear he
            go_wp2
            go_quiet (fail)
            go_wp2
            go_ret
            exact ⟨ret_bool (by simp [HE.out]), quiet_more HQ.out _⟩
        · have HE : Hid (la = lb) := Lib.hid (eq_of_take HT.out (by rw [HN.out]; omega) (by rw [← HL.out]; omega))
          go_wp2
          go_ret
          exact ⟨ret_bool (by simp [HE.out]), HQ.out⟩
  · obtain ⟨A, c, rfl, -⟩ := ha
    obtain ⟨B, d, rfl, -⟩ := hb
    have HE : Hid (la ≠ lb) := Lib.hid (fun h => hl (by rw [h]))
    have hz : ((la.length : Int) == lb.length) = false := by simp; omega
    have hz2 : ((la.length : Int) != lb.length) = true := by simp; omega
    clear hl
    go_enter Tryz.func10, Tryz.ntmps10
    go_wp2
    go_ret
    exact ⟨ret_bool (by simp [HE.out]), hB⟩
theorem refSameT_any (va vb : Value) (la lb : List Tm) (w : World) (ha : Tms w va la) (hb : Tms w vb lb) :
    Calls Tryz.prog 10 #[va, vb] w fun e w' => e = .returned (.bool (decide (la = lb))) ∧ Below w.heap.size w w' :=
  (refSameT_quiet va vb la lb w ha hb).mono fun _ _ ⟨he, hw⟩ => ⟨he, below_quiet hw⟩
set_option maxHeartbeats 1000000 in
theorem refNextT_any (v : Value) (l : List Tm) (i : Nat) (w : World) (hv : Tms w v l) (hl : l.length ≤ 65536) (hi : i ≤ l.length) :
    Calls Tryz.prog 33 #[v, .int .i64 i] w fun e w' => e = .returned (.int .i64 (nxtF l.length (l.drop i) 1 i)) ∧ w = w' := by
  generalize hans : nxtF l.length (l.drop i) 1 i = ans
  have HANS := Lib.hid hans; clear hans
  rcases Nat.lt_or_ge i l.length with hlt | hge
  · obtain ⟨g, o, c, rfl, hc, hcm, hg, hx⟩ := hv.opened (by omega)
    have HX := Lib.hid hx; clear hx
    generalize hn : l.length = n at *
    have HN := Lib.hid hn; clear hn
    go_enter Tryz.func33, Tryz.ntmps33
    go_wp2
    go_loop [1, 5] (fun i op => ∃ k q : Nat, k ≤ n ∧ q ≤ 1 + k * 65536 ∧ i = .int .i64 k ∧ op = .int .i64 q ∧ nxtF n (l.drop k) q k = ans) (fun i _ => n - (intOf i).toNat)
    case atStart => exact ⟨i, 1, hi, by omega, rfl, rfl, HANS.out⟩
    case round =>
      obtain ⟨k, q, hk, hq, rfl, rfl, hans⟩ := hrel
      have HA := Lib.hid hans; clear hans
      by_cases hq0 : q = 0
      · subst hq0
        have HE : Hid ((k : Int) = ans) := Lib.hid (by rw [← HA.out, nxtF_zero])
        go_wp2
        go_ret
        exact ⟨ret_i64 HE.out, rfl⟩
      · obtain ⟨p, rfl⟩ : ∃ p, q = p + 1 := ⟨q - 1, by omega⟩
        have hqp : (0 : Int) < (p + 1 : Nat) := by omega
        by_cases hkn : k < n
        · obtain ⟨x, hx⟩ : ∃ a, l[k]? = some a := ⟨_, List.getElem?_eq_getElem (by rw [HN.out]; exact hkn)⟩
          obtain ⟨a0, a1, a2, a3, a4, a5⟩ := (HX.out k x hx).tm
          have HD : Hid (nxtF n (l.drop k) (p + 1) k = if x.many < 0 ∨ (n : Int) < x.many then -1 else nxtF n (l.drop (k + 1)) (p + x.many.toNat) (k + 1)) := Lib.hid (by rw [drop_at hx, nxtF_cons])
          clear hx
          by_cases hm : x.many < 0
          · have HE : Hid (-1 = ans) := Lib.hid (by rw [← HA.out, HD.out, if_pos (.inl hm)])
            go_wp2
            go_ret
            exact ⟨ret_i64 HE.out, rfl⟩
          · by_cases hm2 : (n : Int) < x.many
            · have HE : Hid (-1 = ans) := Lib.hid (by rw [← HA.out, HD.out, if_pos (.inr hm2)])
              go_wp2
              go_ret
              exact ⟨ret_i64 HE.out, rfl⟩
            · obtain ⟨m, hme⟩ : ∃ m : Nat, x.many = m := ⟨x.many.toNat, by omega⟩
              rw [hme] at a1 hm hm2
              have HE : Hid (nxtF n (l.drop (k + 1)) (p + m) (k + 1) = ans) := Lib.hid (by rw [← HA.out, HD.out, if_neg (by omega), hme]; rfl)
              clear hme
              go_wp2
              go_round
              case rel => exact ⟨k + 1, p + m, by omega, by omega, by go_num, by go_num, HE.out⟩
              case measure => simp [intOf]; omega
        · have HE : Hid (-1 = ans) := Lib.hid (by rw [← HA.out, List.drop_of_length_le (by rw [HN.out]; omega), nxtF_nil])
          go_wp2
          go_ret
          exact ⟨ret_i64 HE.out, rfl⟩
  · have HE : Hid (-1 = ans) := Lib.hid (by rw [← HANS.out, List.drop_of_length_le hge, nxtF_nil])
    obtain ⟨A, c, rfl, -⟩ := hv
    go_enter Tryz.func33, Tryz.ntmps33
    go_wp2
    go_loop [1, 5] (fun a op => a = .int .i64 i ∧ op = .int .i64 1) (fun _ _ => 0)
    case atStart => exact ⟨rfl, rfl⟩
    case round =>
      obtain ⟨rfl, rfl⟩ := hrel
      go_wp2
      go_ret
      exact ⟨ret_i64 HE.out, rfl⟩
theorem tmr_below (w : World) (t : Tm) : Below w.heap.size w (w.alloc (.cells #[.int .i64 t.op, .int .i64 t.many, .string ⟨t.name.toArray⟩, .string ⟨t.s.toArray⟩, .int .i64 t.n, .int .i64 t.c.kind, .int .i64 t.c.many, .string ⟨t.c.name.toArray⟩, .string ⟨t.c.s.toArray⟩, .bool t.c.neg, .int .i64 t.c.e] 47)) := (Below.refl _ _).alloc (Nat.le_refl _) _
theorem tmr_alloc (w : World) (t : Tm) : Tm11 (w.alloc (.cells #[.int .i64 t.op, .int .i64 t.many, .string ⟨t.name.toArray⟩, .string ⟨t.s.toArray⟩, .int .i64 t.n, .int .i64 t.c.kind, .int .i64 t.c.many, .string ⟨t.c.name.toArray⟩, .string ⟨t.c.s.toArray⟩, .bool t.c.neg, .int .i64 t.c.e] 47)) w.heap.size 0 t := by
  have h := heap_alloc_new w (.cells #[.int .i64 t.op, .int .i64 t.many, .string ⟨t.name.toArray⟩, .string ⟨t.s.toArray⟩, .int .i64 t.n, .int .i64 t.c.kind, .int .i64 t.c.many, .string ⟨t.c.name.toArray⟩, .string ⟨t.c.s.toArray⟩, .bool t.c.neg, .int .i64 t.c.e] 47)
  constructor <;> (rw [Lib.cell_of_heap h]; rfl)
theorem refIs_any (t : Tm) (w : World) :
    Calls Tryz.prog 25 #[tma t] w fun e w' => e = .returned (.bool (isC t.op)) ∧ Below w.heap.size w w' := by
  have HB := Lib.hid (tmr_below w t)
  obtain ⟨op, many, name, s, n, c⟩ := t
  by_cases h1 : 16 ≤ op
  · by_cases h2 : op ≤ 19
    · have HE : Hid (isC op = true) := Lib.hid (by simp [isC, h1, h2])
      go_enter Tryz.func25, Tryz.ntmps25
      go_wp2_with fail
      go_ret
      exact ⟨ret_bool HE.out.symm, HB.out⟩
    · have HE : Hid (isC op = false) := Lib.hid (by simp [isC, h2])
      go_enter Tryz.func25, Tryz.ntmps25
      go_wp2_with fail
      go_ret
      exact ⟨ret_bool HE.out.symm, HB.out⟩
  · have HE : Hid (isC op = false) := Lib.hid (by simp [isC, h1])
    go_enter Tryz.func25, Tryz.ntmps25
    go_wp2_with fail
    go_ret
    exact ⟨ret_bool HE.out.symm, HB.out⟩
end Go.Proofs.YtdgcdemihalefaaGreatDoor
namespace Go.Proofs.YtdgcdemihalefaaGreatDoor
open Go.RowKit Np Rw Vp Up Qp Pw
theorem figD_take {r : List UInt8} {j : Nat} (hj : j ≤ 7) (hl : j ≤ r.length) (h0 : ∀ t, t < j → ∀ x, r[t]? = some x → isF x = true) (h1 : j = 7 ∨ j = r.length ∨ ∃ x, r[j]? = some x ∧ isF x = false) : figD r = r.take j := by
  unfold figD
  have h2 := takeWhile_len isF (r.take 7) j (by rw [List.length_take]; omega) (fun t ht x hx => h0 t ht x (by
    rw [List.getElem?_take] at hx
    split at hx
    · exact hx
    · cases hx)) (by
    rw [List.length_take]
    by_cases hj7 : j = 7
    · left; omega
    · rcases h1 with h | h | ⟨x, hx, hp⟩
      · exact absurd h hj7
      · left; omega
      · right
        exact ⟨x, by rw [List.getElem?_take, if_pos (by omega)]; exact hx, hp⟩)
  rw [h2, List.take_take, Nat.min_eq_left hj]
theorem valD_take {r : List UInt8} {j : Nat} {c : UInt8} (h : r[j]? = some c) : valD (r.take (j + 1)) = valD (r.take j) * 10 + (c.toNat - 48) := by
  rw [List.take_add_one, h]
  exact valD_snoc _ _
theorem valD_lt : ∀ (j : Nat) (r : List UInt8), (∀ t, t < j → ∀ x, r[t]? = some x → isF x = true) → valD (r.take j) < 10 ^ j
  | 0, r, _ => by simp [valD]
  | j + 1, r, h => by
    have ih := valD_lt j r (fun t ht => h t (by omega))
    cases hc : r[j]? with
    | none =>
      rw [List.take_add_one, hc]
      simp only [Option.toList, List.append_nil]
      rw [Nat.pow_succ]; omega
    | some c =>
      have hf := isF_iff.1 (h j (by omega) c hc)
      rw [valD_take hc, Nat.pow_succ]; omega
def figV (i : Nat) : Option (Nat × Nat) → Value
  | none => .tuple #[.int .i64 (-1), .int .i64 i]
  | some x => .tuple #[.int .i64 x.1, .int .i64 (i + x.2 : Nat)]
set_option maxRecDepth 100000 in
set_option maxHeartbeats 4000000 in
theorem refFigP_any (s : ByteArray) (i : Nat) (w : World) (hs : s.size ≤ 1000000) (hi : i ≤ s.size) : Calls Tryz.prog 238 #[.string s, .int .i64 i] w fun e w' => e = .returned (figV i (figR (s.data.toList.drop i))) ∧ w' = w := by
  have HR : Hid (∀ j, i + j < s.size → ∃ c : UInt8, (s.data.toList.drop i)[j]? = some c ∧ ∀ h : i + j < s.size, s[i + j] = c) := Lib.hid (fun j hj => ⟨s[i + j], by
    rw [List.getElem?_drop, List.getElem?_eq_getElem (by rw [size_toList]; exact hj)]; rfl, fun _ => rfl⟩)
  have HL : Hid ((s.data.toList.drop i).length = s.size - i) := Lib.hid (by rw [List.length_drop, size_toList])
  generalize s.data.toList.drop i = r at *
  go_enter Tryz.func238, Tryz.ntmps238
  go_wp2_with fail
  go_loopw [1, 6] (fun iv nv wr => ∃ j : Nat, j ≤ 7 ∧ i + j ≤ s.size ∧ iv = .int .i64 ((i + j : Nat) : Int) ∧ nv = .int .i64 (valD (r.take j)) ∧ Hid (∀ t, t < j → ∀ x, r[t]? = some x → isF x = true) ∧ wr = w) (fun iv _ _ => s.size - (intOf iv).toNat)
  case atStart => exact ⟨0, by omega, by omega, by simp, rfl, Lib.hid (fun t ht => by omega), rfl⟩
  case round =>
    obtain ⟨j, hj, hij, rfl, rfl, HF, rfl⟩ := hrel
    have hvl : valD (r.take j) < 10000000 := by
      have h1 := valD_lt j r HF.out
      have h2 : 10 ^ j ≤ 10 ^ 7 := Nat.pow_le_pow_right (by omega) hj
      omega
    have hi2 : ((i + j : Nat) : Int) - (i : Int) = (j : Int) := by omega
    have HEND : Hid (j = 7 ∨ j = r.length ∨ (∃ x, r[j]? = some x ∧ isF x = false) → figD r = r.take j) := Lib.hid (fun h => figD_take hj (by rw [HL.out]; omega) HF.out h)
    by_cases hlt : i + j < s.size
    · obtain ⟨c, hc, hcs⟩ := HR.out j hlt
      have hc256 := c.toNat_lt
      by_cases hf : 48 ≤ c.toNat ∧ c.toNat ≤ 57
      · by_cases h7 : j < 7
        · have HF2 : Hid (∀ t, t < j + 1 → ∀ x, r[t]? = some x → isF x = true) := Lib.hid (fun t ht x hx => by
            by_cases htj : t < j
            · exact HF.out t htj x hx
            · obtain rfl : t = j := by omega
              rw [hc] at hx
              injection hx with hx
              subst hx
              rw [isF_iff]; exact hf)
          have HV2 : Hid (valD (r.take (j + 1)) = valD (r.take j) * 10 + (c.toNat - 48)) := Lib.hid (by rw [valD_take hc])
          obtain ⟨hf1, hf2⟩ := hf
          clear hc
          go_wp2_with fail
          refine ⟨⟨j + 1, by omega, by omega, by congr 1, ?_, HF2, trivial⟩, by simp [intOf]; omega⟩
          rw [HV2.out]
          congr 1
          omega
        · have HD := Lib.hid (HEND.out (.inl (by omega)))
          rcases Nat.eq_zero_or_pos j with h0 | hjp
          · subst h0
            have HN : Hid (figR r = none) := Lib.hid (by unfold figR; rw [HD.out]; simp)
            go_wp2_with fail
            all_goals first
              | (go_ret2; exact ⟨by rw [HN.out]; rfl, rfl⟩)
              | (exfalso; clear HN HF HR HL; simp at *; omega)
          · obtain ⟨c0, hc0, hcs0⟩ := HR.out 0 (by omega)
            have hs0 : ∀ h : i < s.size, s[i] = c0 := fun h => hcs0 (by omega)
            have hlt0 : i < s.size := by omega
            have hc0r := c0.toNat_lt
            have hhd : (figD r).head? = some c0 := by
              rw [HD.out, List.head?_take, if_neg (by omega), List.head?_eq_getElem?]
              exact hc0
            have hdl : (figD r).length = j := by rw [HD.out, List.length_take, HL.out]; omega
            have hne : figD r ≠ [] := by intro e; rw [e] at hdl; simp at hdl; omega
            have hji : ((i + j : Nat) : Int) ≠ (i : Int) := by omega
            by_cases hz : c0.toNat = 48 ∧ 1 < j
            · have HN : Hid (figR r = none) := Lib.hid (by
                unfold figR
                rw [if_pos (.inr (.inl ⟨by rw [hhd, u8_of (c := c0) (n := 48) hz.1 |>.symm]; rfl, by rw [hdl]; exact hz.2⟩))])
              obtain ⟨hz1, hz2⟩ := hz
              clear hhd hdl hne HD HEND hcs0 hc0
              go_wp2_with fail
              all_goals first
                | (go_ret2; exact ⟨by rw [HN.out]; rfl, rfl⟩)
                | (exfalso; clear HN HF HR HL; simp at *; omega)
            · have hz' : ¬ ((figD r).head? = some 48 ∧ 1 < (figD r).length) := by
                rintro ⟨h1, h2⟩
                rw [hhd] at h1
                injection h1 with h1
                rw [hdl] at h2
                exact hz ⟨by rw [h1]; rfl, h2⟩
              by_cases hm : 1000000 < valD (r.take j)
              · have HN : Hid (figR r = none) := Lib.hid (by
                  unfold figR
                  rw [if_pos (.inr (.inr (by rw [HD.out]; exact hm)))])
                clear hhd hdl hne HD HEND hcs0 hc0 hz'
                have hmi : ((valD (r.take j) : Nat) : Int) ≤ 1000000 ∨ (1000000 : Int) < ((valD (r.take j) : Nat) : Int) := by omega
                by_cases h48 : c0.toNat = 48
                · obtain rfl : j = 1 := by omega
                  go_wp2_with fail
                  all_goals first
                    | (go_ret2; exact ⟨by rw [HN.out]; rfl, rfl⟩)
                    | (exfalso; clear HN HF HR HL; simp at *; omega)
                · have h48b : ((c0.toNat : Int) == 48) = false := by simp; omega
                  go_wp2_with fail
                  all_goals first
                    | (go_ret2; exact ⟨by rw [HN.out]; rfl, rfl⟩)
                    | (exfalso; clear HN HF HR HL; simp at *; omega)
              · have HN : Hid (figR r = some (valD (r.take j), j)) := Lib.hid (by
                  unfold figR
                  rw [if_neg (by rintro (h | h | h); · exact hne h
                                 · exact hz' h
                                 · rw [HD.out] at h; exact hm h), hdl, HD.out])
                clear hhd hdl hne HD HEND hcs0 hc0 hz'
                have hmi : ((valD (r.take j) : Nat) : Int) ≤ 1000000 ∨ (1000000 : Int) < ((valD (r.take j) : Nat) : Int) := by omega
                by_cases h48 : c0.toNat = 48
                · obtain rfl : j = 1 := by omega
                  go_wp2_with fail
                  all_goals first
                    | (go_ret2; exact ⟨by rw [HN.out]; rfl, rfl⟩)
                    | (exfalso; clear HN HF HR HL; simp at *; omega)
                · have h48b : ((c0.toNat : Int) == 48) = false := by simp; omega
                  go_wp2_with fail
                  all_goals first
                    | (go_ret2; exact ⟨by rw [HN.out]; rfl, rfl⟩)
                    | (exfalso; clear HN HF HR HL; simp at *; omega)
      · have HD := Lib.hid (HEND.out (.inr (.inr ⟨c, hc, by cases hb : isF c with | false => rfl | true => exact absurd (isF_iff.1 hb) hf⟩)))
        rcases Nat.eq_zero_or_pos j with h0 | hjp
        · subst h0
          have hcs' : ∀ h : i < s.size, s[i] = c := fun h => hcs (by omega)
          have HN : Hid (figR r = none) := Lib.hid (by unfold figR; rw [HD.out]; simp)
          go_wp2_with fail
          all_goals first
            | (go_ret2; exact ⟨by rw [HN.out]; rfl, rfl⟩)
            | (exfalso; clear HN HF HR HL; simp at *; omega)
        · obtain ⟨c0, hc0, hcs0⟩ := HR.out 0 (by omega)
          have hs0 : ∀ h : i < s.size, s[i] = c0 := fun h => hcs0 (by omega)
          have hlt0 : i < s.size := by omega
          have hc0r := c0.toNat_lt
          have hhd : (figD r).head? = some c0 := by
            rw [HD.out, List.head?_take, if_neg (by omega), List.head?_eq_getElem?]
            exact hc0
          have hdl : (figD r).length = j := by rw [HD.out, List.length_take, HL.out]; omega
          have hne : figD r ≠ [] := by intro e; rw [e] at hdl; simp at hdl; omega
          have hji : ((i + j : Nat) : Int) ≠ (i : Int) := by omega
          by_cases hz : c0.toNat = 48 ∧ 1 < j
          · have HN : Hid (figR r = none) := Lib.hid (by
              unfold figR
              rw [if_pos (.inr (.inl ⟨by rw [hhd, u8_of (c := c0) (n := 48) hz.1 |>.symm]; rfl, by rw [hdl]; exact hz.2⟩))])
            obtain ⟨hz1, hz2⟩ := hz
            clear hhd hdl hne HD HEND hcs0 hc0
            go_wp2_with fail
            all_goals first
              | (go_ret2; exact ⟨by rw [HN.out]; rfl, rfl⟩)
              | (exfalso; clear HN HF HR HL; simp at *; omega)
          · have hz' : ¬ ((figD r).head? = some 48 ∧ 1 < (figD r).length) := by
              rintro ⟨h1, h2⟩
              rw [hhd] at h1
              injection h1 with h1
              rw [hdl] at h2
              exact hz ⟨by rw [h1]; rfl, h2⟩
            by_cases hm : 1000000 < valD (r.take j)
            · have HN : Hid (figR r = none) := Lib.hid (by
                unfold figR
                rw [if_pos (.inr (.inr (by rw [HD.out]; exact hm)))])
              clear hhd hdl hne HD HEND hcs0 hc0 hz'
              have hmi : ((valD (r.take j) : Nat) : Int) ≤ 1000000 ∨ (1000000 : Int) < ((valD (r.take j) : Nat) : Int) := by omega
              by_cases h48 : c0.toNat = 48
              · obtain rfl : j = 1 := by omega
                go_wp2_with fail
                all_goals first
                  | (go_ret2; exact ⟨by rw [HN.out]; rfl, rfl⟩)
                  | (exfalso; clear HN HF HR HL; simp at *; omega)
              · have h48b : ((c0.toNat : Int) == 48) = false := by simp; omega
                go_wp2_with fail
                all_goals first
                  | (go_ret2; exact ⟨by rw [HN.out]; rfl, rfl⟩)
                  | (exfalso; clear HN HF HR HL; simp at *; omega)
            · have HN : Hid (figR r = some (valD (r.take j), j)) := Lib.hid (by
                unfold figR
                rw [if_neg (by rintro (h | h | h); · exact hne h
                               · exact hz' h
                               · rw [HD.out] at h; exact hm h), hdl, HD.out])
              clear hhd hdl hne HD HEND hcs0 hc0 hz'
              have hmi : ((valD (r.take j) : Nat) : Int) ≤ 1000000 ∨ (1000000 : Int) < ((valD (r.take j) : Nat) : Int) := by omega
              by_cases h48 : c0.toNat = 48
              · obtain rfl : j = 1 := by omega
                go_wp2_with fail
                all_goals first
                  | (go_ret2; exact ⟨by rw [HN.out]; rfl, rfl⟩)
                  | (exfalso; clear HN HF HR HL; simp at *; omega)
              · have h48b : ((c0.toNat : Int) == 48) = false := by simp; omega
                go_wp2_with fail
                all_goals first
                  | (go_ret2; exact ⟨by rw [HN.out]; rfl, rfl⟩)
                  | (exfalso; clear HN HF HR HL; simp at *; omega)
    · have HD := Lib.hid (HEND.out (.inr (.inl (by rw [HL.out]; omega))))
      rcases Nat.eq_zero_or_pos j with h0 | hjp
      · subst h0
        have HN : Hid (figR r = none) := Lib.hid (by unfold figR; rw [HD.out]; simp)
        go_wp2_with fail
        all_goals first
          | (go_ret2; exact ⟨by rw [HN.out]; rfl, rfl⟩)
          | (exfalso; clear HN HF HR HL; simp at *; omega)
      · obtain ⟨c0, hc0, hcs0⟩ := HR.out 0 (by omega)
        have hs0 : ∀ h : i < s.size, s[i] = c0 := fun h => hcs0 (by omega)
        have hlt0 : i < s.size := by omega
        have hc0r := c0.toNat_lt
        have hhd : (figD r).head? = some c0 := by
          rw [HD.out, List.head?_take, if_neg (by omega), List.head?_eq_getElem?]
          exact hc0
        have hdl : (figD r).length = j := by rw [HD.out, List.length_take, HL.out]; omega
        have hne : figD r ≠ [] := by intro e; rw [e] at hdl; simp at hdl; omega
        have hji : ((i + j : Nat) : Int) ≠ (i : Int) := by omega
        by_cases hz : c0.toNat = 48 ∧ 1 < j
        · have HN : Hid (figR r = none) := Lib.hid (by
            unfold figR
            rw [if_pos (.inr (.inl ⟨by rw [hhd, u8_of (c := c0) (n := 48) hz.1 |>.symm]; rfl, by rw [hdl]; exact hz.2⟩))])
          obtain ⟨hz1, hz2⟩ := hz
          clear hhd hdl hne HD HEND hcs0 hc0
          go_wp2_with fail
          all_goals first
            | (go_ret2; exact ⟨by rw [HN.out]; rfl, rfl⟩)
            | (exfalso; clear HN HF HR HL; simp at *; omega)
        · have hz' : ¬ ((figD r).head? = some 48 ∧ 1 < (figD r).length) := by
            rintro ⟨h1, h2⟩
            rw [hhd] at h1
            injection h1 with h1
            rw [hdl] at h2
            exact hz ⟨by rw [h1]; rfl, h2⟩
          by_cases hm : 1000000 < valD (r.take j)
          · have HN : Hid (figR r = none) := Lib.hid (by
              unfold figR
              rw [if_pos (.inr (.inr (by rw [HD.out]; exact hm)))])
            clear hhd hdl hne HD HEND hcs0 hc0 hz'
            have hmi : ((valD (r.take j) : Nat) : Int) ≤ 1000000 ∨ (1000000 : Int) < ((valD (r.take j) : Nat) : Int) := by omega
            by_cases h48 : c0.toNat = 48
            · obtain rfl : j = 1 := by omega
              go_wp2_with fail
              all_goals first
                | (go_ret2; exact ⟨by rw [HN.out]; rfl, rfl⟩)
                | (exfalso; clear HN HF HR HL; simp at *; omega)
            · have h48b : ((c0.toNat : Int) == 48) = false := by simp; omega
              go_wp2_with fail
              all_goals first
                | (go_ret2; exact ⟨by rw [HN.out]; rfl, rfl⟩)
                | (exfalso; clear HN HF HR HL; simp at *; omega)
          · have HN : Hid (figR r = some (valD (r.take j), j)) := Lib.hid (by
              unfold figR
              rw [if_neg (by rintro (h | h | h); · exact hne h
                             · exact hz' h
                             · rw [HD.out] at h; exact hm h), hdl, HD.out])
            clear hhd hdl hne HD HEND hcs0 hc0 hz'
            have hmi : ((valD (r.take j) : Nat) : Int) ≤ 1000000 ∨ (1000000 : Int) < ((valD (r.take j) : Nat) : Int) := by omega
            by_cases h48 : c0.toNat = 48
            · obtain rfl : j = 1 := by omega
              go_wp2_with fail
              all_goals first
                | (go_ret2; exact ⟨by rw [HN.out]; rfl, rfl⟩)
                | (exfalso; clear HN HF HR HL; simp at *; omega)
            · have h48b : ((c0.toNat : Int) == 48) = false := by simp; omega
              go_wp2_with fail
              all_goals first
                | (go_ret2; exact ⟨by rw [HN.out]; rfl, rfl⟩)
                | (exfalso; clear HN HF HR HL; simp at *; omega)
end Go.Proofs.YtdgcdemihalefaaGreatDoor
namespace Go.Proofs.YtdgcdemihalefaaGreatDoor
open Go.RowKit Np Rw Vp Up Qp Pw
def stpV (i : Nat) : Option (St × Nat) → Value
  | none => .tuple #[sta ⟨false, [], 0⟩, .int .i64 i]
  | some x => .tuple #[sta x.1, .int .i64 (i + x.2 : Nat)]
theorem isW_take {r : List UInt8} {j : Nat} (hj : j < r.length) : isW (r.take (j + 1)) = true ↔ ∀ t, t ≤ j → okAt r t = true := by
  have hl : (r.take (j + 1)).length = j + 1 := by rw [List.length_take]; omega
  have hat : ∀ t, t < j + 1 → okAt (r.take (j + 1)) t = okAt r t := fun t ht => by
    unfold okAt
    rw [List.getElem?_take, if_pos ht]
  constructor
  · intro h t ht
    cases hk : okAt r t with
    | true => rfl
    | false =>
      exfalso
      have key : ∀ n, n ≤ j → okAt r n = false → False := by
        intro n
        induction n using Nat.strongRecOn with
        | _ n ih =>
          intro hn hb
          by_cases hall : ∀ m, m < n → okAt r m = true
          · have := isW_bad (l := r.take (j + 1)) (k := n) (by omega) (fun m hm => by rw [hat m (by omega)]; exact hall m hm) (by rw [hat n (by omega)]; exact hb)
            rw [this] at h; cases h
          · have hall2 : ∃ m, m < n ∧ ¬ okAt r m = true := by
              apply Classical.byContradiction
              intro hc
              exact hall (fun m hm => Classical.byContradiction (fun hx => hc ⟨m, hm, hx⟩))
            obtain ⟨m, hm, hx⟩ := hall2
            exact ih m hm (by omega) (by simpa using hx)
      exact key t ht hk
  · intro h
    exact isW_all (by intro e; rw [e] at hl; simp at hl) (fun t ht => by rw [hl] at ht; rw [hat t ht]; exact h t (by omega))
theorem step_word {r : List UInt8} {j : Nat} (hj : j ≤ r.length) (h0 : 0 < j) (h1 : ∀ t, t < j → okAt r t = true) (h2 : okAt r j = false) : fieldR r = some (⟨false, r.take j, 0⟩, j) := by
  have hw := wrd_of hj h1 h2
  have hl : (r.take j).length = j := by rw [List.length_take]; omega
  unfold fieldR
  rw [hw, if_pos (by intro e; rw [e] at hl; simp at hl; omega), hl]
theorem step_stop {r : List UInt8} {j : Nat} (hjr : j < r.length) (h1 : ∀ t, t < j → okAt r t = true) (hw : isW (r.take (j + 1)) = false) : okAt r j = false := by
  cases h : okAt r j with
  | false => rfl
  | true =>
    have := (isW_take hjr).2 (fun t ht => by
      by_cases e : t < j
      · exact h1 t e
      · obtain rfl : t = j := by omega
        exact h)
    rw [this] at hw; cases hw
def Qs (w w' : World) : Prop := w'.heap[w.heap.size]? = some stepZ ∧ Below w.heap.size w w'
theorem Qs.step {w w' w'' : World} (h : Qs w w') (hb : Below w'.heap.size w' w'') : Qs w w'' := by
  obtain ⟨h1, h2⟩ := h
  have hs : w.heap.size < w'.heap.size := (Array.getElem?_eq_some_iff.1 h1).1
  exact ⟨(hb.block _ hs).trans h1, h2.trans (hb.mono h2.size)⟩
theorem Qs.cells {w w' : World} (h : Qs w w') : w'.cell? ⟨w.heap.size, 0, none⟩ = some (.bool false) ∧ w'.cell? ⟨w.heap.size, 1, none⟩ = some (.string ⟨#[]⟩) ∧ w'.cell? ⟨w.heap.size, 2, none⟩ = some (.int .i64 0) ∧ (∀ o, w'.frozen? ⟨w.heap.size, o, none⟩ = false) ∧ w.heap.size < w'.heap.size := by
  obtain ⟨zz, -⟩ := h
  refine ⟨?_, ?_, ?_, fun o => Lib.frozen_of_heap zz o, (Array.getElem?_eq_some_iff.1 zz).1⟩ <;> (rw [Lib.cell_of_heap zz]; rfl)
end Go.Proofs.YtdgcdemihalefaaGreatDoor
namespace Go.Proofs.YtdgcdemihalefaaGreatDoor
open Go.RowKit Np Rw Vp Up Qp Pw
set_option maxRecDepth 100000 in
set_option maxHeartbeats 8000000 in
theorem refStep_qBad (s : ByteArray) (i : Nat) (first : Bool) (w : World) (hs : s.size ≤ 1000000) (hlt3 : i + 1 < s.size) (h46 : s[i]'(by omega) = 46) (h34 : s[i + 1] = 34) (nm : List UInt8) (n : Nat) (ee : Int) (hu : unqs (s.data.toList.drop (i + 1)) = (nm, n, ee)) (hee : ¬ ee = 0) :
    Calls Tryz.prog 208 #[.string s, .int .i64 i, .bool first] w fun e w' => e = .returned (stpV i (none)) ∧ Below w.heap.size w w' := by
  have hb0 : Below w.heap.size w (w.alloc (.cells #[.bool false, .string ⟨#[]⟩, .int .i64 0] 71)) := (Below.refl _ _).alloc (Nat.le_refl _) _
  have HB0 := Lib.hid hb0
  clear hb0
  have hlt : i < s.size := by omega
  have h46b : ((s[i].toNat : Int) == 46) = true := by rw [h46]; rfl
  have h91b : ((s[i + 1].toNat : Int) == 91) = false := by rw [h34]; rfl
  have h91c : ((s[i + 1].toNat : Int) != 91) = true := by rw [h34]; rfl
  have HEX : Hid (∀ m, (s.extract (i + 1) (i + 1 + m)).data.toList = (s.data.toList.drop (i + 1)).take m) := Lib.hid (fun m => by
    have h := Lib.extract_toList s (i + 1) (i + 1 + m)
    rw [ByteArray.toList_eq, Nat.add_sub_cancel_left] at h
    exact h)
  have HRL : Hid ((s.data.toList.drop (i + 1)).length = s.size - (i + 1)) := Lib.hid (by rw [List.length_drop, size_toList])
  have hr2 : s.data.toList.drop (i + 1) = 34 :: s.data.toList.drop (i + 1 + 1) := by
    rw [List.drop_eq_getElem_cons (by rw [size_toList]; exact hlt3)]
    have : s.data.toList[i + 1]'(by rw [size_toList]; exact hlt3) = 34 := h34
    rw [this]
  have HWJ : Hid (∀ W, Calls Tryz.prog 66 #[.string (s.extract (i + 1) (i + 1 + 1))] W fun e w' => e = .returned (.bool false) ∧ w' = W) := Lib.hid (fun W => by
    have h := refWordP_any (s.extract (i + 1) (i + 1 + 1)) W (by rw [ByteArray.size_extract]; unfold maxLen; omega)
    rw [HEX.out 1, hr2] at h
    exact h)
  have HUQ : Hid (∀ W, Calls Tryz.prog 237 #[.string (s.extract (i + 1) s.size)] W fun e w' => e = .returned (.tuple #[.string ⟨nm.toArray⟩, .int .i64 (n : Int), .int .i64 ee]) ∧ Below W.heap.size W w') := Lib.hid (fun W => by
    have h := refUnquote_any (s.extract (i + 1) s.size) W (by rw [ByteArray.size_extract]; omega)
    have e : (s.extract (i + 1) s.size).data.toList = s.data.toList.drop (i + 1) := by
      have := HEX.out (s.size - (i + 1))
      rw [show i + 1 + (s.size - (i + 1)) = s.size by omega] at this
      rw [this, List.take_of_length_le (by rw [HRL.out]; omega)]
    rw [e, hu] at h
    exact h)
  have hgood := unqs_good (s.data.toList.drop (i + 1))
  have hnl := unqs_len (s.data.toList.drop (i + 1))
  rw [hu] at hgood hnl
  simp only at hgood hnl
  have hRL := HRL.out
  have heb : (ee == 0) = false := by simpa using hee
  clear h46 h34 hr2 HRL hRL hgood hnl hu HEX
  go_enter Tryz.func208, Tryz.ntmps208
  go_wp2_with fail
  go_loopw [9] (fun kv wr => kv = .int .i64 ((i + 1 : Nat) : Int) ∧ wr = w.alloc stepZ) (fun kv _ => s.size - (intOf kv).toNat)
  case atStart => exact ⟨by simp, rfl⟩
  case round =>
    obtain ⟨rfl, rfl⟩ := hrel
    go_wp2_with fail
    refine (HWJ.out _).mono ?_
    rintro e wf ⟨rfl, rfl⟩
    go_wp2_with fail
    refine (HUQ.out _).mono ?_
    rintro e w1 ⟨rfl, hb1⟩
    have HB1 : Hid (Below w.heap.size w w1) := Lib.hid (HB0.out.trans (hb1.mono HB0.out.size))
    obtain ⟨hz4, k0, k1, k2, hfz, hfz2⟩ := new_step (W := w.alloc stepZ) (b := w.heap.size) (heap_alloc_new w stepZ) hb1
    clear hb1
    cases first with
    | false =>
      go_upto_region 10 with fail
      go_quiet (fail)
      go_wp2_with fail
      all_goals exact bodyPost_ret (v := .tuple #[sta ⟨false, [], 0⟩, .int .i64 (i : Int)]) (by simp [results, Tryz.results208, go_sem, k0, k1, k2]) rfl ⟨rfl, by first | exact ((HB1.out.setCell (Nat.le_refl _) _).setCell (Nat.le_refl _) _).setCell (Nat.le_refl _) _ | exact (((drewN_below HB1.out _).setCell (Nat.le_refl _) _).setCell (Nat.le_refl _) _).setCell (Nat.le_refl _) _ | exact drewN_below HB1.out _ | trace_state⟩
    | true =>
      go_upto_region 10 with fail
      go_quiet (fail)
      go_wp2_with fail
      all_goals exact bodyPost_ret (v := .tuple #[sta ⟨false, [], 0⟩, .int .i64 (i : Int)]) (by simp [results, Tryz.results208, go_sem, k0, k1, k2]) rfl ⟨rfl, by first | exact ((HB1.out.setCell (Nat.le_refl _) _).setCell (Nat.le_refl _) _).setCell (Nat.le_refl _) _ | exact (((drewN_below HB1.out _).setCell (Nat.le_refl _) _).setCell (Nat.le_refl _) _).setCell (Nat.le_refl _) _ | exact drewN_below HB1.out _ | trace_state⟩
end Go.Proofs.YtdgcdemihalefaaGreatDoor
namespace Go.Proofs.YtdgcdemihalefaaGreatDoor
open Go.RowKit Np Rw Vp Pw Fw
def ShortF (l : List Tm) : Prop := ∀ t ∈ l, t.name.length ≤ maxLen ∧ t.s.length ≤ 1000000 ∧ t.c.name.length ≤ maxLen ∧ t.c.s.length ≤ maxLen
theorem fpart_at {l r : List Tm} {at_ : Nat} {s : Tr Tm} {pre post : List (Tr Tm)} (h : l.drop at_ = flat s ++ r) (hk : s.ks = pre ++ post) : l.drop (at_ + 1 + (flats pre).length) = flats post ++ r := by
  rw [Nat.add_assoc, Nat.add_comm 1, ← List.drop_drop]
  rw [h, flat_eq, hk, flats_append, List.cons_append, List.drop_succ_cons, List.append_assoc, List.drop_left]
theorem fhead_at {l r : List Tm} {k : Nat} {t : Tr Tm} (h : l.drop k = flat t ++ r) : l[k]? = some t.nd := by
  have : (l.drop k)[0]? = some t.nd := by rw [h, flat_eq]; rfl
  rwa [List.getElem?_drop, Nat.add_zero] at this
theorem frpart_lt {l r : List Tm} {k : Nat} {t : Tr Tm} (h : l.drop k = flat t ++ r) : k + (flat t).length ≤ l.length := by
  have := congrArg List.length h
  have := flat_pos t
  simp at *; omega
set_option maxRecDepth 100000 in
set_option maxHeartbeats 4000000 in
theorem refHad_any (v : Value) (l : List Tm) (at_ tz : Nat) (s k : Tr Tm) (pre post : List (Tr Tm)) (r : List Tm) (w : World) (hv : Tms w v l) (hl : l.length ≤ 65536) (hs : l.drop at_ = flat s ++ r) (ho : okT tmany s) (hks : s.ks = pre ++ k :: post) (hto : tz = at_ + 1 + (flats pre).length) :
    Calls Tryz.prog 87 #[v, .int .i64 at_, .int .i64 tz] w fun e w' => e = .returned (.bool (decide (k.nd.name ∈ pre.map fun x => x.nd.name))) ∧ ∃ n, w' = w.drewN n := by
  generalize hans : decide (k.nd.name ∈ pre.map fun x => x.nd.name) = ans
  have HANS := Lib.hid hans; clear hans
  have hat := frpart_lt hs
  have hfp := flat_pos s
  have hvH := Lib.hid hv
  obtain ⟨g, o, c, rfl, hc, hcm, hg, hx⟩ := hv.opened (by omega)
  have HX := Lib.hid hx; clear hx
  have HS := Lib.hid hs; clear hs
  have HKS : Hid (okTs tmany s.ks) := Lib.hid (okT_eq.1 ho).2
  have HPK : Hid (l.drop tz = flat k ++ (flats post ++ r)) := Lib.hid (by rw [hto, fpart_at HS.out hks, flats_cons, List.append_assoc])
  have hkl := frpart_lt HPK.out
  have hkp := flat_pos k
  obtain ⟨-, -, k2, -, -, -, -, -, -, -, -⟩ := (HX.out tz _ (fhead_at HPK.out)).tm
  have HK := Lib.hid hks
  have HTO := Lib.hid hto
  clear ho hks hto
  generalize hnk : k.nd.name = nk at *
  generalize hn : l.length = n at *
  have HN := Lib.hid hn; clear hn
  go_enter Tryz.func87, Tryz.ntmps87
  go_wp2_with fail
  go_loopw [7] (fun i wr => ∃ p1 p2 : List (Tr Tm), Hid (pre = p1 ++ p2) ∧ i = .int .i64 (at_ + 1 + (flats p1).length : Nat) ∧ (∃ m, wr = w.drewN m) ∧ Hid (nk ∉ p1.map fun x => x.nd.name)) (fun i _ => n - (intOf i).toNat)
  case atStart => exact ⟨[], pre, Lib.hid rfl, by simp, ⟨0, rfl⟩, Lib.hid (by simp)⟩
  case round =>
    obtain ⟨p1, p2, HP, rfl, hq, HNI⟩ := hrel
    have HQ := Lib.hid hq
    clear hq
    have k2 := cell_quiet k2 HQ.out
    cases p2 with
    | nil =>
      have he : p1 = pre := by rw [HP.out, List.append_nil]
      subst he
      have HE : Hid (ans = false) := Lib.hid (by rw [← HANS.out]; simp [HNI.out])
      have hi := HTO.out
      clear HPK HTO
      subst hi
      go_wp2_with fail
      go_ret
      exact ⟨ret_bool HE.out.symm, HQ.out⟩
    | cons u p3 =>
      have hu : l.drop (at_ + 1 + (flats p1).length) = flat u ++ (flats p3 ++ flats (k :: post) ++ r) := by
        have := fpart_at (pre := p1) (post := u :: p3 ++ k :: post) HS.out (by rw [HK.out, HP.out, List.append_assoc])
        rw [this, flats_append, flats_cons]; simp
      have hoku : okT tmany u := by have := HKS.out; rw [HK.out, HP.out, okTs_append, okTs_append, okTs_cons] at this; exact this.1.2.1
      have hilt : at_ + 1 + (flats p1).length < tz := by
        rw [HTO.out, HP.out, flats_append, flats_cons]
        have := flat_pos u
        simp only [List.length_append]; omega
      have HNX : Hid (nxtF l.length (l.drop (at_ + 1 + (flats p1).length)) 1 (at_ + 1 + (flats p1).length) = (at_ + 1 + (flats p1).length + (flat u).length : Nat)) := Lib.hid (nxtF_at hu hoku)
      have HN2 : Hid (at_ + 1 + (flats (p1 ++ [u])).length = at_ + 1 + (flats p1).length + (flat u).length) := Lib.hid (by rw [flats_append, flats_cons, flats_nil, List.append_nil, List.length_append]; omega)
      have HP2 : Hid (pre = (p1 ++ [u]) ++ p3) := Lib.hid (by rw [HP.out]; simp)
      obtain ⟨-, -, b2, -, -, -, -, -, -, -, -⟩ := (HX.out _ _ (fhead_at hu)).tm.quiet HQ.out
      have hup := flat_pos u
      have HVR : Hid (∀ m, Tms (wr.drewN m) (.slice (some ⟨g, o, none⟩) n c) l) := Lib.hid (fun m => hvH.out.quiet (quiet_more HQ.out m))
      have hlu := frpart_lt hu
      rw [HN.out] at hlu
      generalize at_ + 1 + (flats p1).length = i at *
      generalize (flat u).length = ul at *
      clear hu hoku
      by_cases he : u.nd.name = nk
      · have HE : Hid (ans = true) := Lib.hid (by
          rw [← HANS.out, HP.out]
          simp [he])
        rw [he] at b2
        go_wp2_with fail
        go_quiet (fail)
        go_wp2_with fail
        go_ret
        exact ⟨ret_bool HE.out.symm, quiet_more HQ.out _⟩
      · have HNI2 : Hid (nk ∉ (p1 ++ [u]).map fun x => x.nd.name) := Lib.hid (by
          rw [List.map_append, List.mem_append]
          rintro (h | h)
          · exact HNI.out h
          · simp at h; exact he h.symm)
        generalize u.nd.name = nu at *
        have hb : (nu == nk) = false := by simpa using he
        go_wp2_with fail
        go_quiet (fail)
        go_wp2_with (go_at_call 33; refine (refNextT_any _ l i _ (HVR.out _) (by rw [HN.out]; exact hl) (by rw [HN.out]; omega)).mono ?_; rintro e w' ⟨rfl, rfl⟩; rw [HNX.out])
        go_roundw
        case rel => exact ⟨p1 ++ [u], p3, HP2, by rw [HN2.out, Int.natCast_add], quiet_more HQ.out _, HNI2⟩
        case measure => simp [intOf]; omega
end Go.Proofs.YtdgcdemihalefaaGreatDoor
