/-
  The walk of the statement QuoteJoined: it returns true.
-/
import Derived.Test.YtnpjbckobokhlaaDoorQAlive
import Derived.Test.YtnpjbckobokhlaaDoorQuoP2
namespace Go.Proofs.YtnpjbckobokhlaaDoor
open Go.RowKit Np Up Qp

theorem wr_ok : ∀ c : Fin 256, ∀ i : Fin 6, i.val < (wr (UInt8.ofNat c.val)).length → 32 ≤ bt (wr (UInt8.ofNat c.val)) i.val ∧ (bt (wr (UInt8.ofNat c.val)) i.val = 34 → 0 < i.val ∧ bt (wr (UInt8.ofNat c.val)) (i.val - 1) = 92) := by decide +kernel
/-- Nothing below a blank stands bare, nor does a mark. -/
theorem wrs_ok : ∀ (l : List UInt8) (i : Nat), i < (wrs l).length → 32 ≤ bt (wrs l) i ∧ (bt (wrs l) i = 34 → 0 < i ∧ bt (wrs l) (i - 1) = 92)
  | [], i, h => by simp [wrs] at h
  | c :: r, i, h => by
    have e : wrs (c :: r) = wr c ++ wrs r := by simp [wrs]
    rw [e] at h ⊢
    rw [List.length_append] at h
    have hw := wr_len c
    by_cases hi : i < (wr c).length
    · have h1 := wr_ok ⟨c.toNat, c.toNat_lt⟩ ⟨i, by omega⟩
      simp only [UInt8.ofNat_toNat] at h1
      obtain ⟨h2, h3⟩ := h1 hi
      rw [bt_append _ hi]
      refine ⟨h2, fun h4 => ?_⟩
      obtain ⟨h5, h6⟩ := h3 h4
      exact ⟨h5, by rw [bt_append _ (by omega)]; exact h6⟩
    · have hb : ∀ k, bt (wr c ++ wrs r) ((wr c).length + k) = bt (wrs r) k := by
        intro k
        rw [← bt_drop, List.drop_left]
      obtain ⟨k, rfl⟩ : ∃ k, i = (wr c).length + k := ⟨i - (wr c).length, by omega⟩
      obtain ⟨h2, h3⟩ := wrs_ok r k (by omega)
      rw [hb]
      refine ⟨h2, fun h4 => ?_⟩
      obtain ⟨h5, h6⟩ := h3 h4
      refine ⟨by omega, ?_⟩
      rw [show (wr c).length + k - 1 = (wr c).length + (k - 1) by omega, hb]
      exact h6
theorem quo_mid (l : List UInt8) : ((quo l).drop 1).take ((quo l).length - 1 - 1) = wrs l := by
  rw [quo_len, quo, List.drop_one, List.tail_cons]
  rw [show (wrs l).length + 2 - 1 - 1 = (wrs l).length by omega]
  exact List.take_left

set_option maxRecDepth 100000 in
set_option maxHeartbeats 8000000 in
theorem quoteJoined_any (a b : ByteArray) (w : World) (hE : Er w) (ha : a.size ≤ 140737488355328) (hb : b.size ≤ 140737488355328) :
    Calls Tryd.prog 6 #[.string a, .string b] w fun e w' => e = .returned (.bool true) ∧ Below w.heap.size w w' := by
  have ham : a.size ≤ maxLen := by unfold maxLen; omega
  have hbm : b.size ≤ maxLen := by unfold maxLen; omega
  by_cases h3 : a.size + b.size ≤ 300
  · cases hva : Lib.validD a.data.toList
    · have HVA := Lib.hid hva
      clear hva
      go_enter Tryd.func6, Tryd.ntmps6
      go_wp2_with fail
      refine (refUtf_any a _ ham).mono ?_
      rintro e1 w1 ⟨rfl, rfl⟩
      rw [HVA.out]
      go_wp2_with fail
      refine (alive_any _ hE).mono ?_
      rintro e1 w2 ⟨rfl, b2⟩
      go_wp2_with fail
      all_goals go_ret
      all_goals exact ⟨rfl, b2⟩
    have HVA := Lib.hid hva
    cases hvb : Lib.validD b.data.toList
    · have HVB := Lib.hid hvb
      clear hva hvb
      go_enter Tryd.func6, Tryd.ntmps6
      go_wp2_with fail
      refine (refUtf_any a _ ham).mono ?_
      rintro e1 w1 ⟨rfl, rfl⟩
      rw [HVA.out]
      go_wp2_with fail
      refine (refUtf_any b _ hbm).mono ?_
      rintro e1 w1 ⟨rfl, rfl⟩
      rw [HVB.out]
      go_wp2_with fail
      refine (alive_any _ hE).mono ?_
      rintro e1 w2 ⟨rfl, b2⟩
      go_wp2_with fail
      all_goals go_ret
      all_goals exact ⟨rfl, b2⟩
    · have HVB := Lib.hid hvb
      clear hva hvb
      have ha4 : a.size ≤ 4096 := by omega
      have hb4 : b.size ≤ 4096 := by omega
      have hab4 : (a ++ b).size ≤ 4096 := by rw [ByteArray.size_append]; omega
      have HAB : Hid ((a ++ b).data.toList = a.data.toList ++ b.data.toList) := Lib.hid (by simp)
      have hlx := quo_len a.data.toList
      have hly := quo_len b.data.toList
      have hlz := quo_len (a.data.toList ++ b.data.toList)
      have hux := (wrs_len a.data.toList).2
      have huy := (wrs_len b.data.toList).2
      have huz : (wrs (a.data.toList ++ b.data.toList)).length = (wrs a.data.toList).length + (wrs b.data.toList).length := by rw [wrs_append, List.length_append]
      rw [size_toList] at hux huy
      have hmx := quo_mid a.data.toList
      have hmy := quo_mid b.data.toList
      have hmz := quo_mid (a.data.toList ++ b.data.toList)
      have hok := wrs_ok (a.data.toList ++ b.data.toList)
      have hq0 : quo (a.data.toList ++ b.data.toList) = 34 :: (wrs (a.data.toList ++ b.data.toList) ++ [34]) := rfl
      have HQX := Lib.hid (rfl : quo a.data.toList = quo a.data.toList)
      generalize hX : quo a.data.toList = X at hlx hmx
      generalize hY : quo b.data.toList = Y at hly hmy
      generalize hZ : quo (a.data.toList ++ b.data.toList) = Z at hlz hmz hq0
      have HX := Lib.hid hX
      have HY := Lib.hid hY
      have HZ := Lib.hid hZ
      have HM : Hid ((Z.drop 1).take (Z.length - 1 - 1) = (X.drop 1).take (X.length - 1 - 1) ++ (Y.drop 1).take (Y.length - 1 - 1)) := Lib.hid (by rw [hmx, hmy, hmz, wrs_append])
      generalize hn : (wrs (a.data.toList ++ b.data.toList)).length = zk at hlz huz hok
      generalize (wrs a.data.toList).length = xk at hlx hux huz
      generalize (wrs b.data.toList).length = yk at hly huy huz
      obtain ⟨ZB, hZB⟩ : ∃ ZB : ByteArray, ZB = ByteArray.mk Z.toArray := ⟨_, rfl⟩
      have HZB := Lib.hid hZB
      have hzs : ZB.size = Z.length := by rw [hZB, mk_size]
      clear hmx hmy hmz hX hY hZ hZB
      go_enter Tryd.func6, Tryd.ntmps6
      go_wp2_with fail
      refine (refUtf_any a _ ham).mono ?_
      rintro e1 w1 ⟨rfl, rfl⟩
      rw [HVA.out]
      go_wp2_with fail
      refine (refUtf_any b _ hbm).mono ?_
      rintro e1 w1 ⟨rfl, rfl⟩
      rw [HVB.out]
      have HOK := Lib.hid hok
      have HQ0 := Lib.hid hq0
      have HNN := Lib.hid hn
      clear hok hq0 hn HQX
      go_wp2_with fail
      refine (quote_any a _ ha4).mono ?_
      rintro e1 w2 ⟨rfl, b2⟩
      rw [HX.out]
      go_wp2_with fail
      refine (quote_any b _ hb4).mono ?_
      rintro e1 w3 ⟨rfl, b3⟩
      rw [HY.out]
      go_wp2_with fail
      refine (quote_any _ _ hab4).mono ?_
      rintro e1 w4 ⟨rfl, b4⟩
      rw [HAB.out, HZ.out, ← HZB.out]
      have hB3 := b2.trans (b3.mono b2.size)
      have hB4 := hB3.trans (b4.mono hB3.size)
      clear b2 b3 b4 hB3
      go_wp2_with fail
      have hX2 : ¬ (X.length : Int) < 2 := by omega
      have hY2 : ¬ (Y.length : Int) < 2 := by omega
      have hZ2 : ¬ (ZB.size : Int) < 2 := by omega
      obtain ⟨xm, hxm⟩ : ∃ xm, xm = xk + 1 := ⟨_, rfl⟩
      obtain ⟨ym, hym⟩ : ∃ ym, ym = yk + 1 := ⟨_, rfl⟩
      obtain ⟨zm, hzm⟩ : ∃ zm, zm = zk + 1 := ⟨_, rfl⟩
      have hwx : IntKind.i64.wrap ((X.length : Int) - 1) = (xm : Int) := by rw [IntKind.wrap_i64]; omega
      have hwy : IntKind.i64.wrap ((Y.length : Int) - 1) = (ym : Int) := by rw [IntKind.wrap_i64]; omega
      have hwz : IntKind.i64.wrap ((ZB.size : Int) - 1) = (zm : Int) := by rw [IntKind.wrap_i64]; omega
      have hx1 : (1 : Int) ≤ (xm : Int) := by omega
      have hy1 : (1 : Int) ≤ (ym : Int) := by omega
      have hz1 : (1 : Int) ≤ (zm : Int) := by omega
      have hx2 : (xm : Int) ≤ (X.length : Int) := by omega
      have hy2 : (ym : Int) ≤ (Y.length : Int) := by omega
      have hz2 : (zm : Int) ≤ (ZB.size : Int) := by omega
      have hzX : Z.length = zm + 1 := by omega
      have hxX : X.length = xm + 1 := by omega
      have hyX : Y.length = ym + 1 := by omega
      have hcat : ¬ 9223372036854775807 < min xm X.length - 1 + (min ym Y.length - 1) := by omega
      have HM2 : Hid (ZB.extract 1 zm = (ByteArray.mk X.toArray).extract 1 xm ++ (ByteArray.mk Y.toArray).extract 1 ym) := Lib.hid (by
        have h := HM.out
        rw [hzX, hxX, hyX] at h
        have e : ∀ (L : List UInt8) (m : Nat), (ByteArray.mk L.toArray).extract 1 m = ⟨((L.drop 1).take (m - 1)).toArray⟩ := by
          intro L m
          have h := Lib.extract_toList (ByteArray.mk L.toArray) 1 m
          rw [ByteArray.toList_eq] at h
          rw [mk_data] at h
          rw [← h]
        rw [HZB.out, e, e, e, show zm - 1 = zm + 1 - 1 - 1 by omega, h]
        apply ByteArray.ext
        simp)
      have hz3 : zm < ZB.size := by omega
      have hz4 : 0 < ZB.size := by omega
      have hzb : zm ≤ 4096 := by omega
      have HW' : Hid (((ZB.size : Int) - 1) = (zm : Int)) := Lib.hid (by omega)
      have HZD : Hid (ZB.data.toList = Z) := Lib.hid (by rw [HZB.out])
      have HBT : Hid (∀ (m : Nat) (h : m + 1 < zm), 32 ≤ (ZB[m + 1]'(Nat.lt_trans h hz3)).toNat ∧ ((ZB[m + 1]'(Nat.lt_trans h hz3)).toNat = 34 → (ZB[m]'(Nat.lt_of_succ_lt (Nat.lt_trans h hz3))).toNat = 92)) := Lib.hid (by
        intro m h
        have g : ∀ (k : Nat) (hk : k < ZB.size), (ZB[k]'hk).toNat = bt Z k := fun k hk => by rw [← HZD.out]; exact (bt_at ZB k hk).symm
        rw [g, g]
        have hq := HQ0.out
        have g2 : ∀ k, k < zk → bt Z (k + 1) = bt (wrs (a.data.toList ++ b.data.toList)) k := by
          intro k hk
          rw [hq, bt_succ, bt_append _ (by rw [HNN.out]; exact hk)]
        obtain ⟨h1, h2⟩ := HOK.out m (by omega)
        rw [g2 m (by omega)]
        refine ⟨h1, fun h3 => ?_⟩
        obtain ⟨h4, h5⟩ := h2 h3
        obtain ⟨k, rfl⟩ : ∃ k, m = k + 1 := ⟨m - 1, by omega⟩
        rw [g2 k (by omega)]
        exact h5)
      have hz0 : (ZB[0]'hz4).toNat = 34 := by
        rw [← bt_at ZB 0 (by omega), HZD.out, HQ0.out, bt_cons]; rfl
      have hze : (ZB[zm]'hz3).toNat = 34 := by
        rw [← bt_at ZB zm (by omega), HZD.out, HQ0.out, hzm, bt_succ]
        have := bt_drop (wrs (a.data.toList ++ b.data.toList) ++ [34]) zk 0
        rw [Nat.add_zero] at this
        rw [← this, ← HNN.out, List.drop_left]
        rfl
      have hcmp : ((ZB.extract 1 zm).toList == ((ByteArray.mk X.toArray).extract 1 xm ++ (ByteArray.mk Y.toArray).extract 1 ym).toList) = true := by rw [HM2.out]; simp
      clear hlx hly hlz hzX hxX hyX hxm hym hzm hux huy huz hzs
      go_quiet (fail)
      have hE4 := hE.below (drewN_below hB4 nq)
      have hBn := drewN_below hB4 nq
      have HBn := Lib.hid hBn
      have HE4 := Lib.hid hE4
      clear hBn hE4 hB4 hE
      generalize w4.drewN nq = w5 at *
      go_wp2_with fail
      · have hwz' := HW'.out
        go_loop [8] (fun u => ∃ m : Nat, u = .int .i64 (m + 1 : Nat) ∧ m + 1 ≤ zm) (fun u => zm - (intOf u).toNat)
        case atStart => exact ⟨0, by go_num, by omega⟩
        case round =>
          obtain ⟨m, rfl, hm⟩ := hrel
          by_cases hmz : m + 1 < zm
          · obtain ⟨g1, g2⟩ := HBT.out m hmz
            by_cases h34 : (ZB[m + 1]'(Nat.lt_trans hmz hz3)).toNat = 34
            · have g3 := g2 h34
              go_wp2_with fail
              go_round
              case rel => exact ⟨m + 1, by go_num, by omega⟩
              case measure => simp [intOf]; omega
            · have hq : (((ZB[m + 1]'(Nat.lt_trans hmz hz3)).toNat : Int) == 34) = false := by rw [beq_eq_false_iff_ne]; omega
              go_wp2_with fail
              go_round
              case rel => exact ⟨m + 1, by go_num, by omega⟩
              case measure => simp [intOf]; omega
          · have hme : m + 1 = zm := by omega
            have hq0 : (((ZB[0]'hz4).toNat : Int) == 34) = true := by rw [beq_iff_eq]; omega
            have hqe : (((ZB[zm]'hz3).toNat : Int) == 34) = true := by rw [beq_iff_eq]; omega
            clear hz0 hze
            go_wp2_with fail
            refine (alive_any _ HE4.out).mono ?_
            rintro e1 w6 ⟨rfl, b6⟩
            go_wp2_with fail
            all_goals go_ret
            all_goals exact ⟨ret_bool (by simp), HBn.out.trans (b6.mono HBn.out.size)⟩
  · go_enter Tryd.func6, Tryd.ntmps6
    go_wp2_with (go_at_call 8; refine (alive_any _ hE).mono ?_; rintro e1 w1 ⟨rfl, b1⟩)
    all_goals go_ret
    all_goals exact ⟨rfl, b1⟩
end Go.Proofs.YtnpjbckobokhlaaDoor
