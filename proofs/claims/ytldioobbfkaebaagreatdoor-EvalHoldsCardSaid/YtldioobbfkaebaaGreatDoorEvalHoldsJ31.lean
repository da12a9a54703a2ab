/-
  Joined: Ow7, Ow8, Ow9, OwA, ORef1, ORef2, ORef3, ErF.
-/
import Derived.Test.YtldioobbfkaebaaGreatDoorEvalHoldsJ25
import Derived.Test.YtldioobbfkaebaaGreatDoorEvalHoldsJ12
import Derived.Recover
import Derived.Deep.RegionLaw
import Derived.Test.YtldioobbfkaebaaGreatDoorEvalHoldsJ11
import Derived.Test.YtldioobbfkaebaaGreatDoorEvalHoldsJ10
import Derived.Test.YtldioobbfkaebaaGreatDoorEvalHoldsJ29
import Derived.Test.YtldioobbfkaebaaGreatDoorEvalHoldsJ30
import Derived.Test.YtldioobbfkaebaaGreatDoorEvalHoldsJ14
import Derived.Test.YtldioobbfkaebaaGreatDoorEvalHoldsJ13
import Derived.BigRegion
set_option maxHeartbeats 4000000
set_option maxRecDepth 100000
namespace Go.Proofs.YtldioobbfkaebaaGreatDoor
section
open Go.RowKit Np Rw Vp Ov
structure Kx (kb : Nat) (vk : Value) (ts : List (Tr Nd)) (W : World) : Prop where
 bx : W.cell? ⟨kb, 0, none⟩ = some vk
 lt : kb < W.heap.size
 ks : Keys W vk ts
theorem Kx.below {kb : Nat} {vk : Value} {ts : List (Tr Nd)} {W W' : World} (h : Kx kb vk ts W) (hb : Below W.heap.size W W') : Kx kb vk ts W' :=
 ⟨(hb.cell (p := ⟨kb, 0, none⟩) h.lt).trans h.bx, Nat.lt_of_lt_of_le h.lt hb.size, h.ks.below hb⟩
end
section
open Go.RowKit Np Rw Vp Ov
end
section
open Go.RowKit Np Rw Vp Ov
end
section
open Go.RowKit Np Rw Vp Ov
end
section
open Go.RowKit Np Rw Vp Ov
def sgB (less same : Bool) : Int := if same then 0 else if less then -1 else 1
theorem sgB_int (x y : Int) : sgB (decide (x < y)) (decide (x = y)) = Lib.compareInt x y := by
 unfold sgB Lib.compareInt
 simp only [decide_eq_true_eq]
 (repeat' split) <;> omega
theorem sgB_bytes (a b : List UInt8) : sgB (decide (a < b)) (decide (a = b)) = cmpB a b := by
 have h1 := cmpB_lt a b
 have h2 := cmpB_eq a b
 rcases cmpB_cases a b with h | h | h
 ·have h3 := h1.1 h
  have h4 : ¬ a = b := fun e => by rw [h2.2 e] at h; cases h
  simp [sgB, h3, h4, h]
 ·rw [h]
  have h3 := h2.1 h
  simp [sgB, h3]
 ·have h3 : ¬ a < b := fun e => by rw [h1.2 e] at h; cases h
  have h4 : ¬ a = b := fun e => by rw [h2.2 e] at h; cases h
  simp [sgB, h3, h4, h]
theorem refSign_any (l s : Bool) (w : World) : Calls Tryz.prog 56 #[.bool l, .bool s] w fun e w' => e = .returned (.int .i64 (sgB l s)) ∧ w' = w := by
 cases l <;> cases s
 all_goals
  go_enter Tryz.func56, Tryz.ntmps56
  go_wp2_with fail
  go_ret
  exact ⟨rfl, rfl⟩
end
section
open Go.RowKit Np Rw Vp Ov
theorem nm_drop {la lb : List (List UInt8)} {k : Nat} (h1 : k < la.length) (h2 : k < lb.length) : cmpNm (la.drop k) (lb.drop k) = orI (cmpB la[k] lb[k]) (cmpNm (la.drop (k + 1)) (lb.drop (k + 1))) := by
 rw [← List.getElem_cons_drop h1, ← List.getElem_cons_drop h2, cmpNm_cons]
theorem nm_last {la lb : List (List UInt8)} {k : Nat} (h : k = la.length ∨ k = lb.length) (h1 : k ≤ la.length) (h2 : k ≤ lb.length) : cmpNm (la.drop k) (lb.drop k) = Lib.compareInt (la.length : Int) (lb.length : Int) := by
 rw [cmpNm_nn (by simp; omega)]
 simp only [List.length_drop]
 unfold Lib.compareInt
 (repeat' split) <;> omega
theorem refNamesCmp_any (va vb : Value) (la lb : List (List UInt8)) (w : World) (ha : Sts w va la) (hb : Sts w vb lb) (h1 : la.length ≤ 100000) (h2 : lb.length ≤ 100000) :
  Calls Tryz.prog 59 #[va, vb] w fun e w' => e = .returned (.int .i64 (cmpNm la lb)) ∧ Below w.heap.size w w' := by
 have HXA : Hid (∀ j x, la[j]? = some x → ∃ g o c, va = .slice (some ⟨g, o, none⟩) la.length c ∧ g < w.heap.size ∧ w.cell? ⟨g, o + j, none⟩ = some (.string ⟨x.toArray⟩)) := Lib.hid fun j x hx => by
  obtain ⟨g, o, c, hv, -, -, hg, h⟩ := ha.opened (by have := (List.getElem?_eq_some_iff.1 hx).1; omega)
  exact ⟨g, o, c, hv, hg, (h j x hx).st⟩
 have HXB : Hid (∀ j x, lb[j]? = some x → ∃ g o c, vb = .slice (some ⟨g, o, none⟩) lb.length c ∧ g < w.heap.size ∧ w.cell? ⟨g, o + j, none⟩ = some (.string ⟨x.toArray⟩)) := Lib.hid fun j x hx => by
  obtain ⟨g, o, c, hv, -, -, hg, h⟩ := hb.opened (by have := (List.getElem?_eq_some_iff.1 hx).1; omega)
  exact ⟨g, o, c, hv, hg, (h j x hx).st⟩
 obtain ⟨A, c, rfl, -⟩ := ha
 obtain ⟨B, d, rfl, -⟩ := hb
 have HR : Hid (cmpNm la lb = cmpNm (la.drop 0) (lb.drop 0)) := Lib.hid (by simp)
 generalize hR : cmpNm la lb = R at *
 clear hR
 generalize hm : la.length = m at *
 generalize hn : lb.length = n at *
 have HM := Lib.hid hm
 have HN := Lib.hid hn
 clear hm hn
 go_enter Tryz.func59, Tryz.ntmps59
 go_wp2_with fail
 go_loopw [5] (fun iv wr => ∃ k : Nat, k ≤ m ∧ k ≤ n ∧ iv = .int .i64 k ∧ Hid (R = cmpNm (la.drop k) (lb.drop k)) ∧ Hid (∃ q, wr = w.drewN q)) (fun iv _ => m - (intOf iv).toNat)
 case atStart => exact ⟨0, Nat.zero_le _, Nat.zero_le _, rfl, HR, Lib.hid ⟨0, rfl⟩⟩
 case round =>
  obtain ⟨k, hkm, hkn, rfl, HK, HQ⟩ := hrel
  by_cases hgo : k < m ∧ k < n
  ·obtain ⟨h3, h4⟩ := hgo
   have h3' : k < la.length := by rw [HM.out]; exact h3
   have h4' : k < lb.length := by rw [HN.out]; exact h4
   have hst := nm_drop h3' h4'
   obtain ⟨g, o, c1, e1, hg, p1⟩ := HXA.out k _ (List.getElem?_eq_getElem h3')
   obtain ⟨g2, o2, d1, e2, hg2, p2⟩ := HXB.out k _ (List.getElem?_eq_getElem h4')
   injection e1 with e1 e3 e4
   injection e2 with e2 e5 e6
   subst e1 e2 e4 e6
   have q1 := cell_quiet p1 HQ.out
   have q2 := cell_quiet p2 HQ.out
   have HST := Lib.hid hst
   clear p1 p2 e3 e5 hst hg hg2
   generalize la[k] = x at *
   generalize lb[k] = y at *
   by_cases he : x = y
   ·subst he
    have HK2 : Hid (R = cmpNm (la.drop (k + 1)) (lb.drop (k + 1))) := Lib.hid (by rw [HK.out, HST.out, (cmpB_eq _ _).2 rfl, orI_z])
    go_wp2_with fail
    go_quiet (fail)
    go_wp2_with fail
    refine ⟨⟨k + 1, by omega, by omega, rfl, HK2, Lib.hid (quiet_more HQ.out _)⟩, ?_⟩
    simp [intOf]; omega
   ·have HK2 : Hid (R = cmpB x y) := Lib.hid (by rw [HK.out, HST.out, orI_ne (fun h => he ((cmpB_eq _ _).1 h))])
    have hd : (!x == y) = true := by simpa using he
    go_wp2_with fail
    go_quiet (fail)
    have HK3 : Hid (R = sgB (Op.bytesLess x y) false) := Lib.hid (by
     rw [HK2.out, ← sgB_bytes, bytesLess_eq, decide_eq_false he])
    have hq3 := Lib.hid (quiet_more HQ.out nq)
    go_wp2_with fail
    go_region_with (first | (go_at_call 56; refine (refSign_any _ _ _).mono ?_; rintro e w1 ⟨rfl, rfl⟩))
    all_goals go_wp2_with fail
    all_goals go_ret
    all_goals exact ⟨ret_i64 HK3.out.symm, below_quiet (quiet_more hq3.out 1)⟩
  ·have HK2 : Hid (R = sgB (decide (m < n)) (decide (m = n))) := Lib.hid (by
    have h9 := nm_last (la := la) (lb := lb) (k := k) (by rw [HM.out, HN.out]; omega) (by rw [HM.out]; exact hkm) (by rw [HN.out]; exact hkn)
    rw [HK.out, h9, HM.out, HN.out, ← sgB_int]
    congr 1
    ·rw [decide_eq_decide]; omega
    ·rw [decide_eq_decide]; omega)
   have hgo2 : ¬ k < m ∨ ¬ k < n := by omega
   clear hgo
   go_wp2_with fail
   all_goals go_at_call 56
   all_goals refine (refSign_any _ _ _).mono ?_
   all_goals rintro e w1 ⟨rfl, rfl⟩
   all_goals go_wp2_with fail
   all_goals go_ret
   all_goals exact ⟨ret_i64 (by rw [HK2.out]; congr 1; rw [Bool.eq_iff_iff]; simp; omega), below_quiet HQ.out⟩
end
section
open Go.RowKit Np Rw Vp Ov
def RefQ (t u : Tr Nd) : Prop := ∀ (va vb : Value) (w : World), Nds w va (flat t) → Nds w vb (flat u) →
 Calls Tryz.prog 28 #[va, vb] w fun e w' => e = .returned (.int .i64 (cmpT t u)) ∧ Below w.heap.size w w'
theorem vls_at {w : World} {v : Value} {ts : List (Tr Nd)} (h : Vls w v (ts.map flat)) {i : Nat} (hi : i < ts.length) : ∃ g o c A n d, v = .slice (some ⟨g, o, none⟩) ts.length c ∧ g < w.heap.size ∧ w.cell? ⟨g, o + i, none⟩ = some (.slice A n d) ∧ Nds w (.slice A n d) (flat ts[i]) := by
 obtain ⟨vs, hl, hr, hx⟩ := h
 rw [List.length_map] at hl
 obtain ⟨g, o, c, hv, -, -, hg, hc⟩ := hr.opened (by omega)
 have hi' : i < vs.length := by omega
 have h1 := hc i vs[i] (List.getElem?_eq_getElem hi')
 have h2 := hx i vs[i] (flat ts[i]) (List.getElem?_eq_getElem hi') (by rw [List.getElem?_map, List.getElem?_eq_getElem hi]; rfl)
 obtain ⟨A, d, h3, -⟩ := id h2
 rw [h3] at h1 h2
 exact ⟨g, o, c, A, _, d, by rw [hv, hl], hg, h1.one, h2⟩
theorem ts_last {ts us : List (Tr Nd)} {k : Nat} (h : k = ts.length ∨ k = us.length) (h1 : k ≤ ts.length) (h2 : k ≤ us.length) : cmpTs (ts.drop k) (us.drop k) = Lib.compareInt (ts.length : Int) (us.length : Int) := by
 rw [cmpTs_end h h1 h2]
 unfold Lib.compareInt
 (repeat' split) <;> omega
theorem refRows_of {ts us : List (Tr Nd)} (H : ∀ t ∈ ts, ∀ u ∈ us, RefQ t u) (va vb : Value) (w : World) (ha : Vls w va (ts.map flat)) (hb : Vls w vb (us.map flat)) (h1 : ts.length ≤ 100000) :
  Calls Tryz.prog 58 #[va, vb] w fun e w' => e = .returned (.int .i64 (cmpTs ts us)) ∧ Below w.heap.size w w' := by
 have HA := Lib.hid ha
 have HB := Lib.hid hb
 have HH := Lib.hid H
 obtain ⟨A, c, rfl⟩ : ∃ (A : Option Addr) (c : Nat), va = .slice A ts.length c := by
  obtain ⟨vs, hl, ⟨A, c, hv, -⟩, -⟩ := ha
  rw [List.length_map] at hl
  exact ⟨A, c, by rw [hv, hl]⟩
 obtain ⟨B, d, rfl⟩ : ∃ (B : Option Addr) (d : Nat), vb = .slice B us.length d := by
  obtain ⟨vs, hl, ⟨A, c, hv, -⟩, -⟩ := hb
  rw [List.length_map] at hl
  exact ⟨A, c, by rw [hv, hl]⟩
 clear ha hb H
 have HR : Hid (cmpTs ts us = cmpTs (ts.drop 0) (us.drop 0)) := Lib.hid (by simp)
 generalize hR : cmpTs ts us = R at *
 clear hR
 generalize hm : ts.length = m at *
 generalize hn : us.length = n at *
 have HM := Lib.hid hm
 have HN := Lib.hid hn
 clear hm hn
 go_enter Tryz.func58, Tryz.ntmps58
 go_wp2_with fail
 go_loopw [5] (fun iv wr => ∃ k : Nat, k ≤ m ∧ k ≤ n ∧ iv = .int .i64 k ∧ Hid (R = cmpTs (ts.drop k) (us.drop k)) ∧ Hid (Below w.heap.size w wr)) (fun iv _ => m - (intOf iv).toNat)
 case atStart => exact ⟨0, Nat.zero_le _, Nat.zero_le _, rfl, HR, Lib.hid (Below.refl _ _)⟩
 case round =>
  obtain ⟨k, hkm, hkn, rfl, HK, HQ⟩ := hrel
  by_cases hgo : k < m ∧ k < n
  ·obtain ⟨h3, h4⟩ := hgo
   have h3' : k < ts.length := by rw [HM.out]; exact h3
   have h4' : k < us.length := by rw [HN.out]; exact h4
   have hst := cmpTs_at h3' h4'
   obtain ⟨g, o, c1, A1, n1, d1, e1, hg, p1, r1⟩ := vls_at HA.out h3'
   obtain ⟨g2, o2, c2, A2, n2, d2, e2, hg2, p2, r2⟩ := vls_at HB.out h4'
   rw [HM.out] at e1
   rw [HN.out] at e2
   injection e1 with e1 e3 e4
   injection e2 with e2 e5 e6
   subst e1 e2 e4 e6
   have q1 := (HQ.out.cell (p := ⟨g, o + k, none⟩) hg).trans p1
   have q2 := (HQ.out.cell (p := ⟨g2, o2 + k, none⟩) hg2).trans p2
   have HC : Hid (∀ W, Below w.heap.size w W → Calls Tryz.prog 28 #[.slice A1 n1 d1, .slice A2 n2 d2] W fun e w' => e = .returned (.int .i64 (cmpT ts[k] us[k])) ∧ Below W.heap.size W w') := Lib.hid fun W hb => HH.out _ (List.getElem_mem _) _ (List.getElem_mem _) _ _ W (r1.below hb) (r2.below hb)
   have HST := Lib.hid hst
   clear p1 p2 e3 e5 hst hg hg2 r1 r2
   generalize cmpT ts[k] us[k] = q at *
   have HQD : Hid (Below w.heap.size w wr.drew) := Lib.hid HQ.out.drew
   by_cases hq : q = 0
   ·subst hq
    have HK2 : Hid (R = cmpTs (ts.drop (k + 1)) (us.drop (k + 1))) := Lib.hid (by rw [HK.out, HST.out, orI_z])
    go_wp2_with fail
    go_region_with (first | (go_at_call 28; refine (HC.out _ HQD.out).mono ?_; rintro e w1 ⟨rfl, hb1⟩))
    all_goals go_wp2_with fail
    all_goals
     refine ⟨⟨k + 1, by omega, by omega, rfl, HK2, Lib.hid (HQD.out.trans (hb1.mono HQD.out.size))⟩, ?_⟩
     simp [intOf]; omega
   ·have HK2 : Hid (R = q) := Lib.hid (by rw [HK.out, HST.out, orI_ne hq])
    have hq1 : ((q == 0) : Bool) = false := by simpa using hq
    go_wp2_with fail
    go_region_with (first | (go_at_call 28; refine (HC.out _ HQD.out).mono ?_; rintro e w1 ⟨rfl, hb1⟩))
    all_goals go_wp2_with fail
    all_goals go_ret
    all_goals exact ⟨ret_i64 HK2.out.symm, HQD.out.trans (hb1.mono HQD.out.size)⟩
  ·have HK2 : Hid (R = sgB (decide (m < n)) (decide (m = n))) := Lib.hid (by
    have h9 := ts_last (ts := ts) (us := us) (k := k) (by rw [HM.out, HN.out]; omega) (by rw [HM.out]; exact hkm) (by rw [HN.out]; exact hkn)
    rw [HK.out, h9, HM.out, HN.out, ← sgB_int]
    congr 1
    ·rw [decide_eq_decide]; omega
    ·rw [decide_eq_decide]; omega)
   have hgo2 : ¬ k < m ∨ ¬ k < n := by omega
   clear hgo
   go_wp2_with fail
   all_goals go_at_call 56
   all_goals refine (refSign_any _ _ _).mono ?_
   all_goals rintro e w1 ⟨rfl, rfl⟩
   all_goals go_wp2_with fail
   all_goals go_ret
   all_goals exact ⟨ret_i64 (by rw [HK2.out]; congr 1; rw [Bool.eq_iff_iff]; simp; omega), HQ.out⟩
end
section
open Go.RowKit Np Rw Vp Up Qp Pw Ev
theorem refDelete10_no (s : St) (p : List St) (pv v : Value) (t : Tr Nd) (w : World) (hp : Sps w pv (s :: p)) (hv : Nds w v (flat t)) (hk : t.nd.kind ≠ stKind s) :
  Calls Tryz.prog 14 #[pv, v] w (OutV w (ofO (cutE (s :: p) t))) := by
 obtain ⟨g, o, c, rfl, hc, hcm, hg, hxs⟩ := hp.opened (by simp)
 obtain ⟨z0, z1, z2⟩ := (hxs 0 s rfl).sp
 rw [Nat.zero_mul, Nat.add_zero] at z0 z1 z2
 have HV := Lib.hid hv
 obtain ⟨g1, o1, c1, rfl, hc1, hcm1, hg1, hx1⟩ := hv.opened (flat_pos t)
 have k0 := (hx1 0 t.nd (by rw [flat_eq]; rfl)).nd.c0
 rw [Nat.zero_mul, Nat.add_zero] at k0
 have hfl := flat_pos t
 have hlen : (s :: p).length = p.length + 1 := rfl
 rw [hlen]
 clear hxs hx1 hp hv
 by_cases h0 : t.nd.kind = 0
 ·rw [cut_null h0]
  rw [h0] at k0
  generalize (flat t).length = m at *
  go_enter Tryz.func14, Tryz.ntmps14
  go_wp2_with fail
  exact bodyPost_ret (v := .tuple #[.slice (some ⟨g1, o1, none⟩) m c1, .int .i64 0]) (by simp [results, Tryz.results14, go_sem]) rfl ⟨_, rfl, HV.out, Below.refl _ _⟩
 ·rw [cut_bad h0 hk]
  have e0 : (t.nd.kind == 0) = false := by simpa using h0
  cases hpt : s.part with
  | true =>
   have h5 : t.nd.kind ≠ 5 := by simpa [stKind, hpt] using hk
   have e5 : (t.nd.kind == 5) = false := by simpa using h5
   rw [hpt] at z0
   generalize (flat t).length = m at *
   clear HV
   generalize t.nd.kind = K at *
   go_enter Tryz.func14, Tryz.ntmps14
   go_wp2_with fail
   go_big_region
   all_goals go_wp2_with fail
   exact bodyPost_ret (v := .tuple #[.slice none 0 0, .int .i64 5]) (by simp [results, Tryz.results14, go_sem]) rfl ⟨rfl, (Below.refl _ _).drew⟩
  | false =>
   have h6 : t.nd.kind ≠ 6 := by simpa [stKind, hpt] using hk
   have e6 : (t.nd.kind != 6) = true := by simpa [bne] using h6
   rw [hpt] at z0
   generalize (flat t).length = m at *
   clear HV
   by_cases h5 : t.nd.kind = 5
   ·rw [h5] at k0
    go_enter Tryz.func14, Tryz.ntmps14
    go_wp2_with fail
    go_big_region
    all_goals go_wp2_with fail
    exact bodyPost_ret (v := .tuple #[.slice none 0 0, .int .i64 5]) (by simp [results, Tryz.results14, go_sem]) rfl ⟨rfl, (Below.refl _ _).drew⟩
   ·have e5 : (t.nd.kind == 5) = false := by simpa using h5
    generalize t.nd.kind = K at *
    go_enter Tryz.func14, Tryz.ntmps14
    go_wp2_with fail
    go_big_region
    all_goals go_wp2_with fail
    exact bodyPost_ret (v := .tuple #[.slice none 0 0, .int .i64 5]) (by simp [results, Tryz.results14, go_sem]) rfl ⟨rfl, (Below.refl _ _).drew⟩
end
end Go.Proofs.YtldioobbfkaebaaGreatDoor
