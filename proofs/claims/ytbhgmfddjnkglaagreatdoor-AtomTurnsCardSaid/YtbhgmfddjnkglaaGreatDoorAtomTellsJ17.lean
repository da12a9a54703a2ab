/-
  Joined: ORef3.
-/
import Derived.Test.YtbhgmfddjnkglaaGreatDoorAtomTellsJ16

/-
  What the document's own rows are, over any two rows of values whose comparison is what it should be.
-/
namespace Go.Proofs.YtbhgmfddjnkglaaGreatDoor
open Go.RowKit Np Rw Vp Ov

/-- A comparison of two values by the document's own Cmp. -/
def RefQ (t u : Tr Nd) : Prop := ∀ (va vb : Value) (w : World), Nds w va (flat t) → Nds w vb (flat u) →
  Calls Tryz.prog 23 #[va, vb] w fun e w' => e = .returned (.int .i64 (cmpT t u)) ∧ Below w.heap.size w w'
theorem vls_at {w : World} {v : Value} {ts : List (Tr Nd)} (h : Vls w v (ts.map flat)) {i : Nat} (hi : i < ts.length) : ∃ g o c A n d, v = .slice (some ⟨g, o, none⟩) ts.length c ∧ g < w.heap.size ∧ w.cell? ⟨g, o + i, none⟩ = some (.slice A n d) ∧ Nds w (.slice A n d) (flat ts[i]) := by
  obtain ⟨vs, hl, hr, hx⟩ := h
  rw [List.length_map] at hl
  obtain ⟨g, o, c, hv, -, -, hg, hc⟩ := hr.opened (by omega)
  have hi' : i < vs.length := by omega
  have h1 := hc i vs[i] (List.getElem?_eq_getElem hi')
  have h2 := hx i vs[i] (flat ts[i]) (List.getElem?_eq_getElem hi') (by rw [List.getElem?_map, List.getElem?_eq_getElem hi]; rfl)
  obtain ⟨A, d, h3, -⟩ := id h2
  rw [h3] at h1 h2
  exact ⟨g, o, c, A, _, d, by rw [hv, hl], hg, h1.one, h2⟩
theorem ts_last {ts us : List (Tr Nd)} {k : Nat} (h : k = ts.length ∨ k = us.length) (h1 : k ≤ ts.length) (h2 : k ≤ us.length) : cmpTs (ts.drop k) (us.drop k) = Lib.compareInt (ts.length : Int) (us.length : Int) := by
  rw [cmpTs_end h h1 h2]
  unfold Lib.compareInt
  (repeat' split) <;> omega
set_option maxRecDepth 100000 in
set_option maxHeartbeats 4000000 in
theorem refRows_of {ts us : List (Tr Nd)} (H : ∀ t ∈ ts, ∀ u ∈ us, RefQ t u) (va vb : Value) (w : World) (ha : Vls w va (ts.map flat)) (hb : Vls w vb (us.map flat)) (h1 : ts.length ≤ 100000) :
    Calls Tryz.prog 36 #[va, vb] w fun e w' => e = .returned (.int .i64 (cmpTs ts us)) ∧ Below w.heap.size w w' := by
  have HA := Lib.hid ha
  have HB := Lib.hid hb
  have HH := Lib.hid H
  obtain ⟨A, c, rfl⟩ : ∃ (A : Option Addr) (c : Nat), va = .slice A ts.length c := by
    obtain ⟨vs, hl, ⟨A, c, hv, -⟩, -⟩ := ha
    rw [List.length_map] at hl
    exact ⟨A, c, by rw [hv, hl]⟩
  obtain ⟨B, d, rfl⟩ : ∃ (B : Option Addr) (d : Nat), vb = .slice B us.length d := by
    obtain ⟨vs, hl, ⟨A, c, hv, -⟩, -⟩ := hb
    rw [List.length_map] at hl
    exact ⟨A, c, by rw [hv, hl]⟩
  clear ha hb H
  have HR : Hid (cmpTs ts us = cmpTs (ts.drop 0) (us.drop 0)) := Lib.hid (by simp)
  generalize hR : cmpTs ts us = R at *
  clear hR
  generalize hm : ts.length = m at *
  generalize hn : us.length = n at *
  have HM := Lib.hid hm
  have HN := Lib.hid hn
  clear hm hn
  go_enter Tryz.func36, Tryz.ntmps36
  go_wp2_with fail
  go_loopw [5] (fun iv wr => ∃ k : Nat, k ≤ m ∧ k ≤ n ∧ iv = .int .i64 k ∧ Hid (R = cmpTs (ts.drop k) (us.drop k)) ∧ Hid (Below w.heap.size w wr)) (fun iv _ => m - (intOf iv).toNat)
  case atStart => exact ⟨0, Nat.zero_le _, Nat.zero_le _, rfl, HR, Lib.hid (Below.refl _ _)⟩
  case round =>
    obtain ⟨k, hkm, hkn, rfl, HK, HQ⟩ := hrel
    by_cases hgo : k < m ∧ k < n
    · obtain ⟨h3, h4⟩ := hgo
      have h3' : k < ts.length := by rw [HM.out]; exact h3
      have h4' : k < us.length := by rw [HN.out]; exact h4
      have hst := cmpTs_at h3' h4'
      obtain ⟨g, o, c1, A1, n1, d1, e1, hg, p1, r1⟩ := vls_at HA.out h3'
      obtain ⟨g2, o2, c2, A2, n2, d2, e2, hg2, p2, r2⟩ := vls_at HB.out h4'
      rw [HM.out] at e1
      rw [HN.out] at e2
      injection e1 with e1 e3 e4
      injection e2 with e2 e5 e6
      subst e1 e2 e4 e6
      have q1 := (HQ.out.cell (p := ⟨g, o + k, none⟩) hg).trans p1
      have q2 := (HQ.out.cell (p := ⟨g2, o2 + k, none⟩) hg2).trans p2
      have HC : Hid (∀ W, Below w.heap.size w W → Calls Tryz.prog 23 #[.slice A1 n1 d1, .slice A2 n2 d2] W fun e w' => e = .returned (.int .i64 (cmpT ts[k] us[k])) ∧ Below W.heap.size W w') := Lib.hid fun W hb => HH.out _ (List.getElem_mem _) _ (List.getElem_mem _) _ _ W (r1.below hb) (r2.below hb)
      have HST := Lib.hid hst
      clear p1 p2 e3 e5 hst hg hg2 r1 r2
      generalize cmpT ts[k] us[k] = q at *
      have HQD : Hid (Below w.heap.size w wr.drew) := Lib.hid HQ.out.drew
      by_cases hq : q = 0
      · subst hq
        have HK2 : Hid (R = cmpTs (ts.drop (k + 1)) (us.drop (k + 1))) := Lib.hid (by rw [HK.out, HST.out, orI_z])
        go_wp2_with fail
        go_region_with (first | (go_at_call 23; refine (HC.out _ HQD.out).mono ?_; rintro e w1 ⟨rfl, hb1⟩))
        all_goals go_wp2_with fail
        all_goals
          refine ⟨⟨k + 1, by omega, by omega, rfl, HK2, Lib.hid (HQD.out.trans (hb1.mono HQD.out.size))⟩, ?_⟩
          simp [intOf]; omega
      · have HK2 : Hid (R = q) := Lib.hid (by rw [HK.out, HST.out, orI_ne hq])
        have hq1 : ((q == 0) : Bool) = false := by simpa using hq
        go_wp2_with fail
        go_region_with (first | (go_at_call 23; refine (HC.out _ HQD.out).mono ?_; rintro e w1 ⟨rfl, hb1⟩))
        all_goals go_wp2_with fail
        all_goals go_ret
        all_goals exact ⟨ret_i64 HK2.out.symm, HQD.out.trans (hb1.mono HQD.out.size)⟩
    · have HK2 : Hid (R = sgB (decide (m < n)) (decide (m = n))) := Lib.hid (by
        have h9 := ts_last (ts := ts) (us := us) (k := k) (by rw [HM.out, HN.out]; omega) (by rw [HM.out]; exact hkm) (by rw [HN.out]; exact hkn)
        rw [HK.out, h9, HM.out, HN.out, ← sgB_int]
        congr 1
        · rw [decide_eq_decide]; omega
        · rw [decide_eq_decide]; omega)
      have hgo2 : ¬ k < m ∨ ¬ k < n := by omega
      clear hgo
      go_wp2_with fail
      all_goals go_at_call 34
      all_goals refine (refSign_any _ _ _).mono ?_
      all_goals rintro e w1 ⟨rfl, rfl⟩
      all_goals go_wp2_with fail
      all_goals go_ret
      all_goals exact ⟨ret_i64 (by rw [HK2.out]; congr 1; rw [Bool.eq_iff_iff]; simp; omega), HQ.out⟩
end Go.Proofs.YtbhgmfddjnkglaaGreatDoor
