/-
  Joined: ORef2.
-/
import Derived.Test.YtbhgmfddjnkglaaGreatDoorAtomTellsJ14
import Derived.Test.YtbhgmfddjnkglaaGreatDoorAtomTellsJ15

/-
  What the document's own names, rows and Cmp are.
-/
namespace Go.Proofs.YtbhgmfddjnkglaaGreatDoor
open Go.RowKit Np Rw Vp Ov

theorem nm_drop {la lb : List (List UInt8)} {k : Nat} (h1 : k < la.length) (h2 : k < lb.length) : cmpNm (la.drop k) (lb.drop k) = orI (cmpB la[k] lb[k]) (cmpNm (la.drop (k + 1)) (lb.drop (k + 1))) := by
  rw [← List.getElem_cons_drop h1, ← List.getElem_cons_drop h2, cmpNm_cons]
theorem nm_last {la lb : List (List UInt8)} {k : Nat} (h : k = la.length ∨ k = lb.length) (h1 : k ≤ la.length) (h2 : k ≤ lb.length) : cmpNm (la.drop k) (lb.drop k) = Lib.compareInt (la.length : Int) (lb.length : Int) := by
  rw [cmpNm_nn (by simp; omega)]
  simp only [List.length_drop]
  unfold Lib.compareInt
  (repeat' split) <;> omega
set_option maxRecDepth 100000 in
set_option maxHeartbeats 2000000 in
theorem refNamesCmp_any (va vb : Value) (la lb : List (List UInt8)) (w : World) (ha : Sts w va la) (hb : Sts w vb lb) (h1 : la.length ≤ 100000) (h2 : lb.length ≤ 100000) :
    Calls Tryz.prog 38 #[va, vb] w fun e w' => e = .returned (.int .i64 (cmpNm la lb)) ∧ Below w.heap.size w w' := by
  have HXA : Hid (∀ j x, la[j]? = some x → ∃ g o c, va = .slice (some ⟨g, o, none⟩) la.length c ∧ g < w.heap.size ∧ w.cell? ⟨g, o + j, none⟩ = some (.string ⟨x.toArray⟩)) := Lib.hid fun j x hx => by
    obtain ⟨g, o, c, hv, -, -, hg, h⟩ := ha.opened (by have := (List.getElem?_eq_some_iff.1 hx).1; omega)
    exact ⟨g, o, c, hv, hg, (h j x hx).st⟩
  have HXB : Hid (∀ j x, lb[j]? = some x → ∃ g o c, vb = .slice (some ⟨g, o, none⟩) lb.length c ∧ g < w.heap.size ∧ w.cell? ⟨g, o + j, none⟩ = some (.string ⟨x.toArray⟩)) := Lib.hid fun j x hx => by
    obtain ⟨g, o, c, hv, -, -, hg, h⟩ := hb.opened (by have := (List.getElem?_eq_some_iff.1 hx).1; omega)
    exact ⟨g, o, c, hv, hg, (h j x hx).st⟩
  obtain ⟨A, c, rfl, -⟩ := ha
  obtain ⟨B, d, rfl, -⟩ := hb
  have HR : Hid (cmpNm la lb = cmpNm (la.drop 0) (lb.drop 0)) := Lib.hid (by simp)
  generalize hR : cmpNm la lb = R at *
  clear hR
  generalize hm : la.length = m at *
  generalize hn : lb.length = n at *
  have HM := Lib.hid hm
  have HN := Lib.hid hn
  clear hm hn
  go_enter Tryz.func38, Tryz.ntmps38
  go_wp2_with fail
  go_loopw [5] (fun iv wr => ∃ k : Nat, k ≤ m ∧ k ≤ n ∧ iv = .int .i64 k ∧ Hid (R = cmpNm (la.drop k) (lb.drop k)) ∧ Hid (∃ q, wr = w.drewN q)) (fun iv _ => m - (intOf iv).toNat)
  case atStart => exact ⟨0, Nat.zero_le _, Nat.zero_le _, rfl, HR, Lib.hid ⟨0, rfl⟩⟩
  case round =>
    obtain ⟨k, hkm, hkn, rfl, HK, HQ⟩ := hrel
    by_cases hgo : k < m ∧ k < n
    · obtain ⟨h3, h4⟩ := hgo
      have h3' : k < la.length := by rw [HM.out]; exact h3
      have h4' : k < lb.length := by rw [HN.out]; exact h4
      have hst := nm_drop h3' h4'
      obtain ⟨g, o, c1, e1, hg, p1⟩ := HXA.out k _ (List.getElem?_eq_getElem h3')
      obtain ⟨g2, o2, d1, e2, hg2, p2⟩ := HXB.out k _ (List.getElem?_eq_getElem h4')
      injection e1 with e1 e3 e4
      injection e2 with e2 e5 e6
      subst e1 e2 e4 e6
      have q1 := cell_quiet p1 HQ.out
      have q2 := cell_quiet p2 HQ.out
      have HST := Lib.hid hst
      clear p1 p2 e3 e5 hst hg hg2
      generalize la[k] = x at *
      generalize lb[k] = y at *
      by_cases he : x = y
      · subst he
        have HK2 : Hid (R = cmpNm (la.drop (k + 1)) (lb.drop (k + 1))) := Lib.hid (by rw [HK.out, HST.out, (cmpB_eq _ _).2 rfl, orI_z])
        go_wp2_with fail
        go_quiet (fail)
        go_wp2_with fail
        refine ⟨⟨k + 1, by omega, by omega, rfl, HK2, Lib.hid (quiet_more HQ.out _)⟩, ?_⟩
        simp [intOf]; omega
      · have HK2 : Hid (R = cmpB x y) := Lib.hid (by rw [HK.out, HST.out, orI_ne (fun h => he ((cmpB_eq _ _).1 h))])
        have hd : (!x == y) = true := by simpa using he
        go_wp2_with fail
        go_quiet (fail)
        have HK3 : Hid (R = sgB (Op.bytesLess x y) false) := Lib.hid (by
          rw [HK2.out, ← sgB_bytes, bytesLess_eq, decide_eq_false he])
        have hq3 := Lib.hid (quiet_more HQ.out nq)
        go_wp2_with fail
        go_region_with (first | (go_at_call 34; refine (refSign_any _ _ _).mono ?_; rintro e w1 ⟨rfl, rfl⟩))
        all_goals go_wp2_with fail
        all_goals go_ret
        all_goals exact ⟨ret_i64 HK3.out.symm, below_quiet (quiet_more hq3.out 1)⟩
    · have HK2 : Hid (R = sgB (decide (m < n)) (decide (m = n))) := Lib.hid (by
        have h9 := nm_last (la := la) (lb := lb) (k := k) (by rw [HM.out, HN.out]; omega) (by rw [HM.out]; exact hkm) (by rw [HN.out]; exact hkn)
        rw [HK.out, h9, HM.out, HN.out, ← sgB_int]
        congr 1
        · rw [decide_eq_decide]; omega
        · rw [decide_eq_decide]; omega)
      have hgo2 : ¬ k < m ∨ ¬ k < n := by omega
      clear hgo
      go_wp2_with fail
      all_goals go_at_call 34
      all_goals refine (refSign_any _ _ _).mono ?_
      all_goals rintro e w1 ⟨rfl, rfl⟩
      all_goals go_wp2_with fail
      all_goals go_ret
      all_goals exact ⟨ret_i64 (by rw [HK2.out]; congr 1; rw [Bool.eq_iff_iff]; simp; omega), below_quiet HQ.out⟩
end Go.Proofs.YtbhgmfddjnkglaaGreatDoor
