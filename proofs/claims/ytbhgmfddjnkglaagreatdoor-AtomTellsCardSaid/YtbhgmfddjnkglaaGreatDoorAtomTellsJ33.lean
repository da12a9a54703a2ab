/-
  Joined: AtomTells.
-/
import Derived.Test.YtbhgmfddjnkglaaGreatDoorAtomTellsJ32
import Derived.Test.YtbhgmfddjnkglaaGreatDoorAtomTellsJ7
import Derived.Test.YtbhgmfddjnkglaaGreatDoorAtomTellsJ8

/-
  The walk of AtomTells: which atoms are right, whether they hold, which nodes are members, as the document's own says.
-/
namespace Go.Proofs.YtbhgmfddjnkglaaGreatDoor
open Go.RowKit Np Rw Vp Ov Ap

theorem memb_all (n : Nd) : memb 31 [] n = pln n := by
  cases h : pln n with
  | false => simp [memb, h]
  | true => rcases pln_kind h with e | e | e | e | e <;> simp [memb, h, letsK, e] <;> decide

set_option maxRecDepth 100000 in
set_option maxHeartbeats 4000000 in
theorem aatomTells_any (x : Int) (lv : Value) (l : List Atm) (n : Nd) (w : World) (hl : Ats w lv l) (hh : ∀ a ∈ l, NdH a.c) (hn : NdH n) (hV : Av w) :
    Calls Tryz.prog 3 #[.int .i64 x, lv, nda n] w fun e w' => e = .returned (.bool true) ∧ Below w.heap.size w w' := by
  have HV := Lib.hid hV
  have HAL : Hid (∀ W, Below w.heap.size w W → Calls Tryz.prog 5 #[] W fun e w' => e = .returned (.bool true) ∧ Below W.heap.size W w') := Lib.hid fun W hW => aalive_any W (HV.out.below hW)
  have HLL := Lib.hid hl
  have HAA : Hid (∀ W, Below w.heap.size w W → Calls Tryz.prog 8 #[lv, .int .i64 8] W fun e w' => e = .returned (.bool (allA 8 l)) ∧ Below W.heap.size W w') := Lib.hid fun W hW => refAllA_any lv l W (HLL.out.below hW) hh
  have HME : Hid (∀ W, Calls Tryz.prog 9 #[.int .i64 31, .slice none 0 0, nda n] W fun e w' => e = .returned (.bool (pln n)) ∧ Below W.heap.size W w') := Lib.hid fun W => by
    have := refMemberA_any 31 (.slice none 0 0) [] n W (Row.nil _) (by simp) hn (by omega)
    rwa [memb_all] at this
  have HPV := Lib.hid (fun (h : pln n = true) => pln_val h)
  have HAM := Lib.hid (allA_mem (m := 8) (l := l))
  have hlen := hl.len
  have hN : Nd6 (w.alloc (.cells (nds n) 24)) w.heap.size 0 n := by constructor <;> simp
  have hB0 : Below w.heap.size w (w.alloc (.cells (nds n) 24)) := (Below.refl _ _).alloc (Nat.le_refl _) _
  clear hV
  have HXP : Hid (∀ k a, l[k]? = some a → ∃ g o c, lv = .slice (some ⟨g, o, none⟩) l.length c ∧ g < w.heap.size ∧ At7 w g (o + k * 7) a) := Lib.hid fun k s hs => by
    obtain ⟨g, o, c, hv, -, -, hg, hx⟩ := hl.opened (by have := (List.getElem?_eq_some_iff.1 hs).1; omega)
    exact ⟨g, o, c, hv, hg, (hx k s hs).atm⟩
  have HMR : Hid ((∀ s ∈ l, rightA s = true) → ∀ m : Nat, m ≤ 31 → ∀ W, Below w.heap.size w W → Calls Tryz.prog 9 #[.int .i64 m, lv, nda n] W fun e w' => e = .returned (.bool (memb m l n)) ∧ Below W.heap.size W w') := Lib.hid fun hr m hm W hW => refMemberA_any m lv l n W (HLL.out.below hW) hr hn hm
  have HMA : Hid ((∀ s ∈ l, rightA s = true) → ∀ m : Nat, m ≤ 31 → ∀ W, Below w.heap.size w W → Calls Tryz.prog 14 #[.int .i64 m, lv, nda n] W fun e w' => e = .returned (.bool (memb m l n)) ∧ Below W.heap.size W w') := Lib.hid fun hr m hm W hW => memberA_any m lv l n W (HLL.out.below hW) hr hn (HV.out.tabs.below hW) (HV.out.lts.below hW) hm
  obtain ⟨P, pc, rfl, -⟩ := hl
  generalize hpp : l.length = M at *
  have HP := Lib.hid hpp
  clear hpp
  unfold maxLen at hlen
  go_enter Tryz.func3, Tryz.ntmps3
  have hN' := Lib.hid hN
  have hlt0 : w.heap.size < (w.alloc (.cells (nds n) 24)).heap.size := by simp
  by_cases h8 : 8 < M
  · go_wp2_with fail
    refine (HAL.out _ hB0).mono ?_
    rintro e w2 ⟨rfl, hb2⟩
    have HB2 := Lib.hid (Below.after hB0 hb2)
    clear hb2
    go_wp2_with fail
    go_ret
    exact ⟨rfl, HB2.out⟩
  by_cases hns : 200 < n.s.length
  · go_wp2_with fail
    refine (HAL.out _ hB0).mono ?_
    rintro e w2 ⟨rfl, hb2⟩
    have HB2 := Lib.hid (Below.after hB0 hb2)
    clear hb2
    go_wp2_with fail
    go_ret
    exact ⟨rfl, HB2.out⟩
  by_cases hx0 : x < 0
  · go_wp2_with fail
    refine (HAL.out _ hB0).mono ?_
    rintro e w2 ⟨rfl, hb2⟩
    have HB2 := Lib.hid (Below.after hB0 hb2)
    clear hb2
    go_wp2_with fail
    go_ret
    exact ⟨rfl, HB2.out⟩
  by_cases hx1 : 31 < x
  · go_wp2_with fail
    refine (HAL.out _ hB0).mono ?_
    rintro e w2 ⟨rfl, hb2⟩
    have HB2 := Lib.hid (Below.after hB0 hb2)
    clear hb2
    go_wp2_with fail
    go_ret
    exact ⟨rfl, HB2.out⟩
  obtain ⟨a, rfl⟩ : ∃ a : Nat, x = a := ⟨x.toNat, by omega⟩
  have ha : a ≤ 31 := by omega
  go_wp2_with fail
  generalize w.alloc _ = W0 at hN hB0 hlt0 ⊢
  have HN0 := Lib.hid hN
  have HB0 := Lib.hid hB0
  clear hN hN' hB0
  go_loopw [7] (fun iv wr => ∃ k : Nat, k ≤ M ∧ iv = .int .i64 k ∧ Below W0.heap.size W0 wr) (fun iv _ => M - (intOf iv).toNat)
  case atStart => exact ⟨0, Nat.zero_le _, rfl, Below.refl _ _⟩
  case round =>
    obtain ⟨k, hk, rfl, hbw⟩ := hrel
    by_cases hlt : k < M
    · have hkp : k < l.length := by rw [HP.out]; exact hlt
      obtain ⟨gp, op, cp, e1, hgp, hs7⟩ := HXP.out k _ (List.getElem?_eq_getElem hkp)
      injection e1 with e1 e2 e3
      subst e1 e3
      have HMEM : Hid (l[k] ∈ l) := Lib.hid (List.getElem_mem hkp)
      have HBW := Lib.hid (HB0.out.trans (hbw.mono HB0.out.size))
      have HBL := Lib.hid hbw
      have HNH := Lib.hid (hh _ HMEM.out)
      have HRI : Hid (∀ W, Below w.heap.size w W → Calls Tryz.prog 6 #[ata l[k]] W fun e w' => e = .returned (.bool (rightA l[k])) ∧ Below W.heap.size W w') := Lib.hid fun W hW => rightA_any l[k] W HNH.out (HV.out.tabs.below hW)
      have HRR : Hid (∀ W, Calls Tryz.prog 7 #[ata l[k]] W fun e w' => e = .returned (.bool (rightA l[k])) ∧ Below W.heap.size W w') := Lib.hid fun W => refRightA_any l[k] W HNH.out
      -- R1H
      have HCC : Hid (∀ w', Below wr.heap.size wr w' → (w'.cell? ⟨gp, op + k * 7, none⟩ = some (.int .i64 l[k].n) ∧ w'.cell? ⟨gp, op + k * 7 + 1, none⟩ = some (.int .i64 l[k].c.kind) ∧ w'.cell? ⟨gp, op + k * 7 + 2, none⟩ = some (.int .i64 l[k].c.many) ∧ w'.cell? ⟨gp, op + k * 7 + 3, none⟩ = some (.string ⟨l[k].c.name.toArray⟩) ∧ w'.cell? ⟨gp, op + k * 7 + 4, none⟩ = some (.string ⟨l[k].c.s.toArray⟩) ∧ w'.cell? ⟨gp, op + k * 7 + 5, none⟩ = some (.bool l[k].c.neg) ∧ w'.cell? ⟨gp, op + k * 7 + 6, none⟩ = some (.int .i64 l[k].c.e)) ∧ w'.cell? ⟨w.heap.size, 0, none⟩ = some (.int .i64 n.kind) ∧ w'.cell? ⟨w.heap.size, 1, none⟩ = some (.int .i64 n.many) ∧ w'.cell? ⟨w.heap.size, 2, none⟩ = some (.string ⟨n.name.toArray⟩) ∧ w'.cell? ⟨w.heap.size, 3, none⟩ = some (.string ⟨n.s.toArray⟩) ∧ w'.cell? ⟨w.heap.size, 4, none⟩ = some (.bool n.neg) ∧ w'.cell? ⟨w.heap.size, 5, none⟩ = some (.int .i64 n.e)) := Lib.hid fun w' hw => by
        have h1 := hs7.below hgp (HBW.out.trans (hw.mono HBW.out.size))
        obtain ⟨z0, z1, z2, z3, z4, z5⟩ := HN0.out.below hlt0 (hbw.trans (hw.mono hbw.size))
        simp only [Nat.zero_add] at z1 z2 z3 z4 z5
        exact ⟨⟨h1.c0, h1.c1, h1.c2, h1.c3, h1.c4, h1.c5, h1.c6⟩, z0, z1, z2, z3, z4, z5⟩
      -- END R1H
      clear e2 HMEM hs7 hbw HNH HXP HMR HMA HAM HPV HME HAA HLL
      generalize l[k] = s at *
      clear hkp
      generalize rightA s = R at *
      by_cases hs : s.c.s.length ≤ 200
      · have e0 : ¬ 200 < s.c.s.length := by omega
        -- R1A
        go_wp2_with fail
        refine wp_region_held_drew (S := fun w' => Below wr.heap.size wr w') (by kernel_rfl) ((Below.refl _ _).drew) (fun hH => ?_)
        generalize wr.drew = Wd at hH ⊢
        refine rtk 0 (.slice (some ⟨gp, op, none⟩) M pc) ?_ ?_
        · intro w' hSw; go_simp; try decide
        try simp only [List.set_cons_succ, List.set_cons_zero]
        refine rtk 1 (.int .i64 k) ?_ ?_
        · intro w' hSw; go_simp; try decide
        try simp only [List.set_cons_succ, List.set_cons_zero]
        refine rtk 2 (.pointer (some ⟨gp, op + k * 7, none⟩)) ?_ ?_
        · intro w' hSw; go_simp; try decide
        try simp only [List.set_cons_succ, List.set_cons_zero]
        refine rtk 3 (.pointer (some ⟨gp, op + k * 7 + 1, none⟩)) ?_ ?_
        · intro w' hSw; go_simp; try decide
        try simp only [List.set_cons_succ, List.set_cons_zero]
        refine rtk 4 (.pointer (some ⟨gp, op + k * 7 + 4, none⟩)) ?_ ?_
        · intro w' hSw; go_simp; try decide
        try simp only [List.set_cons_succ, List.set_cons_zero]
        refine rtk 5 (.string ⟨s.c.s.toArray⟩) ?_ ?_
        · intro w' hSw; obtain ⟨⟨x0, x1, x2, x3, x4, x5, x6⟩, y0, y1, y2, y3, y4, y5⟩ := HCC.out w' hSw; go_simp; try decide
        try simp only [List.set_cons_succ, List.set_cons_zero]
        refine rtk 6 (.int .i64 s.c.s.length) ?_ ?_
        · intro w' hSw; go_simp; try decide
        try simp only [List.set_cons_succ, List.set_cons_zero]
        refine rtk 7 (.bool false) ?_ ?_
        · intro w' hSw; go_simp; omega
        try simp only [List.set_cons_succ, List.set_cons_zero]
        refine rtk 8 (.bool false) ?_ ?_
        · intro w' hSw; go_simp; try decide
        try simp only [List.set_cons_succ, List.set_cons_zero]
        refine rtk 9 (.slice (some ⟨gp, op, none⟩) M pc) ?_ ?_
        · intro w' hSw; go_simp; try decide
        try simp only [List.set_cons_succ, List.set_cons_zero]
        refine rtk 10 (.int .i64 k) ?_ ?_
        · intro w' hSw; go_simp; try decide
        try simp only [List.set_cons_succ, List.set_cons_zero]
        refine rtk 11 (.pointer (some ⟨gp, op + k * 7, none⟩)) ?_ ?_
        · intro w' hSw; go_simp; try decide
        try simp only [List.set_cons_succ, List.set_cons_zero]
        refine rtk 12 (ata s) ?_ ?_
        · intro w' hSw; obtain ⟨⟨x0, x1, x2, x3, x4, x5, x6⟩, y0, y1, y2, y3, y4, y5⟩ := HCC.out w' hSw; go_simp; try decide
        try simp only [List.set_cons_succ, List.set_cons_zero]
        refine rtk 14 (.slice (some ⟨gp, op, none⟩) M pc) ?_ ?_
        · intro w' hSw; go_simp; try decide
        try simp only [List.set_cons_succ, List.set_cons_zero]
        refine rtk 15 (.int .i64 k) ?_ ?_
        · intro w' hSw; go_simp; try decide
        try simp only [List.set_cons_succ, List.set_cons_zero]
        refine rtk 16 (.pointer (some ⟨gp, op + k * 7, none⟩)) ?_ ?_
        · intro w' hSw; go_simp; try decide
        try simp only [List.set_cons_succ, List.set_cons_zero]
        refine rtk 17 (ata s) ?_ ?_
        · intro w' hSw; obtain ⟨⟨x0, x1, x2, x3, x4, x5, x6⟩, y0, y1, y2, y3, y4, y5⟩ := HCC.out w' hSw; go_simp; try decide
        try simp only [List.set_cons_succ, List.set_cons_zero]
        refine wpAnyH_ready (rs := [13]) (by kernel_rfl) (by simp) ?_
        refine AllReadyH.cons rfl (fun K13 hK13 => ?_) AllReadyH.nil
        go_simp
        refine (HRI.out _ (HBW.out.trans (hH.mono HBW.out.size))).mono ?_
        rintro e w4 ⟨rfl, hb⟩
        go_wp2_with fail
        refine hK13.out _ _ (hH.trans (hb.mono hH.size)) (fun hH4 => ?_)
        clear hK13 K13 hb
        try simp only [List.set_cons_succ, List.set_cons_zero]
        refine wpAnyH_ready (rs := [18]) (by kernel_rfl) (by simp) ?_
        refine AllReadyH.cons rfl (fun K18 hK18 => ?_) AllReadyH.nil
        go_simp
        refine (HRR.out _).mono ?_
        rintro e w5 ⟨rfl, hb⟩
        go_wp2_with fail
        refine hK18.out _ _ (hH4.trans (hb.mono hH4.size)) (fun hH5 => ?_)
        clear hK18 K18 hb
        try simp only [List.set_cons_succ, List.set_cons_zero]
        refine rtk 19 (.bool false) ?_ ?_
        · intro w' hSw; cases R <;> (go_simp; try decide)
        try simp only [List.set_cons_succ, List.set_cons_zero]
        refine rtk 20 (.bool false) ?_ ?_
        · intro w' hSw; go_simp; try decide
        try simp only [List.set_cons_succ, List.set_cons_zero]
        refine wpAnyH_done (by kernel_rfl) ?_ _
        have HBE := Lib.hid (HBL.out.trans (hH5.mono HBL.out.size))
        go_wp2_with fail
        refine ⟨⟨k + 1, by omega, by go_num, HBE.out⟩, ?_⟩
        simp [intOf]; omega
        -- END R1A
      · have e0 : 200 < s.c.s.length := by omega
        -- R1B
        go_wp2_with fail
        refine wp_region_held_drew (S := fun w' => Below wr.heap.size wr w') (by kernel_rfl) ((Below.refl _ _).drew) (fun hH => ?_)
        generalize wr.drew = Wd at hH ⊢
        refine rtk 0 (.slice (some ⟨gp, op, none⟩) M pc) ?_ ?_
        · intro w' hSw; go_simp; try decide
        try simp only [List.set_cons_succ, List.set_cons_zero]
        refine rtk 1 (.int .i64 k) ?_ ?_
        · intro w' hSw; go_simp; try decide
        try simp only [List.set_cons_succ, List.set_cons_zero]
        refine rtk 2 (.pointer (some ⟨gp, op + k * 7, none⟩)) ?_ ?_
        · intro w' hSw; go_simp; try decide
        try simp only [List.set_cons_succ, List.set_cons_zero]
        refine rtk 3 (.pointer (some ⟨gp, op + k * 7 + 1, none⟩)) ?_ ?_
        · intro w' hSw; go_simp; try decide
        try simp only [List.set_cons_succ, List.set_cons_zero]
        refine rtk 4 (.pointer (some ⟨gp, op + k * 7 + 4, none⟩)) ?_ ?_
        · intro w' hSw; go_simp; try decide
        try simp only [List.set_cons_succ, List.set_cons_zero]
        refine rtk 5 (.string ⟨s.c.s.toArray⟩) ?_ ?_
        · intro w' hSw; obtain ⟨⟨x0, x1, x2, x3, x4, x5, x6⟩, y0, y1, y2, y3, y4, y5⟩ := HCC.out w' hSw; go_simp; try decide
        try simp only [List.set_cons_succ, List.set_cons_zero]
        refine rtk 6 (.int .i64 s.c.s.length) ?_ ?_
        · intro w' hSw; go_simp; try decide
        try simp only [List.set_cons_succ, List.set_cons_zero]
        refine rtk 7 (.bool true) ?_ ?_
        · intro w' hSw; go_simp; omega
        try simp only [List.set_cons_succ, List.set_cons_zero]
        refine rtk 8 (.bool true) ?_ ?_
        · intro w' hSw; go_simp; try decide
        try simp only [List.set_cons_succ, List.set_cons_zero]
        refine rtn 9 ?_
        try simp only [List.set_cons_succ, List.set_cons_zero]
        refine rtn 10 ?_
        try simp only [List.set_cons_succ, List.set_cons_zero]
        refine rtn 11 ?_
        try simp only [List.set_cons_succ, List.set_cons_zero]
        refine rtn 12 ?_
        try simp only [List.set_cons_succ, List.set_cons_zero]
        refine rtn 13 ?_
        try simp only [List.set_cons_succ, List.set_cons_zero]
        refine rtn 14 ?_
        try simp only [List.set_cons_succ, List.set_cons_zero]
        refine rtn 15 ?_
        try simp only [List.set_cons_succ, List.set_cons_zero]
        refine rtn 16 ?_
        try simp only [List.set_cons_succ, List.set_cons_zero]
        refine rtn 17 ?_
        try simp only [List.set_cons_succ, List.set_cons_zero]
        refine rtn 18 ?_
        try simp only [List.set_cons_succ, List.set_cons_zero]
        refine rtn 19 ?_
        try simp only [List.set_cons_succ, List.set_cons_zero]
        refine rtk 20 (.bool true) ?_ ?_
        · intro w' hSw; go_simp; try decide
        try simp only [List.set_cons_succ, List.set_cons_zero]
        refine wpAnyH_done (by kernel_rfl) ?_ _
        generalize hw0 : Wd = W7 at hH ⊢
        have HBX := Lib.hid (HBW.out.trans (hH.mono HBW.out.size))
        go_wp2_with fail
        refine (HAL.out _ HBX.out).mono ?_
        rintro e w2 ⟨rfl, hb2⟩
        have HB2 := Lib.hid (Below.after HBX.out hb2)
        obtain ⟨⟨x0, x1, x2, x3, x4, x5, x6⟩, y0, y1, y2, y3, y4, y5⟩ := HCC.out w2 (hH.trans (hb2.mono hH.size))
        clear hb2
        go_wp2_with fail
        go_ret
        exact ⟨ret_bool (by simp; omega), HB2.out⟩
        -- END R1B
    · obtain rfl : k = M := by omega
      have HB1 := Lib.hid (HB0.out.trans (hbw.mono HB0.out.size))
      have HN1 := Lib.hid (HN0.out.below hlt0 hbw)
      have hlt1 : w.heap.size < wr.heap.size := Nat.lt_of_lt_of_le hlt0 hbw.size
      clear hbw HB0 HN0 hlt0
      generalize hA : allA 8 l = A at HAA
      go_wp2_with fail
      refine (HAA.out _ HB1.out).mono ?_
      rintro e w1 ⟨rfl, hb1⟩
      have HB2 := Lib.hid (Below.after HB1.out hb1)
      have HN2 := Lib.hid (HN1.out.below hlt1 hb1)
      have hlt2 : w.heap.size < w1.heap.size := Nat.lt_of_lt_of_le hlt1 hb1.size
      clear hb1 HB1 HN1 HAA
      cases A with
      | false =>
        go_wp2_with fail
        refine (HAL.out _ HB2.out).mono ?_
        rintro e w2 ⟨rfl, hb2⟩
        have HB3 := Lib.hid (Below.after HB2.out hb2)
        clear hb2
        go_wp2_with fail
        go_ret
        exact ⟨rfl, HB3.out⟩
      | true =>
        obtain ⟨-, hall⟩ := HAM.out hA
        have HRT := Lib.hid (fun s hs => (hall s hs).2)
        have HRM := Lib.hid (HMR.out HRT.out a ha)
        have HAMM := Lib.hid (HMA.out HRT.out a ha)
        obtain ⟨y0, y1, y2, y3, y4, y5⟩ := HN2.out
        simp only [Nat.zero_add] at y1 y2 y3 y4 y5
        clear hall hA HAM HMR HMA HLL
        generalize memb a l n = MA at *
        go_wp2_with fail
        refine (HRM.out _ HB2.out).mono ?_
        rintro e w2 ⟨rfl, hb2⟩
        have HB0 := Lib.hid (Below.after HB2.out hb2)
        have HN0 := Lib.hid (HN2.out.below hlt2 hb2)
        have hlt0 : w.heap.size < w2.heap.size := Nat.lt_of_lt_of_le hlt2 hb2.size
        clear hb2 HB2 HN2 hlt2 y0 y1 y2 y3 y4 y5 HRM
        go_wp2_with fail
        go_loopw [9] (fun iv wr => ∃ i : Nat, i ≤ k ∧ iv = .int .i64 i ∧ Below w2.heap.size w2 wr) (fun iv _ => k - (intOf iv).toNat)
        case atStart => exact ⟨0, Nat.zero_le _, rfl, Below.refl _ _⟩
        case round =>
          obtain ⟨i, hk, rfl, hbw⟩ := hrel
          obtain ⟨y0, y1, y2, y3, y4, y5⟩ := HN0.out.below hlt0 hbw
          simp only [Nat.zero_add] at y1 y2 y3 y4 y5
          by_cases hlt : i < k
          · generalize hpl : pln n = PL at *
            go_wp2_with fail
            refine (HME.out wr).mono ?_
            rintro e w3 ⟨rfl, hb3⟩
            cases PL with
            | true =>
              -- R2
              have hkp : i < l.length := by rw [HP.out]; exact hlt
              obtain ⟨gp, op, cp, e1, hgp, hs7⟩ := HXP.out i _ (List.getElem?_eq_getElem hkp)
              injection e1 with e1 e2 e3
              subst e1 e3
              have HMEM : Hid (l[i] ∈ l) := Lib.hid (List.getElem_mem hkp)
              have hb3' := Below.after hbw hb3
              have HBW := Lib.hid (Below.after HB0.out hb3')
              have HBL := Lib.hid hb3'
              have HRA : Hid (rightA l[i] = true) := Lib.hid (HRT.out _ HMEM.out)
              have HVN := Lib.hid (HPV.out rfl)
              have HHA : Hid (∀ W, Below w.heap.size w W → Calls Tryz.prog 10 #[ata l[i], nda n] W fun e w' => e = .returned (.bool (holdsA n l[i])) ∧ Below W.heap.size W w') := Lib.hid fun W hW => holdsA_any l[i] n W HRA.out HVN.out (HV.out.lts.below hW)
              have HHR : Hid (∀ W, Calls Tryz.prog 11 #[ata l[i], nda n] W fun e w' => e = .returned (.bool (holdsA n l[i])) ∧ Below W.heap.size W w') := Lib.hid fun W => refHoldsA_any l[i] n W (pln_val (rightA_pln HRA.out)) HVN.out
              have HTR : Hid (∀ W, Calls Tryz.prog 13 #[.int .i64 l[i].n] W fun e w' => e = .returned (.int .i64 (turn l[i].n)) ∧ Below W.heap.size W w') := Lib.hid fun W => refTurn_any l[i].n W (rightA_way HRA.out)
              have HCC : Hid (∀ w', Below w3.heap.size w3 w' → (w'.cell? ⟨gp, op + i * 7, none⟩ = some (.int .i64 l[i].n) ∧ w'.cell? ⟨gp, op + i * 7 + 1, none⟩ = some (.int .i64 l[i].c.kind) ∧ w'.cell? ⟨gp, op + i * 7 + 2, none⟩ = some (.int .i64 l[i].c.many) ∧ w'.cell? ⟨gp, op + i * 7 + 3, none⟩ = some (.string ⟨l[i].c.name.toArray⟩) ∧ w'.cell? ⟨gp, op + i * 7 + 4, none⟩ = some (.string ⟨l[i].c.s.toArray⟩) ∧ w'.cell? ⟨gp, op + i * 7 + 5, none⟩ = some (.bool l[i].c.neg) ∧ w'.cell? ⟨gp, op + i * 7 + 6, none⟩ = some (.int .i64 l[i].c.e)) ∧ w'.cell? ⟨w.heap.size, 0, none⟩ = some (.int .i64 n.kind) ∧ w'.cell? ⟨w.heap.size, 1, none⟩ = some (.int .i64 n.many) ∧ w'.cell? ⟨w.heap.size, 2, none⟩ = some (.string ⟨n.name.toArray⟩) ∧ w'.cell? ⟨w.heap.size, 3, none⟩ = some (.string ⟨n.s.toArray⟩) ∧ w'.cell? ⟨w.heap.size, 4, none⟩ = some (.bool n.neg) ∧ w'.cell? ⟨w.heap.size, 5, none⟩ = some (.int .i64 n.e)) := Lib.hid fun w' hw => by
                have h1 := hs7.below hgp (HBW.out.trans (hw.mono HBW.out.size))
                obtain ⟨z0, z1, z2, z3, z4, z5⟩ := HN0.out.below hlt0 (hb3'.trans (hw.mono hb3'.size))
                simp only [Nat.zero_add] at z1 z2 z3 z4 z5
                exact ⟨⟨h1.c0, h1.c1, h1.c2, h1.c3, h1.c4, h1.c5, h1.c6⟩, z0, z1, z2, z3, z4, z5⟩
              clear e2 HMEM hs7 hb3' hb3 HXP HRA HVN HPV HRT HB0 HN0 y0 y1 y2 y3 y4 y5 HME hh hn HV HAL
              generalize l[i] = s at *
              clear hkp
              generalize holdsA n s = HO at *
              generalize hTT : turn s.n = TT at HTR
              go_wp2_with fail
              refine wp_region_held_drew (S := fun w' => Below w3.heap.size w3 w') (by kernel_rfl) ((Below.refl _ _).drew) (fun hH => ?_)
              generalize w3.drew = Wd at hH ⊢
              refine rtk 0 (.slice (some ⟨gp, op, none⟩) k pc) ?_ ?_
              · intro w' hSw; go_simp; try decide
              try simp only [List.set_cons_succ, List.set_cons_zero]
              refine rtk 1 (.int .i64 i) ?_ ?_
              · intro w' hSw; go_simp; try decide
              try simp only [List.set_cons_succ, List.set_cons_zero]
              refine rtk 2 (.pointer (some ⟨gp, op + i * 7, none⟩)) ?_ ?_
              · intro w' hSw; go_simp; try decide
              try simp only [List.set_cons_succ, List.set_cons_zero]
              refine rtk 3 (ata s) ?_ ?_
              · intro w' hSw; obtain ⟨⟨x0, x1, x2, x3, x4, x5, x6⟩, y0, y1, y2, y3, y4, y5⟩ := HCC.out w' hSw; go_simp; try decide
              try simp only [List.set_cons_succ, List.set_cons_zero]
              refine rtk 4 (nda n) ?_ ?_
              · intro w' hSw; obtain ⟨⟨x0, x1, x2, x3, x4, x5, x6⟩, y0, y1, y2, y3, y4, y5⟩ := HCC.out w' hSw; go_simp; try decide
              try simp only [List.set_cons_succ, List.set_cons_zero]
              refine rtk 6 (.slice (some ⟨gp, op, none⟩) k pc) ?_ ?_
              · intro w' hSw; go_simp; try decide
              try simp only [List.set_cons_succ, List.set_cons_zero]
              refine rtk 7 (.int .i64 i) ?_ ?_
              · intro w' hSw; go_simp; try decide
              try simp only [List.set_cons_succ, List.set_cons_zero]
              refine rtk 8 (.pointer (some ⟨gp, op + i * 7, none⟩)) ?_ ?_
              · intro w' hSw; go_simp; try decide
              try simp only [List.set_cons_succ, List.set_cons_zero]
              refine rtk 9 (ata s) ?_ ?_
              · intro w' hSw; obtain ⟨⟨x0, x1, x2, x3, x4, x5, x6⟩, y0, y1, y2, y3, y4, y5⟩ := HCC.out w' hSw; go_simp; try decide
              try simp only [List.set_cons_succ, List.set_cons_zero]
              refine rtk 10 (nda n) ?_ ?_
              · intro w' hSw; obtain ⟨⟨x0, x1, x2, x3, x4, x5, x6⟩, y0, y1, y2, y3, y4, y5⟩ := HCC.out w' hSw; go_simp; try decide
              try simp only [List.set_cons_succ, List.set_cons_zero]
              refine wpAnyH_ready (rs := [5]) (by kernel_rfl) (by simp) ?_
              refine AllReadyH.cons rfl (fun K5 hK5 => ?_) AllReadyH.nil
              go_simp
              refine (HHA.out _ (HBW.out.trans (hH.mono HBW.out.size))).mono ?_
              rintro e w4 ⟨rfl, hb⟩
              go_wp2_with fail
              refine hK5.out _ _ (hH.trans (hb.mono hH.size)) (fun hH4 => ?_)
              clear hK5 K5 hb
              try simp only [List.set_cons_succ, List.set_cons_zero]
              refine wpAnyH_ready (rs := [11]) (by kernel_rfl) (by simp) ?_
              refine AllReadyH.cons rfl (fun K11 hK11 => ?_) AllReadyH.nil
              go_simp
              refine (HHR.out _).mono ?_
              rintro e w5 ⟨rfl, hb⟩
              go_wp2_with fail
              refine hK11.out _ _ (hH4.trans (hb.mono hH4.size)) (fun hH5 => ?_)
              clear hK11 K11 hb
              try simp only [List.set_cons_succ, List.set_cons_zero]
              refine rtk 12 (.bool false) ?_ ?_
              · intro w' hSw; cases HO <;> (go_simp; try decide)
              try simp only [List.set_cons_succ, List.set_cons_zero]
              refine rtk 13 (.bool false) ?_ ?_
              · intro w' hSw; go_simp; try decide
              try simp only [List.set_cons_succ, List.set_cons_zero]
              refine rtk 14 (.slice (some ⟨gp, op, none⟩) k pc) ?_ ?_
              · intro w' hSw; go_simp; try decide
              try simp only [List.set_cons_succ, List.set_cons_zero]
              refine rtk 15 (.int .i64 i) ?_ ?_
              · intro w' hSw; go_simp; try decide
              try simp only [List.set_cons_succ, List.set_cons_zero]
              refine rtk 16 (.pointer (some ⟨gp, op + i * 7, none⟩)) ?_ ?_
              · intro w' hSw; go_simp; try decide
              try simp only [List.set_cons_succ, List.set_cons_zero]
              refine rtk 17 (.pointer (some ⟨gp, op + i * 7, none⟩)) ?_ ?_
              · intro w' hSw; go_simp; try decide
              try simp only [List.set_cons_succ, List.set_cons_zero]
              refine rtk 18 (.int .i64 s.n) ?_ ?_
              · intro w' hSw; obtain ⟨⟨x0, x1, x2, x3, x4, x5, x6⟩, y0, y1, y2, y3, y4, y5⟩ := HCC.out w' hSw; go_simp; try decide
              try simp only [List.set_cons_succ, List.set_cons_zero]
              refine rtk 20 (.slice (some ⟨gp, op, none⟩) k pc) ?_ ?_
              · intro w' hSw; go_simp; try decide
              try simp only [List.set_cons_succ, List.set_cons_zero]
              refine rtk 21 (.int .i64 i) ?_ ?_
              · intro w' hSw; go_simp; try decide
              try simp only [List.set_cons_succ, List.set_cons_zero]
              refine rtk 22 (.pointer (some ⟨gp, op + i * 7, none⟩)) ?_ ?_
              · intro w' hSw; go_simp; try decide
              try simp only [List.set_cons_succ, List.set_cons_zero]
              refine rtk 23 (.pointer (some ⟨gp, op + i * 7, none⟩)) ?_ ?_
              · intro w' hSw; go_simp; try decide
              try simp only [List.set_cons_succ, List.set_cons_zero]
              refine rtk 24 (.int .i64 s.n) ?_ ?_
              · intro w' hSw; obtain ⟨⟨x0, x1, x2, x3, x4, x5, x6⟩, y0, y1, y2, y3, y4, y5⟩ := HCC.out w' hSw; go_simp; try decide
              try simp only [List.set_cons_succ, List.set_cons_zero]
              refine wpAnyH_ready (rs := [19]) (by kernel_rfl) (by simp) ?_
              refine AllReadyH.cons rfl (fun K19 hK19 => ?_) AllReadyH.nil
              go_simp
              refine (turn_any s.n _).mono ?_
              rintro e w6 ⟨rfl, rfl⟩
              go_wp2_with fail
              refine hK19.out _ _ hH5 (fun hH6 => ?_)
              clear hK19 K19
              try simp only [List.set_cons_succ, List.set_cons_zero]
              refine wpAnyH_ready (rs := [25]) (by kernel_rfl) (by simp) ?_
              refine AllReadyH.cons rfl (fun K25 hK25 => ?_) AllReadyH.nil
              go_simp
              refine (HTR.out _).mono ?_
              rintro e w7 ⟨rfl, hb⟩
              go_wp2_with fail
              refine hK25.out _ _ (hH6.trans (hb.mono hH6.size)) (fun hH7 => ?_)
              clear hK25 K25 hb
              try simp only [List.set_cons_succ, List.set_cons_zero]
              refine rtk 26 (.bool false) ?_ ?_
              · intro w' hSw; go_simp; try decide
              try simp only [List.set_cons_succ, List.set_cons_zero]
              refine rtk 27 (.bool false) ?_ ?_
              · intro w' hSw; go_simp; try decide
              try simp only [List.set_cons_succ, List.set_cons_zero]
              refine wpAnyH_done (by kernel_rfl) ?_ _
              have HBE := Lib.hid (HBL.out.trans (hH7.mono HBL.out.size))
              go_wp2_with fail
              refine ⟨⟨i + 1, by omega, by go_num, HBE.out⟩, ?_⟩
              simp [intOf]; omega
              -- END R2
            | false =>
              -- R3A
              have hb3' := Below.after hbw hb3
              have HBS := Lib.hid hb3'
              have HB7 := Lib.hid (Below.after HB0.out hb3')
              clear hb3 hb3' hbw y0 y1 y2 y3 y4 y5
              have hW7 := HN0.out.below hlt0 HBS.out
              have HN7 := Lib.hid hW7
              have hlt7 : w.heap.size < w3.heap.size := Nat.lt_of_lt_of_le hlt0 HBS.out.size
              go_wp2_with fail
              refine (HAL.out _ HB7.out).mono ?_
              rintro e w8 ⟨rfl, hb8⟩
              obtain ⟨z0, z1, z2, z3, z4, z5⟩ := HN7.out.below hlt7 hb8
              simp only [Nat.zero_add] at z1 z2 z3 z4 z5
              have HB8 := Lib.hid (Below.after HB7.out hb8)
              clear hb8 hW7
              go_wp2_with fail
              refine (HAMM.out _ HB8.out).mono ?_
              rintro e w9 ⟨rfl, hb9⟩
              have HB9 := Lib.hid (Below.after HB8.out hb9)
              clear hb9 z0 z1 z2 z3 z4 z5
              go_wp2_with fail
              go_ret
              exact ⟨ret_bool (by simp), HB9.out⟩
              -- END R3A
          · skip
            -- R3B
            have HBS := Lib.hid hbw
            have HB7 := Lib.hid (Below.after HB0.out hbw)
            clear hbw y0 y1 y2 y3 y4 y5
            have hW7 := HN0.out.below hlt0 HBS.out
            have HN7 := Lib.hid hW7
            have hlt7 : w.heap.size < wr.heap.size := Nat.lt_of_lt_of_le hlt0 HBS.out.size
            go_wp2_with fail
            refine (HAL.out _ HB7.out).mono ?_
            rintro e w8 ⟨rfl, hb8⟩
            obtain ⟨z0, z1, z2, z3, z4, z5⟩ := HN7.out.below hlt7 hb8
            simp only [Nat.zero_add] at z1 z2 z3 z4 z5
            have HB8 := Lib.hid (Below.after HB7.out hb8)
            clear hb8 hW7
            go_wp2_with fail
            refine (HAMM.out _ HB8.out).mono ?_
            rintro e w9 ⟨rfl, hb9⟩
            have HB9 := Lib.hid (Below.after HB8.out hb9)
            clear hb9 z0 z1 z2 z3 z4 z5
            go_wp2_with fail
            go_ret
            exact ⟨ret_bool (by simp), HB9.out⟩
            -- END R3B
end Go.Proofs.YtbhgmfddjnkglaaGreatDoor
