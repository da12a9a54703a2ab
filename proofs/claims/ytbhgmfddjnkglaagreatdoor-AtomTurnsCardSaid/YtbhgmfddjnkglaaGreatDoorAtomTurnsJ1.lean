/-
  Joined: AtomTurns, AtomTurnsCard.
-/
import Derived.Test.YtbhgmfddjnkglaaGreatDoorAtomTellsJ32
import Derived.Test.YtbhgmfddjnkglaaGreatDoorAtomTellsJ7
import Derived.Test.YtbhgmfddjnkglaaGreatDoorAtomTellsJ8
import Derived.Test.YtbhgmfddjnkglaaGreatDoorAtomTellsJ34

/-
  The walk of AtomTurns: of an atom and the one that is turned just one holds; members of more atoms are members of fewer.
-/
namespace Go.Proofs.YtbhgmfddjnkglaaGreatDoor
open Go.RowKit Np Rw Vp Ov Ap

theorem memb_31 (n : Nd) : memb 31 [] n = pln n := by
  cases h : pln n with
  | false => simp [memb, h]
  | true => rcases pln_kind h with e | e | e | e | e <;> simp [memb, h, letsK, e] <;> decide
theorem or_mask : ∀ a : Nat, a ≤ 31 → ∀ b : Nat, b ≤ 31 → bits BinOp.or IntKind.i64 (a : Int) (b : Int) = ((a ||| b : Nat) : Int) := by decide +kernel
theorem or_le {a b : Nat} (ha : a ≤ 31) (hb : b ≤ 31) : a ||| b ≤ 31 := by
  have := Nat.or_lt_two_pow (n := 5) (x := a) (y := b) (by omega) (by omega)
  omega

/-- Where the two numbers and the node lie. -/
structure MN (B : Nat) (W : World) (x y : Int) (n : Nd) : Prop where
  lt : B + 1 < W.heap.size
  m : W.heap[B]? = some (.cells #[.int .i64 x, .int .i64 y] 33)
  d : W.heap[B + 1]? = some (.cells (nds n) 24)
theorem MN.below {B : Nat} {W W' : World} {x y : Int} {n : Nd} (h : MN B W x y n) (hb : Below W.heap.size W W') : MN B W' x y n :=
  ⟨Nat.lt_of_lt_of_le h.lt hb.size, (hb.block _ (by have := h.lt; omega)).trans h.m, (hb.block _ h.lt).trans h.d⟩
theorem MN.cells {B : Nat} {W : World} {x y : Int} {n : Nd} (h : MN B W x y n) : W.cell? ⟨B, 0, none⟩ = some (.int .i64 x) ∧ W.cell? ⟨B, 1, none⟩ = some (.int .i64 y) ∧ W.cell? ⟨B + 1, 0, none⟩ = some (.int .i64 n.kind) ∧ W.cell? ⟨B + 1, 1, none⟩ = some (.int .i64 n.many) ∧ W.cell? ⟨B + 1, 2, none⟩ = some (.string ⟨n.name.toArray⟩) ∧ W.cell? ⟨B + 1, 3, none⟩ = some (.string ⟨n.s.toArray⟩) ∧ W.cell? ⟨B + 1, 4, none⟩ = some (.bool n.neg) ∧ W.cell? ⟨B + 1, 5, none⟩ = some (.int .i64 n.e) := by
  refine ⟨?_, ?_, ?_, ?_, ?_, ?_, ?_, ?_⟩
  · rw [Lib.cell_of_heap h.m]; rfl
  · rw [Lib.cell_of_heap h.m]; rfl
  all_goals (rw [Lib.cell_of_heap h.d]; rfl)
theorem MN.new (w : World) (x y : Int) (n : Nd) : MN w.heap.size ((w.alloc (.cells #[.int .i64 x, .int .i64 y] 33)).alloc (.cells (nds n) 24)) x y n := by
  refine ⟨by simp, (Below.heap_alloc _ _ _ (by simp)).trans (heap_alloc_new w _), ?_⟩
  have := heap_alloc_new (w.alloc (.cells #[.int .i64 x, .int .i64 y] 33)) (.cells (nds n) 24)
  rwa [World.size_alloc] at this

set_option maxRecDepth 100000 in
set_option maxHeartbeats 4000000 in
theorem aatomTurns_any (x y : Int) (lv : Value) (l : List Atm) (n : Nd) (w : World) (hl : Ats w lv l) (hh : ∀ a ∈ l, NdH a.c) (hn : NdH n) (hV : Av w) :
    Calls Tryz.prog 4 #[.agg #[.int .i64 x, .int .i64 y], lv, nda n] w fun e w' => e = .returned (.bool true) ∧ Below w.heap.size w w' := by
  have HV := Lib.hid hV
  have HAL : Hid (∀ W, Below w.heap.size w W → Calls Tryz.prog 5 #[] W fun e w' => e = .returned (.bool true) ∧ Below W.heap.size W w') := Lib.hid fun W hW => aalive_any W (HV.out.below hW)
  have HLL := Lib.hid hl
  have HAA : Hid (∀ W, Below w.heap.size w W → Calls Tryz.prog 8 #[lv, .int .i64 8] W fun e w' => e = .returned (.bool (allA 8 l)) ∧ Below W.heap.size W w') := Lib.hid fun W hW => refAllA_any lv l W (HLL.out.below hW) hh
  have HME : Hid (∀ W, Below w.heap.size w W → Calls Tryz.prog 9 #[.int .i64 31, .slice none 0 0, nda n] W fun e w' => e = .returned (.bool (pln n)) ∧ Below W.heap.size W w') := Lib.hid fun W hW => by
    have := refMemberA_any 31 (.slice none 0 0) [] n W (Row.nil _) (by simp) hn (by omega)
    rwa [memb_31] at this
  have HPV := Lib.hid (fun (h : pln n = true) => pln_val h)
  have HAM := Lib.hid (allA_mem (m := 8) (l := l))
  have HMM := Lib.hid (fun (m : Nat) (h : memb m l n = true) => memb_pln h)
  have hlen := hl.len
  clear hV
  generalize hA : allA 8 l = A at HAA
  go_enter Tryz.func4, Tryz.ntmps4
  go_wp2_with fail
  have hB0 : Below w.heap.size w ((w.alloc (.cells #[.int .i64 x, .int .i64 y] 33)).alloc (.cells (nds n) 24)) := ((Below.refl _ _).alloc (Nat.le_refl _) _).alloc (by simp) _
  have hM0 := MN.new w x y n
  simp only [nds] at hB0 hM0
  generalize (w.alloc _).alloc _ = W0 at hB0 hM0 ⊢
  refine (HAA.out W0 hB0).mono ?_
  rintro e W1 ⟨rfl, hb1⟩
  have HB1 := Lib.hid (hB0.trans (hb1.mono hB0.size))
  have HM1 := Lib.hid (hM0.below hb1)
  clear hB0 hM0 hb1 HAA
  obtain ⟨m0, m1, y0, y1, y2, y3, y4, y5⟩ := HM1.out.cells
  cases A with
  | false =>
    go_wp2_with fail
    refine (HAL.out _ HB1.out).mono ?_
    rintro e w2 ⟨rfl, hb2⟩
    have HB2 := Lib.hid (HB1.out.trans (hb2.mono HB1.out.size))
    clear hb2
    go_wp2_with fail
    go_ret
    exact ⟨rfl, HB2.out⟩
  | true =>
    by_cases hx0 : x < 0
    · go_wp2_with fail
      refine (HAL.out _ HB1.out).mono ?_
      rintro e w2 ⟨rfl, hb2⟩
      have HB2 := Lib.hid (HB1.out.trans (hb2.mono HB1.out.size))
      clear hb2
      go_wp2_with fail
      go_ret
      exact ⟨rfl, HB2.out⟩
    by_cases hx1 : 31 < x
    · go_wp2_with fail
      refine (HAL.out _ HB1.out).mono ?_
      rintro e w2 ⟨rfl, hb2⟩
      have HB2 := Lib.hid (HB1.out.trans (hb2.mono HB1.out.size))
      clear hb2
      go_wp2_with fail
      go_ret
      exact ⟨rfl, HB2.out⟩
    by_cases hy0 : y < 0
    · go_wp2_with fail
      refine (HAL.out _ HB1.out).mono ?_
      rintro e w2 ⟨rfl, hb2⟩
      have HB2 := Lib.hid (HB1.out.trans (hb2.mono HB1.out.size))
      clear hb2
      go_wp2_with fail
      go_ret
      exact ⟨rfl, HB2.out⟩
    by_cases hy1 : 31 < y
    · go_wp2_with fail
      refine (HAL.out _ HB1.out).mono ?_
      rintro e w2 ⟨rfl, hb2⟩
      have HB2 := Lib.hid (HB1.out.trans (hb2.mono HB1.out.size))
      clear hb2
      go_wp2_with fail
      go_ret
      exact ⟨rfl, HB2.out⟩
    by_cases hns : 200 < n.s.length
    · go_wp2_with fail
      refine (HAL.out _ HB1.out).mono ?_
      rintro e w2 ⟨rfl, hb2⟩
      have HB2 := Lib.hid (HB1.out.trans (hb2.mono HB1.out.size))
      clear hb2
      go_wp2_with fail
      go_ret
      exact ⟨rfl, HB2.out⟩
    obtain ⟨a, rfl⟩ : ∃ a : Nat, x = a := ⟨x.toNat, by omega⟩
    obtain ⟨b, rfl⟩ : ∃ b : Nat, y = b := ⟨y.toNat, by omega⟩
    have ha : a ≤ 31 := by omega
    have hb : b ≤ 31 := by omega
    obtain ⟨-, hall⟩ := HAM.out hA
    have HRT := Lib.hid (fun s hs => (hall s hs).2)
    clear hall hA HAM
    go_wp2_with fail
    refine (HME.out _ HB1.out).mono ?_
    rintro e W2 ⟨rfl, hb2⟩
    have HB2 := Lib.hid (HB1.out.trans (hb2.mono HB1.out.size))
    have HM2 := Lib.hid (HM1.out.below hb2)
    clear hb2 HM1 HB1 m0 m1 y0 y1 y2 y3 y4 y5 HME
    have HXP : Hid (∀ k a, l[k]? = some a → ∃ g o c, lv = .slice (some ⟨g, o, none⟩) l.length c ∧ l.length ≤ c ∧ c ≤ maxLen ∧ g < w.heap.size ∧ At7 w g (o + k * 7) a) := Lib.hid fun k s hs => by
      obtain ⟨g, o, c, hv, hc1, hc2, hg, hx⟩ := hl.opened (by have := (List.getElem?_eq_some_iff.1 hs).1; omega)
      exact ⟨g, o, c, hv, hc1, hc2, hg, (hx k s hs).atm⟩
    have HMA : Hid (∀ m : Nat, m ≤ 31 → ∀ W, Below w.heap.size w W → Calls Tryz.prog 14 #[.int .i64 m, lv, nda n] W fun e w' => e = .returned (.bool (memb m l n)) ∧ Below W.heap.size W w') := Lib.hid fun m hm W hW => memberA_any m lv l n W (HLL.out.below hW) HRT.out hn (HV.out.tabs.below hW) (HV.out.lts.below hW) hm
    obtain ⟨P, pc, rfl, -⟩ := hl
    generalize hpp : l.length = M at *
    have HP := Lib.hid hpp
    clear hpp
    unfold maxLen at hlen
    go_wp2_with fail
    go_loopw [8] (fun iv wr => ∃ k : Nat, k ≤ M ∧ iv = .int .i64 k ∧ Below W2.heap.size W2 wr) (fun iv _ => M - (intOf iv).toNat)
    case atStart => exact ⟨0, Nat.zero_le _, rfl, Below.refl _ _⟩
    case round =>
      obtain ⟨k, hk, rfl, hbw⟩ := hrel
      by_cases hlt : k < M
      · skip
        -- ROUND
        have hkp : k < l.length := by rw [HP.out]; exact hlt
        obtain ⟨gp, op, cp, e1, hc1, hc2, hgp, hs7⟩ := HXP.out k _ (List.getElem?_eq_getElem hkp)
        injection e1 with e1 e2 e3
        subst e1 e3
        have HMEM : Hid (l[k] ∈ l) := Lib.hid (List.getElem_mem hkp)
        have HRA : Hid (rightA l[k] = true) := Lib.hid (HRT.out _ HMEM.out)
        have HWY := Lib.hid (turn_way (rightA_way HRA.out))
        have hBW : Below w.heap.size w wr := HB2.out.trans (hbw.mono HB2.out.size)
        have HBW := Lib.hid hBW
        have HBL := Lib.hid hbw
        have HTK : Hid (memb a l n = true → ∀ W, Below w.heap.size w W → Calls Tryz.prog 14 #[.int .i64 a, .slice (some ⟨gp, op, none⟩) k pc, nda n] W fun e w' => e = .returned (.bool true) ∧ Below W.heap.size W w') := Lib.hid fun hm W hW => by
          have hr : Ats W (.slice (some ⟨gp, op, none⟩) k pc) (l.take k) := by
            have h0 := HLL.out.below hW
            rw [← HP.out] at h0
            exact Row.front h0 k (by omega) (by omega) hc2
          have := memberA_any a _ (l.take k) n W hr (fun s hs => HRT.out s (List.mem_of_mem_take hs)) hn (HV.out.tabs.below hW) (HV.out.lts.below hW) ha
          rwa [memb_take hm k] at this
        have HHA : Hid (pln n = true → ∀ W, Below w.heap.size w W → Calls Tryz.prog 10 #[ata l[k], nda n] W fun e w' => e = .returned (.bool (holdsA n l[k])) ∧ Below W.heap.size W w') := Lib.hid fun hp W hW => holdsA_any l[k] n W HRA.out (HPV.out hp) (HV.out.lts.below hW)
        have HHT : Hid (pln n = true → ∀ W, Below w.heap.size w W → Calls Tryz.prog 10 #[ata ⟨turn l[k].n, l[k].c⟩, nda n] W fun e w' => e = .returned (.bool (!holdsA n l[k])) ∧ Below W.heap.size W w') := Lib.hid fun hp W hW => by
          have hr : rightA ⟨turn l[k].n, l[k].c⟩ = true := by
            have h1 := HRA.out
            simp only [rightA, Bool.and_eq_true] at h1 ⊢
            exact ⟨HWY.out.1, h1.2⟩
          have := holdsA_any ⟨turn l[k].n, l[k].c⟩ n W hr (HPV.out hp) (HV.out.lts.below hW)
          rwa [holds_turn (rightA_way HRA.out)] at this
        have HT2 : Hid (∀ W, Calls Tryz.prog 12 #[.int .i64 (turn l[k].n)] W fun e w' => e = .returned (.int .i64 l[k].n) ∧ w' = W) := Lib.hid fun W => by
          have := turn_any (turn l[k].n) W
          rwa [HWY.out.2] at this
        have hkc : k ≤ pc := by omega
        have hltw : w.heap.size + 1 < wr.heap.size := Nat.lt_of_lt_of_le HM2.out.lt hbw.size
        have HCC : Hid (∀ w', Below wr.heap.size wr w' → (w'.cell? ⟨gp, op + k * 7, none⟩ = some (.int .i64 l[k].n) ∧ w'.cell? ⟨gp, op + k * 7 + 1, none⟩ = some (.int .i64 l[k].c.kind) ∧ w'.cell? ⟨gp, op + k * 7 + 2, none⟩ = some (.int .i64 l[k].c.many) ∧ w'.cell? ⟨gp, op + k * 7 + 3, none⟩ = some (.string ⟨l[k].c.name.toArray⟩) ∧ w'.cell? ⟨gp, op + k * 7 + 4, none⟩ = some (.string ⟨l[k].c.s.toArray⟩) ∧ w'.cell? ⟨gp, op + k * 7 + 5, none⟩ = some (.bool l[k].c.neg) ∧ w'.cell? ⟨gp, op + k * 7 + 6, none⟩ = some (.int .i64 l[k].c.e)) ∧ w'.cell? ⟨w.heap.size, 0, none⟩ = some (.int .i64 a) ∧ w'.cell? ⟨w.heap.size, 1, none⟩ = some (.int .i64 b) ∧ w'.cell? ⟨w.heap.size + 1, 0, none⟩ = some (.int .i64 n.kind) ∧ w'.cell? ⟨w.heap.size + 1, 1, none⟩ = some (.int .i64 n.many) ∧ w'.cell? ⟨w.heap.size + 1, 2, none⟩ = some (.string ⟨n.name.toArray⟩) ∧ w'.cell? ⟨w.heap.size + 1, 3, none⟩ = some (.string ⟨n.s.toArray⟩) ∧ w'.cell? ⟨w.heap.size + 1, 4, none⟩ = some (.bool n.neg) ∧ w'.cell? ⟨w.heap.size + 1, 5, none⟩ = some (.int .i64 n.e)) := Lib.hid fun w' hw => by
          have h1 := hs7.below hgp (hBW.trans (hw.mono hBW.size))
          exact ⟨⟨h1.c0, h1.c1, h1.c2, h1.c3, h1.c4, h1.c5, h1.c6⟩, (HM2.out.below (hbw.trans (hw.mono hbw.size))).cells⟩
        have HCA := Lib.hid (HMA.out a ha)
        clear e2 HMEM hs7 hBW hbw HRA HXP HMA HWY hc1 hc2 HM2 HB2 HMM HPV HRT hh hn HV HLL HAL
        generalize l[k] = s at *
        generalize memb a l n = MA at *
        generalize pln n = PL at *
        generalize holdsA n s = HO at *
        clear hkp
        go_wp2_with fail
        refine wp_region_held_drew (S := fun w' => Below wr.heap.size wr w') (by kernel_rfl) ((Below.refl _ _).drew) (fun hH => ?_)
        generalize wr.drew = Wd at hH ⊢
        refine rtk 0 (.slice (some ⟨gp, op, none⟩) M pc) ?_ ?_
        · intro w' hSw; go_simp; try decide
        try simp only [List.set_cons_succ, List.set_cons_zero]
        refine rtk 1 (.int .i64 k) ?_ ?_
        · intro w' hSw; go_simp; try decide
        try simp only [List.set_cons_succ, List.set_cons_zero]
        refine rtk 2 (.pointer (some ⟨gp, op + k * 7, none⟩)) ?_ ?_
        · intro w' hSw; go_simp; try decide
        try simp only [List.set_cons_succ, List.set_cons_zero]
        refine rtk 3 (.pointer (some ⟨gp, op + k * 7, none⟩)) ?_ ?_
        · intro w' hSw; go_simp; try decide
        try simp only [List.set_cons_succ, List.set_cons_zero]
        refine rtk 4 (.int .i64 s.n) ?_ ?_
        · intro w' hSw; obtain ⟨⟨x0, x1, x2, x3, x4, x5, x6⟩, m0, m1, y0, y1, y2, y3, y4, y5⟩ := HCC.out w' hSw; go_simp; try decide
        try simp only [List.set_cons_succ, List.set_cons_zero]
        refine rtk 6 (.slice (some ⟨gp, op, none⟩) M pc) ?_ ?_
        · intro w' hSw; go_simp; try decide
        try simp only [List.set_cons_succ, List.set_cons_zero]
        refine rtk 7 (.int .i64 k) ?_ ?_
        · intro w' hSw; go_simp; try decide
        try simp only [List.set_cons_succ, List.set_cons_zero]
        refine rtk 8 (.pointer (some ⟨gp, op + k * 7, none⟩)) ?_ ?_
        · intro w' hSw; go_simp; try decide
        try simp only [List.set_cons_succ, List.set_cons_zero]
        refine rtk 9 (.pointer (some ⟨gp, op + k * 7 + 1, none⟩)) ?_ ?_
        · intro w' hSw; go_simp; try decide
        try simp only [List.set_cons_succ, List.set_cons_zero]
        refine rtk 10 (nda s.c) ?_ ?_
        · intro w' hSw; obtain ⟨⟨x0, x1, x2, x3, x4, x5, x6⟩, m0, m1, y0, y1, y2, y3, y4, y5⟩ := HCC.out w' hSw; go_simp; try decide
        try simp only [List.set_cons_succ, List.set_cons_zero]
        refine wpAnyH_ready (rs := [5, 12]) (by kernel_rfl) (by simp) ?_
        refine AllReadyH.cons rfl (fun K5 hK5 => ?_) (AllReadyH.cons rfl (fun K12 hK12 => ?_) AllReadyH.nil)
        · go_simp
          refine (turn_any s.n Wd).mono ?_
          rintro e Wd ⟨rfl, rfl⟩
          go_wp2_with fail
          refine hK5.out _ _ hH (fun hH5 => ?_)
          clear hK5 K5 hH5
          try simp only [List.set_cons_succ, List.set_cons_zero]
          refine rtk 11 (ata ⟨turn s.n, s.c⟩) ?_ ?_
          · intro w' hSw; go_simp; try decide
          try simp only [List.set_cons_succ, List.set_cons_zero]
          refine wpAnyH_ready (rs := [12]) (by kernel_rfl) (by simp) ?_
          refine AllReadyH.cons rfl (fun K12 hK12 => ?_) AllReadyH.nil
          go_simp
          refine hK12.out _ _ (hH.trans (((Below.refl _ _).alloc (Nat.le_refl _) _).mono hH.size)) (fun hH12 => ?_)
          clear hK12 K12
          try simp only [List.set_cons_succ, List.set_cons_zero]
          refine wpAnyH_ready (rs := [13]) (by kernel_rfl) (by simp) ?_
          refine AllReadyH.cons rfl (fun K13 hK13 => ?_) AllReadyH.nil
          go_simp
          refine hK13.out _ _ (hH.trans (((Below.refl _ _).alloc (Nat.le_refl _) _).mono hH.size)) (fun hH13 => ?_)
          clear hK13 K13 hH12
          try simp only [List.set_cons_succ, List.set_cons_zero]
          refine wpAnyH_done (by kernel_rfl) ?_ _
          have hq := heap_alloc_new Wd (.cells #[.int .i64 (turn s.n), .int .i64 s.c.kind, .int .i64 s.c.many, .string ⟨s.c.name.toArray⟩, .string ⟨s.c.s.toArray⟩, .bool s.c.neg, .int .i64 s.c.e] 27)
          generalize hz : Wd.heap.size = z at hq ⊢
          generalize Wd.alloc _ = W3 at hq hH13 ⊢
          have HB3 := Lib.hid hH13
          have HTC : Hid (∀ w', Below W3.heap.size W3 w' → w'.cell? ⟨z, 0, none⟩ = some (.int .i64 (turn s.n)) ∧ w'.cell? ⟨z, 1, none⟩ = some (.int .i64 s.c.kind) ∧ w'.cell? ⟨z, 2, none⟩ = some (.int .i64 s.c.many) ∧ w'.cell? ⟨z, 3, none⟩ = some (.string ⟨s.c.name.toArray⟩) ∧ w'.cell? ⟨z, 4, none⟩ = some (.string ⟨s.c.s.toArray⟩) ∧ w'.cell? ⟨z, 5, none⟩ = some (.bool s.c.neg) ∧ w'.cell? ⟨z, 6, none⟩ = some (.int .i64 s.c.e)) := Lib.hid fun w' hw => by
            have h := (hw.block z (Array.getElem?_eq_some_iff.1 hq).1).trans hq
            refine ⟨?_, ?_, ?_, ?_, ?_, ?_, ?_⟩ <;> (rw [Lib.cell_of_heap h]; rfl)
          clear hq hH13
          go_wp2_with fail
          refine wp_region_held_drew (S := fun w' => Below W3.heap.size W3 w') (by kernel_rfl) ((Below.refl _ _).drew) (fun hG => ?_)
          generalize W3.drew = Wf at hG ⊢
          refine rtk 0 (.pointer (some ⟨z, 0, none⟩)) ?_ ?_
          · intro w' hSw; go_simp; try decide
          try simp only [List.set_cons_succ, List.set_cons_zero]
          refine rtk 1 (.int .i64 (turn s.n)) ?_ ?_
          · intro w' hSw; obtain ⟨t0, t1, t2, t3, t4, t5, t6⟩ := HTC.out w' hSw; go_simp; try decide
          try simp only [List.set_cons_succ, List.set_cons_zero]
          refine rtk 3 (.slice (some ⟨gp, op, none⟩) M pc) ?_ ?_
          · intro w' hSw; go_simp; try decide
          try simp only [List.set_cons_succ, List.set_cons_zero]
          refine rtk 4 (.int .i64 k) ?_ ?_
          · intro w' hSw; go_simp; try decide
          try simp only [List.set_cons_succ, List.set_cons_zero]
          refine rtk 5 (.pointer (some ⟨gp, op + k * 7, none⟩)) ?_ ?_
          · intro w' hSw; go_simp; try decide
          try simp only [List.set_cons_succ, List.set_cons_zero]
          refine rtk 6 (.pointer (some ⟨gp, op + k * 7, none⟩)) ?_ ?_
          · intro w' hSw; go_simp; try decide
          try simp only [List.set_cons_succ, List.set_cons_zero]
          refine rtk 7 (.int .i64 s.n) ?_ ?_
          · intro w' hSw; obtain ⟨⟨x0, x1, x2, x3, x4, x5, x6⟩, m0, m1, y0, y1, y2, y3, y4, y5⟩ := HCC.out w' (HB3.out.trans (hSw.mono HB3.out.size)); go_simp; try decide
          try simp only [List.set_cons_succ, List.set_cons_zero]
          refine wpAnyH_ready (rs := [2]) (by kernel_rfl) (by simp) ?_
          refine AllReadyH.cons rfl (fun K2 hK2 => ?_) AllReadyH.nil
          go_simp
          refine (HT2.out Wf).mono ?_
          rintro e w4 ⟨rfl, rfl⟩
          go_wp2_with fail
          refine hK2.out _ _ hG (fun hG2 => ?_)
          clear hK2 K2
          try simp only [List.set_cons_succ, List.set_cons_zero]
          refine rtk 8 (.bool false) ?_ ?_
          · intro w' hSw; go_simp; try decide
          try simp only [List.set_cons_succ, List.set_cons_zero]
          refine rtk 9 (.bool false) ?_ ?_
          · intro w' hSw; go_simp; try decide
          try simp only [List.set_cons_succ, List.set_cons_zero]
          refine rtk 10 (.bool PL) ?_ ?_
          · intro w' hSw; go_simp; try decide
          try simp only [List.set_cons_succ, List.set_cons_zero]
          refine rtk 11 (.bool PL) ?_ ?_
          · intro w' hSw; go_simp; try decide
          try simp only [List.set_cons_succ, List.set_cons_zero]
          cases PL with
          | false =>
            refine rtn 12 ?_
            try simp only [List.set_cons_succ, List.set_cons_zero]
            refine rtn 13 ?_
            try simp only [List.set_cons_succ, List.set_cons_zero]
            refine rtn 14 ?_
            try simp only [List.set_cons_succ, List.set_cons_zero]
            refine rtn 15 ?_
            try simp only [List.set_cons_succ, List.set_cons_zero]
            refine rtn 16 ?_
            try simp only [List.set_cons_succ, List.set_cons_zero]
            refine rtn 17 ?_
            try simp only [List.set_cons_succ, List.set_cons_zero]
            refine rtn 18 ?_
            try simp only [List.set_cons_succ, List.set_cons_zero]
            refine rtn 19 ?_
            try simp only [List.set_cons_succ, List.set_cons_zero]
            refine rtn 20 ?_
            try simp only [List.set_cons_succ, List.set_cons_zero]
            refine rtn 21 ?_
            try simp only [List.set_cons_succ, List.set_cons_zero]
            refine rtk 22 (.bool false) ?_ ?_
            · intro w' hSw; go_simp; try decide
            try simp only [List.set_cons_succ, List.set_cons_zero]
            refine rtk 23 (.bool false) ?_ ?_
            · intro w' hSw; go_simp; try decide
            try simp only [List.set_cons_succ, List.set_cons_zero]
            refine wpAnyH_done (by kernel_rfl) ?_ _
            have HB5 := Lib.hid (HB3.out.trans (hG2.mono HB3.out.size))
            go_wp2_with fail
            refine wp_region_held_drew (S := fun w' => Below w4.heap.size w4 w') (by kernel_rfl) ((Below.refl _ _).drew) (fun hJ => ?_)
            generalize w4.drew = We at hJ ⊢
            refine rtk 0 (.pointer (some ⟨w.heap.size, 0, none⟩)) ?_ ?_
            · intro w' hSw; go_simp; try decide
            try simp only [List.set_cons_succ, List.set_cons_zero]
            refine rtk 1 (.int .i64 a) ?_ ?_
            · intro w' hSw; obtain ⟨⟨x0, x1, x2, x3, x4, x5, x6⟩, m0, m1, y0, y1, y2, y3, y4, y5⟩ := HCC.out w' (HB5.out.trans (hSw.mono HB5.out.size)); go_simp; try decide
            try simp only [List.set_cons_succ, List.set_cons_zero]
            refine rtk 2 (.slice (some ⟨gp, op, none⟩) M pc) ?_ ?_
            · intro w' hSw; go_simp; try decide
            try simp only [List.set_cons_succ, List.set_cons_zero]
            refine rtk 3 (nda n) ?_ ?_
            · intro w' hSw; obtain ⟨⟨x0, x1, x2, x3, x4, x5, x6⟩, m0, m1, y0, y1, y2, y3, y4, y5⟩ := HCC.out w' (HB5.out.trans (hSw.mono HB5.out.size)); go_simp; try decide
            try simp only [List.set_cons_succ, List.set_cons_zero]
            refine wpAnyH_ready (rs := [4]) (by kernel_rfl) (by simp) ?_
            refine AllReadyH.cons rfl (fun K4 hK4 => ?_) AllReadyH.nil
            go_simp
            refine (HCA.out We (HBW.out.trans ((HB5.out.trans (hJ.mono HB5.out.size)).mono HBW.out.size))).mono ?_
            rintro e w6 ⟨rfl, hb6⟩
            go_wp2_with fail
            refine hK4.out _ _ (hJ.trans (hb6.mono hJ.size)) (fun hJ4 => ?_)
            clear hK4 K4 hb6
            try simp only [List.set_cons_succ, List.set_cons_zero]
            refine rtk 5 (.bool MA) ?_ ?_
            · intro w' hSw; go_simp; try decide
            try simp only [List.set_cons_succ, List.set_cons_zero]
            cases MA with
            | false =>
              refine rtn 6 ?_
              try simp only [List.set_cons_succ, List.set_cons_zero]
              refine rtn 7 ?_
              try simp only [List.set_cons_succ, List.set_cons_zero]
              refine rtn 8 ?_
              try simp only [List.set_cons_succ, List.set_cons_zero]
              refine rtn 9 ?_
              try simp only [List.set_cons_succ, List.set_cons_zero]
              refine rtn 10 ?_
              try simp only [List.set_cons_succ, List.set_cons_zero]
              refine rtn 11 ?_
              try simp only [List.set_cons_succ, List.set_cons_zero]
              refine rtn 12 ?_
              try simp only [List.set_cons_succ, List.set_cons_zero]
              refine rtn 13 ?_
              try simp only [List.set_cons_succ, List.set_cons_zero]
              refine rtk 14 (.bool false) ?_ ?_
              · intro w' hSw; go_simp; try decide
              try simp only [List.set_cons_succ, List.set_cons_zero]
              refine wpAnyH_done (by kernel_rfl) ?_ _
              have HBE := Lib.hid (HBL.out.trans ((HB5.out.trans (hJ4.mono HB5.out.size)).mono HBL.out.size))
              go_wp2_with fail
              refine ⟨⟨k + 1, by omega, by go_num, HBE.out⟩, ?_⟩
              simp [intOf]; omega
            | true =>
              have HTT := Lib.hid (HTK.out rfl)
              refine rtk 6 (.pointer (some ⟨w.heap.size, 0, none⟩)) ?_ ?_
              · intro w' hSw; go_simp; try decide
              try simp only [List.set_cons_succ, List.set_cons_zero]
              refine rtk 7 (.int .i64 a) ?_ ?_
              · intro w' hSw; obtain ⟨⟨x0, x1, x2, x3, x4, x5, x6⟩, m0, m1, y0, y1, y2, y3, y4, y5⟩ := HCC.out w' (HB5.out.trans (hSw.mono HB5.out.size)); go_simp; try decide
              try simp only [List.set_cons_succ, List.set_cons_zero]
              refine rtk 8 (.slice (some ⟨gp, op, none⟩) M pc) ?_ ?_
              · intro w' hSw; go_simp; try decide
              try simp only [List.set_cons_succ, List.set_cons_zero]
              refine rtk 9 (.int .i64 k) ?_ ?_
              · intro w' hSw; go_simp; try decide
              try simp only [List.set_cons_succ, List.set_cons_zero]
              refine rtk 10 (.slice (some ⟨gp, op, none⟩) k pc) ?_ ?_
              · intro w' hSw; go_simp
              try simp only [List.set_cons_succ, List.set_cons_zero]
              refine rtk 11 (nda n) ?_ ?_
              · intro w' hSw; obtain ⟨⟨x0, x1, x2, x3, x4, x5, x6⟩, m0, m1, y0, y1, y2, y3, y4, y5⟩ := HCC.out w' (HB5.out.trans (hSw.mono HB5.out.size)); go_simp; try decide
              try simp only [List.set_cons_succ, List.set_cons_zero]
              refine wpAnyH_ready (rs := [12]) (by kernel_rfl) (by simp) ?_
              refine AllReadyH.cons rfl (fun K12 hK12 => ?_) AllReadyH.nil
              go_simp
              refine (HTT.out w6 (HBW.out.trans ((HB5.out.trans (hJ4.mono HB5.out.size)).mono HBW.out.size))).mono ?_
              rintro e w7 ⟨rfl, hb7⟩
              go_wp2_with fail
              refine hK12.out _ _ (hJ4.trans (hb7.mono hJ4.size)) (fun hJ12 => ?_)
              clear hK12 K12 hb7
              try simp only [List.set_cons_succ, List.set_cons_zero]
              refine rtk 13 (.bool false) ?_ ?_
              · intro w' hSw; go_simp; try decide
              try simp only [List.set_cons_succ, List.set_cons_zero]
              refine rtk 14 (.bool false) ?_ ?_
              · intro w' hSw; go_simp; try decide
              try simp only [List.set_cons_succ, List.set_cons_zero]
              refine wpAnyH_done (by kernel_rfl) ?_ _
              have HBE := Lib.hid (HBL.out.trans ((HB5.out.trans (hJ12.mono HB5.out.size)).mono HBL.out.size))
              go_wp2_with fail
              refine ⟨⟨k + 1, by omega, by go_num, HBE.out⟩, ?_⟩
              simp [intOf]; omega
          | true =>
            have HH1 := Lib.hid (HHT.out rfl)
            have HH2 := Lib.hid (HHA.out rfl)
            refine rtk 12 (ata ⟨turn s.n, s.c⟩) ?_ ?_
            · intro w' hSw; obtain ⟨t0, t1, t2, t3, t4, t5, t6⟩ := HTC.out w' hSw; go_simp; try decide
            try simp only [List.set_cons_succ, List.set_cons_zero]
            refine rtk 13 (nda n) ?_ ?_
            · intro w' hSw; obtain ⟨⟨x0, x1, x2, x3, x4, x5, x6⟩, m0, m1, y0, y1, y2, y3, y4, y5⟩ := HCC.out w' (HB3.out.trans (hSw.mono HB3.out.size)); go_simp; try decide
            try simp only [List.set_cons_succ, List.set_cons_zero]
            refine rtk 15 (.slice (some ⟨gp, op, none⟩) M pc) ?_ ?_
            · intro w' hSw; go_simp; try decide
            try simp only [List.set_cons_succ, List.set_cons_zero]
            refine rtk 16 (.int .i64 k) ?_ ?_
            · intro w' hSw; go_simp; try decide
            try simp only [List.set_cons_succ, List.set_cons_zero]
            refine rtk 17 (.pointer (some ⟨gp, op + k * 7, none⟩)) ?_ ?_
            · intro w' hSw; go_simp; try decide
            try simp only [List.set_cons_succ, List.set_cons_zero]
            refine rtk 18 (ata s) ?_ ?_
            · intro w' hSw; obtain ⟨⟨x0, x1, x2, x3, x4, x5, x6⟩, m0, m1, y0, y1, y2, y3, y4, y5⟩ := HCC.out w' (HB3.out.trans (hSw.mono HB3.out.size)); go_simp; try decide
            try simp only [List.set_cons_succ, List.set_cons_zero]
            refine rtk 19 (nda n) ?_ ?_
            · intro w' hSw; obtain ⟨⟨x0, x1, x2, x3, x4, x5, x6⟩, m0, m1, y0, y1, y2, y3, y4, y5⟩ := HCC.out w' (HB3.out.trans (hSw.mono HB3.out.size)); go_simp; try decide
            try simp only [List.set_cons_succ, List.set_cons_zero]
            refine wpAnyH_ready (rs := [14]) (by kernel_rfl) (by simp) ?_
            refine AllReadyH.cons rfl (fun K14 hK14 => ?_) AllReadyH.nil
            go_simp
            refine (HH1.out _ (HBW.out.trans ((HB3.out.trans (hG2.mono HB3.out.size)).mono HBW.out.size))).mono ?_
            rintro e w5 ⟨rfl, hb5⟩
            go_wp2_with fail
            refine hK14.out _ _ (hG2.trans (hb5.mono hG2.size)) (fun hG14 => ?_)
            clear hK14 K14 hb5
            try simp only [List.set_cons_succ, List.set_cons_zero]
            refine wpAnyH_ready (rs := [20]) (by kernel_rfl) (by simp) ?_
            refine AllReadyH.cons rfl (fun K20 hK20 => ?_) AllReadyH.nil
            go_simp
            refine (HH2.out _ (HBW.out.trans ((HB3.out.trans (hG14.mono HB3.out.size)).mono HBW.out.size))).mono ?_
            rintro e w7 ⟨rfl, hb7⟩
            go_wp2_with fail
            refine hK20.out _ _ (hG14.trans (hb7.mono hG14.size)) (fun hG20 => ?_)
            clear hK20 K20 hb7
            try simp only [List.set_cons_succ, List.set_cons_zero]
            refine rtk 21 (.bool false) ?_ ?_
            · intro w' hSw; cases HO <;> (go_simp; try decide)
            try simp only [List.set_cons_succ, List.set_cons_zero]
            refine rtk 22 (.bool false) ?_ ?_
            · intro w' hSw; go_simp; try decide
            try simp only [List.set_cons_succ, List.set_cons_zero]
            refine rtk 23 (.bool false) ?_ ?_
            · intro w' hSw; go_simp; try decide
            try simp only [List.set_cons_succ, List.set_cons_zero]
            refine wpAnyH_done (by kernel_rfl) ?_ _
            have HB5 := Lib.hid (HB3.out.trans (hG20.mono HB3.out.size))
            go_wp2_with fail
            refine wp_region_held_drew (S := fun w' => Below w7.heap.size w7 w') (by kernel_rfl) ((Below.refl _ _).drew) (fun hJ => ?_)
            generalize w7.drew = We at hJ ⊢
            refine rtk 0 (.pointer (some ⟨w.heap.size, 0, none⟩)) ?_ ?_
            · intro w' hSw; go_simp; try decide
            try simp only [List.set_cons_succ, List.set_cons_zero]
            refine rtk 1 (.int .i64 a) ?_ ?_
            · intro w' hSw; obtain ⟨⟨x0, x1, x2, x3, x4, x5, x6⟩, m0, m1, y0, y1, y2, y3, y4, y5⟩ := HCC.out w' (HB5.out.trans (hSw.mono HB5.out.size)); go_simp; try decide
            try simp only [List.set_cons_succ, List.set_cons_zero]
            refine rtk 2 (.slice (some ⟨gp, op, none⟩) M pc) ?_ ?_
            · intro w' hSw; go_simp; try decide
            try simp only [List.set_cons_succ, List.set_cons_zero]
            refine rtk 3 (nda n) ?_ ?_
            · intro w' hSw; obtain ⟨⟨x0, x1, x2, x3, x4, x5, x6⟩, m0, m1, y0, y1, y2, y3, y4, y5⟩ := HCC.out w' (HB5.out.trans (hSw.mono HB5.out.size)); go_simp; try decide
            try simp only [List.set_cons_succ, List.set_cons_zero]
            refine wpAnyH_ready (rs := [4]) (by kernel_rfl) (by simp) ?_
            refine AllReadyH.cons rfl (fun K4 hK4 => ?_) AllReadyH.nil
            go_simp
            refine (HCA.out We (HBW.out.trans ((HB5.out.trans (hJ.mono HB5.out.size)).mono HBW.out.size))).mono ?_
            rintro e w6 ⟨rfl, hb6⟩
            go_wp2_with fail
            refine hK4.out _ _ (hJ.trans (hb6.mono hJ.size)) (fun hJ4 => ?_)
            clear hK4 K4 hb6
            try simp only [List.set_cons_succ, List.set_cons_zero]
            refine rtk 5 (.bool MA) ?_ ?_
            · intro w' hSw; go_simp; try decide
            try simp only [List.set_cons_succ, List.set_cons_zero]
            cases MA with
            | false =>
              refine rtn 6 ?_
              try simp only [List.set_cons_succ, List.set_cons_zero]
              refine rtn 7 ?_
              try simp only [List.set_cons_succ, List.set_cons_zero]
              refine rtn 8 ?_
              try simp only [List.set_cons_succ, List.set_cons_zero]
              refine rtn 9 ?_
              try simp only [List.set_cons_succ, List.set_cons_zero]
              refine rtn 10 ?_
              try simp only [List.set_cons_succ, List.set_cons_zero]
              refine rtn 11 ?_
              try simp only [List.set_cons_succ, List.set_cons_zero]
              refine rtn 12 ?_
              try simp only [List.set_cons_succ, List.set_cons_zero]
              refine rtn 13 ?_
              try simp only [List.set_cons_succ, List.set_cons_zero]
              refine rtk 14 (.bool false) ?_ ?_
              · intro w' hSw; go_simp; try decide
              try simp only [List.set_cons_succ, List.set_cons_zero]
              refine wpAnyH_done (by kernel_rfl) ?_ _
              have HBE := Lib.hid (HBL.out.trans ((HB5.out.trans (hJ4.mono HB5.out.size)).mono HBL.out.size))
              go_wp2_with fail
              refine ⟨⟨k + 1, by omega, by go_num, HBE.out⟩, ?_⟩
              simp [intOf]; omega
            | true =>
              have HTT := Lib.hid (HTK.out rfl)
              refine rtk 6 (.pointer (some ⟨w.heap.size, 0, none⟩)) ?_ ?_
              · intro w' hSw; go_simp; try decide
              try simp only [List.set_cons_succ, List.set_cons_zero]
              refine rtk 7 (.int .i64 a) ?_ ?_
              · intro w' hSw; obtain ⟨⟨x0, x1, x2, x3, x4, x5, x6⟩, m0, m1, y0, y1, y2, y3, y4, y5⟩ := HCC.out w' (HB5.out.trans (hSw.mono HB5.out.size)); go_simp; try decide
              try simp only [List.set_cons_succ, List.set_cons_zero]
              refine rtk 8 (.slice (some ⟨gp, op, none⟩) M pc) ?_ ?_
              · intro w' hSw; go_simp; try decide
              try simp only [List.set_cons_succ, List.set_cons_zero]
              refine rtk 9 (.int .i64 k) ?_ ?_
              · intro w' hSw; go_simp; try decide
              try simp only [List.set_cons_succ, List.set_cons_zero]
              refine rtk 10 (.slice (some ⟨gp, op, none⟩) k pc) ?_ ?_
              · intro w' hSw; go_simp
              try simp only [List.set_cons_succ, List.set_cons_zero]
              refine rtk 11 (nda n) ?_ ?_
              · intro w' hSw; obtain ⟨⟨x0, x1, x2, x3, x4, x5, x6⟩, m0, m1, y0, y1, y2, y3, y4, y5⟩ := HCC.out w' (HB5.out.trans (hSw.mono HB5.out.size)); go_simp; try decide
              try simp only [List.set_cons_succ, List.set_cons_zero]
              refine wpAnyH_ready (rs := [12]) (by kernel_rfl) (by simp) ?_
              refine AllReadyH.cons rfl (fun K12 hK12 => ?_) AllReadyH.nil
              go_simp
              refine (HTT.out w6 (HBW.out.trans ((HB5.out.trans (hJ4.mono HB5.out.size)).mono HBW.out.size))).mono ?_
              rintro e w7 ⟨rfl, hb7⟩
              go_wp2_with fail
              refine hK12.out _ _ (hJ4.trans (hb7.mono hJ4.size)) (fun hJ12 => ?_)
              clear hK12 K12 hb7
              try simp only [List.set_cons_succ, List.set_cons_zero]
              refine rtk 13 (.bool false) ?_ ?_
              · intro w' hSw; go_simp; try decide
              try simp only [List.set_cons_succ, List.set_cons_zero]
              refine rtk 14 (.bool false) ?_ ?_
              · intro w' hSw; go_simp; try decide
              try simp only [List.set_cons_succ, List.set_cons_zero]
              refine wpAnyH_done (by kernel_rfl) ?_ _
              have HBE := Lib.hid (HBL.out.trans ((HB5.out.trans (hJ12.mono HB5.out.size)).mono HBL.out.size))
              go_wp2_with fail
              refine ⟨⟨k + 1, by omega, by go_num, HBE.out⟩, ?_⟩
              simp [intOf]; omega
        · skip
          go_simp
          refine hK12.out _ _ (hH.trans (((Below.refl _ _).alloc (Nat.le_refl _) _).mono hH.size)) (fun hH12 => ?_)
          clear hK12 K12
          try simp only [List.set_cons_succ, List.set_cons_zero]
          refine wpAnyH_ready (rs := [5]) (by kernel_rfl) (by simp) ?_
          refine AllReadyH.cons rfl (fun K5 hK5 => ?_) AllReadyH.nil
          go_simp
          refine (turn_any s.n _).mono ?_
          rintro e w3 ⟨rfl, rfl⟩
          go_wp2_with fail
          refine hK5.out _ _ hH12 (fun hH5 => ?_)
          clear hK5 K5 hH5
          try simp only [List.set_cons_succ, List.set_cons_zero]
          refine rtk 11 (ata ⟨turn s.n, s.c⟩) ?_ ?_
          · intro w' hSw; go_simp; try decide
          try simp only [List.set_cons_succ, List.set_cons_zero]
          refine wpAnyH_ready (rs := [13]) (by kernel_rfl) (by simp) ?_
          refine AllReadyH.cons rfl (fun K13 hK13 => ?_) AllReadyH.nil
          go_simp
          refine hK13.out _ _ (hH.trans (((Below.refl _ _).alloc (Nat.le_refl _) _).mono hH.size)) (fun hH13 => ?_)
          clear hK13 K13 hH12
          try simp only [List.set_cons_succ, List.set_cons_zero]
          refine wpAnyH_done (by kernel_rfl) ?_ _
          have hq := heap_alloc_new Wd (.cells #[.int .i64 (turn s.n), .int .i64 s.c.kind, .int .i64 s.c.many, .string ⟨s.c.name.toArray⟩, .string ⟨s.c.s.toArray⟩, .bool s.c.neg, .int .i64 s.c.e] 27)
          generalize hz : Wd.heap.size = z at hq ⊢
          generalize Wd.alloc _ = W3 at hq hH13 ⊢
          have HB3 := Lib.hid hH13
          have HTC : Hid (∀ w', Below W3.heap.size W3 w' → w'.cell? ⟨z, 0, none⟩ = some (.int .i64 (turn s.n)) ∧ w'.cell? ⟨z, 1, none⟩ = some (.int .i64 s.c.kind) ∧ w'.cell? ⟨z, 2, none⟩ = some (.int .i64 s.c.many) ∧ w'.cell? ⟨z, 3, none⟩ = some (.string ⟨s.c.name.toArray⟩) ∧ w'.cell? ⟨z, 4, none⟩ = some (.string ⟨s.c.s.toArray⟩) ∧ w'.cell? ⟨z, 5, none⟩ = some (.bool s.c.neg) ∧ w'.cell? ⟨z, 6, none⟩ = some (.int .i64 s.c.e)) := Lib.hid fun w' hw => by
            have h := (hw.block z (Array.getElem?_eq_some_iff.1 hq).1).trans hq
            refine ⟨?_, ?_, ?_, ?_, ?_, ?_, ?_⟩ <;> (rw [Lib.cell_of_heap h]; rfl)
          clear hq hH13
          go_wp2_with fail
          refine wp_region_held_drew (S := fun w' => Below W3.heap.size W3 w') (by kernel_rfl) ((Below.refl _ _).drew) (fun hG => ?_)
          generalize W3.drew = Wf at hG ⊢
          refine rtk 0 (.pointer (some ⟨z, 0, none⟩)) ?_ ?_
          · intro w' hSw; go_simp; try decide
          try simp only [List.set_cons_succ, List.set_cons_zero]
          refine rtk 1 (.int .i64 (turn s.n)) ?_ ?_
          · intro w' hSw; obtain ⟨t0, t1, t2, t3, t4, t5, t6⟩ := HTC.out w' hSw; go_simp; try decide
          try simp only [List.set_cons_succ, List.set_cons_zero]
          refine rtk 3 (.slice (some ⟨gp, op, none⟩) M pc) ?_ ?_
          · intro w' hSw; go_simp; try decide
          try simp only [List.set_cons_succ, List.set_cons_zero]
          refine rtk 4 (.int .i64 k) ?_ ?_
          · intro w' hSw; go_simp; try decide
          try simp only [List.set_cons_succ, List.set_cons_zero]
          refine rtk 5 (.pointer (some ⟨gp, op + k * 7, none⟩)) ?_ ?_
          · intro w' hSw; go_simp; try decide
          try simp only [List.set_cons_succ, List.set_cons_zero]
          refine rtk 6 (.pointer (some ⟨gp, op + k * 7, none⟩)) ?_ ?_
          · intro w' hSw; go_simp; try decide
          try simp only [List.set_cons_succ, List.set_cons_zero]
          refine rtk 7 (.int .i64 s.n) ?_ ?_
          · intro w' hSw; obtain ⟨⟨x0, x1, x2, x3, x4, x5, x6⟩, m0, m1, y0, y1, y2, y3, y4, y5⟩ := HCC.out w' (HB3.out.trans (hSw.mono HB3.out.size)); go_simp; try decide
          try simp only [List.set_cons_succ, List.set_cons_zero]
          refine wpAnyH_ready (rs := [2]) (by kernel_rfl) (by simp) ?_
          refine AllReadyH.cons rfl (fun K2 hK2 => ?_) AllReadyH.nil
          go_simp
          refine (HT2.out Wf).mono ?_
          rintro e w4 ⟨rfl, rfl⟩
          go_wp2_with fail
          refine hK2.out _ _ hG (fun hG2 => ?_)
          clear hK2 K2
          try simp only [List.set_cons_succ, List.set_cons_zero]
          refine rtk 8 (.bool false) ?_ ?_
          · intro w' hSw; go_simp; try decide
          try simp only [List.set_cons_succ, List.set_cons_zero]
          refine rtk 9 (.bool false) ?_ ?_
          · intro w' hSw; go_simp; try decide
          try simp only [List.set_cons_succ, List.set_cons_zero]
          refine rtk 10 (.bool PL) ?_ ?_
          · intro w' hSw; go_simp; try decide
          try simp only [List.set_cons_succ, List.set_cons_zero]
          refine rtk 11 (.bool PL) ?_ ?_
          · intro w' hSw; go_simp; try decide
          try simp only [List.set_cons_succ, List.set_cons_zero]
          cases PL with
          | false =>
            refine rtn 12 ?_
            try simp only [List.set_cons_succ, List.set_cons_zero]
            refine rtn 13 ?_
            try simp only [List.set_cons_succ, List.set_cons_zero]
            refine rtn 14 ?_
            try simp only [List.set_cons_succ, List.set_cons_zero]
            refine rtn 15 ?_
            try simp only [List.set_cons_succ, List.set_cons_zero]
            refine rtn 16 ?_
            try simp only [List.set_cons_succ, List.set_cons_zero]
            refine rtn 17 ?_
            try simp only [List.set_cons_succ, List.set_cons_zero]
            refine rtn 18 ?_
            try simp only [List.set_cons_succ, List.set_cons_zero]
            refine rtn 19 ?_
            try simp only [List.set_cons_succ, List.set_cons_zero]
            refine rtn 20 ?_
            try simp only [List.set_cons_succ, List.set_cons_zero]
            refine rtn 21 ?_
            try simp only [List.set_cons_succ, List.set_cons_zero]
            refine rtk 22 (.bool false) ?_ ?_
            · intro w' hSw; go_simp; try decide
            try simp only [List.set_cons_succ, List.set_cons_zero]
            refine rtk 23 (.bool false) ?_ ?_
            · intro w' hSw; go_simp; try decide
            try simp only [List.set_cons_succ, List.set_cons_zero]
            refine wpAnyH_done (by kernel_rfl) ?_ _
            have HB5 := Lib.hid (HB3.out.trans (hG2.mono HB3.out.size))
            go_wp2_with fail
            refine wp_region_held_drew (S := fun w' => Below w4.heap.size w4 w') (by kernel_rfl) ((Below.refl _ _).drew) (fun hJ => ?_)
            generalize w4.drew = We at hJ ⊢
            refine rtk 0 (.pointer (some ⟨w.heap.size, 0, none⟩)) ?_ ?_
            · intro w' hSw; go_simp; try decide
            try simp only [List.set_cons_succ, List.set_cons_zero]
            refine rtk 1 (.int .i64 a) ?_ ?_
            · intro w' hSw; obtain ⟨⟨x0, x1, x2, x3, x4, x5, x6⟩, m0, m1, y0, y1, y2, y3, y4, y5⟩ := HCC.out w' (HB5.out.trans (hSw.mono HB5.out.size)); go_simp; try decide
            try simp only [List.set_cons_succ, List.set_cons_zero]
            refine rtk 2 (.slice (some ⟨gp, op, none⟩) M pc) ?_ ?_
            · intro w' hSw; go_simp; try decide
            try simp only [List.set_cons_succ, List.set_cons_zero]
            refine rtk 3 (nda n) ?_ ?_
            · intro w' hSw; obtain ⟨⟨x0, x1, x2, x3, x4, x5, x6⟩, m0, m1, y0, y1, y2, y3, y4, y5⟩ := HCC.out w' (HB5.out.trans (hSw.mono HB5.out.size)); go_simp; try decide
            try simp only [List.set_cons_succ, List.set_cons_zero]
            refine wpAnyH_ready (rs := [4]) (by kernel_rfl) (by simp) ?_
            refine AllReadyH.cons rfl (fun K4 hK4 => ?_) AllReadyH.nil
            go_simp
            refine (HCA.out We (HBW.out.trans ((HB5.out.trans (hJ.mono HB5.out.size)).mono HBW.out.size))).mono ?_
            rintro e w6 ⟨rfl, hb6⟩
            go_wp2_with fail
            refine hK4.out _ _ (hJ.trans (hb6.mono hJ.size)) (fun hJ4 => ?_)
            clear hK4 K4 hb6
            try simp only [List.set_cons_succ, List.set_cons_zero]
            refine rtk 5 (.bool MA) ?_ ?_
            · intro w' hSw; go_simp; try decide
            try simp only [List.set_cons_succ, List.set_cons_zero]
            cases MA with
            | false =>
              refine rtn 6 ?_
              try simp only [List.set_cons_succ, List.set_cons_zero]
              refine rtn 7 ?_
              try simp only [List.set_cons_succ, List.set_cons_zero]
              refine rtn 8 ?_
              try simp only [List.set_cons_succ, List.set_cons_zero]
              refine rtn 9 ?_
              try simp only [List.set_cons_succ, List.set_cons_zero]
              refine rtn 10 ?_
              try simp only [List.set_cons_succ, List.set_cons_zero]
              refine rtn 11 ?_
              try simp only [List.set_cons_succ, List.set_cons_zero]
              refine rtn 12 ?_
              try simp only [List.set_cons_succ, List.set_cons_zero]
              refine rtn 13 ?_
              try simp only [List.set_cons_succ, List.set_cons_zero]
              refine rtk 14 (.bool false) ?_ ?_
              · intro w' hSw; go_simp; try decide
              try simp only [List.set_cons_succ, List.set_cons_zero]
              refine wpAnyH_done (by kernel_rfl) ?_ _
              have HBE := Lib.hid (HBL.out.trans ((HB5.out.trans (hJ4.mono HB5.out.size)).mono HBL.out.size))
              go_wp2_with fail
              refine ⟨⟨k + 1, by omega, by go_num, HBE.out⟩, ?_⟩
              simp [intOf]; omega
            | true =>
              have HTT := Lib.hid (HTK.out rfl)
              refine rtk 6 (.pointer (some ⟨w.heap.size, 0, none⟩)) ?_ ?_
              · intro w' hSw; go_simp; try decide
              try simp only [List.set_cons_succ, List.set_cons_zero]
              refine rtk 7 (.int .i64 a) ?_ ?_
              · intro w' hSw; obtain ⟨⟨x0, x1, x2, x3, x4, x5, x6⟩, m0, m1, y0, y1, y2, y3, y4, y5⟩ := HCC.out w' (HB5.out.trans (hSw.mono HB5.out.size)); go_simp; try decide
              try simp only [List.set_cons_succ, List.set_cons_zero]
              refine rtk 8 (.slice (some ⟨gp, op, none⟩) M pc) ?_ ?_
              · intro w' hSw; go_simp; try decide
              try simp only [List.set_cons_succ, List.set_cons_zero]
              refine rtk 9 (.int .i64 k) ?_ ?_
              · intro w' hSw; go_simp; try decide
              try simp only [List.set_cons_succ, List.set_cons_zero]
              refine rtk 10 (.slice (some ⟨gp, op, none⟩) k pc) ?_ ?_
              · intro w' hSw; go_simp
              try simp only [List.set_cons_succ, List.set_cons_zero]
              refine rtk 11 (nda n) ?_ ?_
              · intro w' hSw; obtain ⟨⟨x0, x1, x2, x3, x4, x5, x6⟩, m0, m1, y0, y1, y2, y3, y4, y5⟩ := HCC.out w' (HB5.out.trans (hSw.mono HB5.out.size)); go_simp; try decide
              try simp only [List.set_cons_succ, List.set_cons_zero]
              refine wpAnyH_ready (rs := [12]) (by kernel_rfl) (by simp) ?_
              refine AllReadyH.cons rfl (fun K12 hK12 => ?_) AllReadyH.nil
              go_simp
              refine (HTT.out w6 (HBW.out.trans ((HB5.out.trans (hJ4.mono HB5.out.size)).mono HBW.out.size))).mono ?_
              rintro e w7 ⟨rfl, hb7⟩
              go_wp2_with fail
              refine hK12.out _ _ (hJ4.trans (hb7.mono hJ4.size)) (fun hJ12 => ?_)
              clear hK12 K12 hb7
              try simp only [List.set_cons_succ, List.set_cons_zero]
              refine rtk 13 (.bool false) ?_ ?_
              · intro w' hSw; go_simp; try decide
              try simp only [List.set_cons_succ, List.set_cons_zero]
              refine rtk 14 (.bool false) ?_ ?_
              · intro w' hSw; go_simp; try decide
              try simp only [List.set_cons_succ, List.set_cons_zero]
              refine wpAnyH_done (by kernel_rfl) ?_ _
              have HBE := Lib.hid (HBL.out.trans ((HB5.out.trans (hJ12.mono HB5.out.size)).mono HBL.out.size))
              go_wp2_with fail
              refine ⟨⟨k + 1, by omega, by go_num, HBE.out⟩, ?_⟩
              simp [intOf]; omega
          | true =>
            have HH1 := Lib.hid (HHT.out rfl)
            have HH2 := Lib.hid (HHA.out rfl)
            refine rtk 12 (ata ⟨turn s.n, s.c⟩) ?_ ?_
            · intro w' hSw; obtain ⟨t0, t1, t2, t3, t4, t5, t6⟩ := HTC.out w' hSw; go_simp; try decide
            try simp only [List.set_cons_succ, List.set_cons_zero]
            refine rtk 13 (nda n) ?_ ?_
            · intro w' hSw; obtain ⟨⟨x0, x1, x2, x3, x4, x5, x6⟩, m0, m1, y0, y1, y2, y3, y4, y5⟩ := HCC.out w' (HB3.out.trans (hSw.mono HB3.out.size)); go_simp; try decide
            try simp only [List.set_cons_succ, List.set_cons_zero]
            refine rtk 15 (.slice (some ⟨gp, op, none⟩) M pc) ?_ ?_
            · intro w' hSw; go_simp; try decide
            try simp only [List.set_cons_succ, List.set_cons_zero]
            refine rtk 16 (.int .i64 k) ?_ ?_
            · intro w' hSw; go_simp; try decide
            try simp only [List.set_cons_succ, List.set_cons_zero]
            refine rtk 17 (.pointer (some ⟨gp, op + k * 7, none⟩)) ?_ ?_
            · intro w' hSw; go_simp; try decide
            try simp only [List.set_cons_succ, List.set_cons_zero]
            refine rtk 18 (ata s) ?_ ?_
            · intro w' hSw; obtain ⟨⟨x0, x1, x2, x3, x4, x5, x6⟩, m0, m1, y0, y1, y2, y3, y4, y5⟩ := HCC.out w' (HB3.out.trans (hSw.mono HB3.out.size)); go_simp; try decide
            try simp only [List.set_cons_succ, List.set_cons_zero]
            refine rtk 19 (nda n) ?_ ?_
            · intro w' hSw; obtain ⟨⟨x0, x1, x2, x3, x4, x5, x6⟩, m0, m1, y0, y1, y2, y3, y4, y5⟩ := HCC.out w' (HB3.out.trans (hSw.mono HB3.out.size)); go_simp; try decide
            try simp only [List.set_cons_succ, List.set_cons_zero]
            refine wpAnyH_ready (rs := [14]) (by kernel_rfl) (by simp) ?_
            refine AllReadyH.cons rfl (fun K14 hK14 => ?_) AllReadyH.nil
            go_simp
            refine (HH1.out _ (HBW.out.trans ((HB3.out.trans (hG2.mono HB3.out.size)).mono HBW.out.size))).mono ?_
            rintro e w5 ⟨rfl, hb5⟩
            go_wp2_with fail
            refine hK14.out _ _ (hG2.trans (hb5.mono hG2.size)) (fun hG14 => ?_)
            clear hK14 K14 hb5
            try simp only [List.set_cons_succ, List.set_cons_zero]
            refine wpAnyH_ready (rs := [20]) (by kernel_rfl) (by simp) ?_
            refine AllReadyH.cons rfl (fun K20 hK20 => ?_) AllReadyH.nil
            go_simp
            refine (HH2.out _ (HBW.out.trans ((HB3.out.trans (hG14.mono HB3.out.size)).mono HBW.out.size))).mono ?_
            rintro e w7 ⟨rfl, hb7⟩
            go_wp2_with fail
            refine hK20.out _ _ (hG14.trans (hb7.mono hG14.size)) (fun hG20 => ?_)
            clear hK20 K20 hb7
            try simp only [List.set_cons_succ, List.set_cons_zero]
            refine rtk 21 (.bool false) ?_ ?_
            · intro w' hSw; cases HO <;> (go_simp; try decide)
            try simp only [List.set_cons_succ, List.set_cons_zero]
            refine rtk 22 (.bool false) ?_ ?_
            · intro w' hSw; go_simp; try decide
            try simp only [List.set_cons_succ, List.set_cons_zero]
            refine rtk 23 (.bool false) ?_ ?_
            · intro w' hSw; go_simp; try decide
            try simp only [List.set_cons_succ, List.set_cons_zero]
            refine wpAnyH_done (by kernel_rfl) ?_ _
            have HB5 := Lib.hid (HB3.out.trans (hG20.mono HB3.out.size))
            go_wp2_with fail
            refine wp_region_held_drew (S := fun w' => Below w7.heap.size w7 w') (by kernel_rfl) ((Below.refl _ _).drew) (fun hJ => ?_)
            generalize w7.drew = We at hJ ⊢
            refine rtk 0 (.pointer (some ⟨w.heap.size, 0, none⟩)) ?_ ?_
            · intro w' hSw; go_simp; try decide
            try simp only [List.set_cons_succ, List.set_cons_zero]
            refine rtk 1 (.int .i64 a) ?_ ?_
            · intro w' hSw; obtain ⟨⟨x0, x1, x2, x3, x4, x5, x6⟩, m0, m1, y0, y1, y2, y3, y4, y5⟩ := HCC.out w' (HB5.out.trans (hSw.mono HB5.out.size)); go_simp; try decide
            try simp only [List.set_cons_succ, List.set_cons_zero]
            refine rtk 2 (.slice (some ⟨gp, op, none⟩) M pc) ?_ ?_
            · intro w' hSw; go_simp; try decide
            try simp only [List.set_cons_succ, List.set_cons_zero]
            refine rtk 3 (nda n) ?_ ?_
            · intro w' hSw; obtain ⟨⟨x0, x1, x2, x3, x4, x5, x6⟩, m0, m1, y0, y1, y2, y3, y4, y5⟩ := HCC.out w' (HB5.out.trans (hSw.mono HB5.out.size)); go_simp; try decide
            try simp only [List.set_cons_succ, List.set_cons_zero]
            refine wpAnyH_ready (rs := [4]) (by kernel_rfl) (by simp) ?_
            refine AllReadyH.cons rfl (fun K4 hK4 => ?_) AllReadyH.nil
            go_simp
            refine (HCA.out We (HBW.out.trans ((HB5.out.trans (hJ.mono HB5.out.size)).mono HBW.out.size))).mono ?_
            rintro e w6 ⟨rfl, hb6⟩
            go_wp2_with fail
            refine hK4.out _ _ (hJ.trans (hb6.mono hJ.size)) (fun hJ4 => ?_)
            clear hK4 K4 hb6
            try simp only [List.set_cons_succ, List.set_cons_zero]
            refine rtk 5 (.bool MA) ?_ ?_
            · intro w' hSw; go_simp; try decide
            try simp only [List.set_cons_succ, List.set_cons_zero]
            cases MA with
            | false =>
              refine rtn 6 ?_
              try simp only [List.set_cons_succ, List.set_cons_zero]
              refine rtn 7 ?_
              try simp only [List.set_cons_succ, List.set_cons_zero]
              refine rtn 8 ?_
              try simp only [List.set_cons_succ, List.set_cons_zero]
              refine rtn 9 ?_
              try simp only [List.set_cons_succ, List.set_cons_zero]
              refine rtn 10 ?_
              try simp only [List.set_cons_succ, List.set_cons_zero]
              refine rtn 11 ?_
              try simp only [List.set_cons_succ, List.set_cons_zero]
              refine rtn 12 ?_
              try simp only [List.set_cons_succ, List.set_cons_zero]
              refine rtn 13 ?_
              try simp only [List.set_cons_succ, List.set_cons_zero]
              refine rtk 14 (.bool false) ?_ ?_
              · intro w' hSw; go_simp; try decide
              try simp only [List.set_cons_succ, List.set_cons_zero]
              refine wpAnyH_done (by kernel_rfl) ?_ _
              have HBE := Lib.hid (HBL.out.trans ((HB5.out.trans (hJ4.mono HB5.out.size)).mono HBL.out.size))
              go_wp2_with fail
              refine ⟨⟨k + 1, by omega, by go_num, HBE.out⟩, ?_⟩
              simp [intOf]; omega
            | true =>
              have HTT := Lib.hid (HTK.out rfl)
              refine rtk 6 (.pointer (some ⟨w.heap.size, 0, none⟩)) ?_ ?_
              · intro w' hSw; go_simp; try decide
              try simp only [List.set_cons_succ, List.set_cons_zero]
              refine rtk 7 (.int .i64 a) ?_ ?_
              · intro w' hSw; obtain ⟨⟨x0, x1, x2, x3, x4, x5, x6⟩, m0, m1, y0, y1, y2, y3, y4, y5⟩ := HCC.out w' (HB5.out.trans (hSw.mono HB5.out.size)); go_simp; try decide
              try simp only [List.set_cons_succ, List.set_cons_zero]
              refine rtk 8 (.slice (some ⟨gp, op, none⟩) M pc) ?_ ?_
              · intro w' hSw; go_simp; try decide
              try simp only [List.set_cons_succ, List.set_cons_zero]
              refine rtk 9 (.int .i64 k) ?_ ?_
              · intro w' hSw; go_simp; try decide
              try simp only [List.set_cons_succ, List.set_cons_zero]
              refine rtk 10 (.slice (some ⟨gp, op, none⟩) k pc) ?_ ?_
              · intro w' hSw; go_simp
              try simp only [List.set_cons_succ, List.set_cons_zero]
              refine rtk 11 (nda n) ?_ ?_
              · intro w' hSw; obtain ⟨⟨x0, x1, x2, x3, x4, x5, x6⟩, m0, m1, y0, y1, y2, y3, y4, y5⟩ := HCC.out w' (HB5.out.trans (hSw.mono HB5.out.size)); go_simp; try decide
              try simp only [List.set_cons_succ, List.set_cons_zero]
              refine wpAnyH_ready (rs := [12]) (by kernel_rfl) (by simp) ?_
              refine AllReadyH.cons rfl (fun K12 hK12 => ?_) AllReadyH.nil
              go_simp
              refine (HTT.out w6 (HBW.out.trans ((HB5.out.trans (hJ4.mono HB5.out.size)).mono HBW.out.size))).mono ?_
              rintro e w7 ⟨rfl, hb7⟩
              go_wp2_with fail
              refine hK12.out _ _ (hJ4.trans (hb7.mono hJ4.size)) (fun hJ12 => ?_)
              clear hK12 K12 hb7
              try simp only [List.set_cons_succ, List.set_cons_zero]
              refine rtk 13 (.bool false) ?_ ?_
              · intro w' hSw; go_simp; try decide
              try simp only [List.set_cons_succ, List.set_cons_zero]
              refine rtk 14 (.bool false) ?_ ?_
              · intro w' hSw; go_simp; try decide
              try simp only [List.set_cons_succ, List.set_cons_zero]
              refine wpAnyH_done (by kernel_rfl) ?_ _
              have HBE := Lib.hid (HBL.out.trans ((HB5.out.trans (hJ12.mono HB5.out.size)).mono HBL.out.size))
              go_wp2_with fail
              refine ⟨⟨k + 1, by omega, by go_num, HBE.out⟩, ?_⟩
              simp [intOf]; omega
        -- END
      · obtain rfl : k = M := by omega
        have hor := or_mask a ha b hb
        have hle := or_le ha hb
        have HB3 := Lib.hid (HB2.out.trans (hbw.mono HB2.out.size))
        have HM3 := Lib.hid (HM2.out.below hbw)
        obtain ⟨m0, m1, y0, y1, y2, y3, y4, y5⟩ := HM3.out.cells
        have HOR := Lib.hid (memb_or a b l n)
        have HCA := Lib.hid (HMA.out a ha)
        have HCB := Lib.hid (HMA.out b hb)
        have HCO := Lib.hid (HMA.out _ hle)
        clear HXP HP HLL HMA hbw HM2 HB2 HMM HPV HRT
        generalize memb (a ||| b) l n = MO at *
        generalize memb a l n = MA at *
        generalize memb b l n = MB at *
        go_wp2_with fail
        refine (HCA.out _ HB3.out).mono ?_
        rintro e W4 ⟨rfl, hb4⟩
        have HB4 := Lib.hid (HB3.out.trans (hb4.mono HB3.out.size))
        have HM4 := Lib.hid (HM3.out.below hb4)
        clear hb4 HM3 HB3 m0 m1 y0 y1 y2 y3 y4 y5
        obtain ⟨m0, m1, y0, y1, y2, y3, y4, y5⟩ := HM4.out.cells
        cases MA with
        | true =>
          go_wp2_with fail
          refine (HAL.out _ HB4.out).mono ?_
          rintro e W5 ⟨rfl, hb5⟩
          have HB5 := Lib.hid (HB4.out.trans (hb5.mono HB4.out.size))
          have HM5 := Lib.hid (HM4.out.below hb5)
          clear hb5 HM4 HB4 m0 m1 y0 y1 y2 y3 y4 y5
          obtain ⟨m0, m1, y0, y1, y2, y3, y4, y5⟩ := HM5.out.cells
          go_wp2_with fail
          refine (HCO.out _ HB5.out).mono ?_
          rintro e W6 ⟨rfl, hb6⟩
          have HB6 := Lib.hid (HB5.out.trans (hb6.mono HB5.out.size))
          have HOT : Hid (MO = true) := Lib.hid (by rw [HOR.out]; rfl)
          clear hb6 m0 m1 y0 y1 y2 y3 y4 y5
          go_wp2_with fail
          go_ret
          exact ⟨ret_bool (by rw [HOT.out]), HB6.out⟩
        | false =>
          go_wp2_with fail
          refine (HCB.out _ HB4.out).mono ?_
          rintro e W7 ⟨rfl, hb7⟩
          have HB7 := Lib.hid (HB4.out.trans (hb7.mono HB4.out.size))
          have HM7 := Lib.hid (HM4.out.below hb7)
          clear hb7 HM4 HB4 m0 m1 y0 y1 y2 y3 y4 y5
          go_wp2_with fail
          refine (HAL.out _ HB7.out).mono ?_
          rintro e W5 ⟨rfl, hb5⟩
          have HB5 := Lib.hid (HB7.out.trans (hb5.mono HB7.out.size))
          have HM5 := Lib.hid (HM7.out.below hb5)
          clear hb5 HM7 HB7
          obtain ⟨m0, m1, y0, y1, y2, y3, y4, y5⟩ := HM5.out.cells
          go_wp2_with fail
          refine (HCO.out _ HB5.out).mono ?_
          rintro e W6 ⟨rfl, hb6⟩
          have HB6 := Lib.hid (HB5.out.trans (hb6.mono HB5.out.size))
          have HOT : Hid (MO = MB) := Lib.hid (by rw [HOR.out]; rfl)
          clear hb6 m0 m1 y0 y1 y2 y3 y4 y5
          go_wp2_with fail
          go_ret
          exact ⟨ret_bool (by rw [HOT.out]; simp), HB6.out⟩
end Go.Proofs.YtbhgmfddjnkglaaGreatDoor

/-
  The statement AtomTurns holds: called with any two numbers, any atoms and any node, whatever lies in memory, it returns true, and each argument reads as it read before. Conditions: the listed variables of the library (two tables of UTF-8, the kinds that a sign lets in) read as the program's text lays them (the tie is given).
-/
namespace Go.Proofs.YtbhgmfddjnkglaaGreatDoor
open Go.ChangeShapes Go.WideShapes Go.ChangeAt Go.RowKit Go.ChangeMaps Np Ap

set_option maxRecDepth 100000 in
theorem atomTurns_lifted (os : Go.Os) (started : os.Started) (H : Type) (enc : TypeId × Value → H) :
    ReturnsInHanded {} Tryz.checked os 4 .any (fun w args => (Rows.atomTurnsSpec.pre enc Tryz.prog Tryz.f4 [] false w args ∧ laidMetH Tryz.prog seatLaid w) ∧ sizedMet enc Tryz.prog Tryz.f4 (OpenSpec.ofChange Rows.atomTurnsSpec) false w args)
      (Rows.atomTurnsSpec.post enc Tryz.prog Tryz.f4 false true false false) := by
  refine returnsInHanded_of_change_and (C := Tryz.checked) (X := fun w _ => laidMetH Tryz.prog seatLaid w) (fun _ _ _ hh h => h.of_heap hh) ownKn started (by kernel_rfl) Tryz.func4
    (ChangeSpec.witness_shaped (enc := enc) (C := Tryz.checked) (os := os) (X := fun w _ => laidMetH Tryz.prog seatLaid w) false (World.laidAll Tryz.prog os seatLaid)
      #[.agg #[.int .i64 0, .int .i64 0], .slice none 0 0, .agg #[.int .i64 0, .int .i64 0, .string ⟨#[]⟩, .string ⟨#[]⟩, .bool false, .int .i64 0]] 8 (World.laidAll_os _ _ _)
      (World.shaped_of_ZipB (by kernel_rfl) (by kernel_rfl)) (by kernel_rfl) (by kernel_rfl) (by kernel_rfl) (laid_met os _)) ?_
  intro W base args ds gs before hval0 hW _ hwt0 hL _
  have hval : ∀ (j : Nat) t v, Tryz.f4.params[j]? = some t → args[j]? = some v → Value.okWide Tryz.prog W .any base t v := hval0
  have hW' := hW
  obtain ⟨p, q, hA0, hV, rfl, _, _⟩ := hW
  have hA : DataW.TrodAll enc Tryz.prog W 0 (fun _ => true) true Tryz.f4.params.toList args.toList ds p := hA0
  have hwt : (DataW.weightsEach Tryz.prog (Tryz.f4.params.toList ++ Rows.atomTurnsSpec.plain.varTypes Tryz.prog) (ds ++ gs)).all (· ≤ reachBytes) = true := hwt0
  rw [Tryz.params4] at hA hval
  obtain ⟨v0, v1, v2, d0, d1, d2, p0, p1, p2, rfl, rfl, rfl, h0, h1, h2⟩ := trodAll_three hA
  obtain ⟨rfl, rfl⟩ := trodVars_none hV
  obtain ⟨x0, y0, rfl, -, -⟩ := open_twoA (base := 0) (sp := fun _ => true) (held := true) (hval 0 _ v0 rfl rfl) h0
  obtain ⟨l1, hl1, hq1⟩ := open_atoms (base := 0) (sp := fun _ => true) (held := true) (hval 1 _ v1 rfl rfl) h1
  obtain ⟨n2, rfl, hn2⟩ := open_nodeA (base := 0) (sp := fun _ => true) (held := true) (hval 2 _ v2 rfl rfl) h2
  refine (aatomTurns_any x0 y0 v1 l1 n2 W hl1 (fun a h => (hq1 a h).c) hn2 ⟨tabs_of_laid hL, lts_of_laid hL⟩).mono fun e W' ⟨he, hb⟩ => ?_
  subst he
  exact ⟨_, rfl, law_post (tb := 4) laidOut hW' rfl Tryz.underlying4 (by kernel_rfl) rfl (by
    rw [Tryz.params4]
    intro t ht
    have hall : ([33, 22, 24].all fun t => Tryz.prog.readableRec t && decide (t < Tryz.prog.types.size)) = true := by kernel_rfl
    obtain ⟨h1, h2⟩ := Bool.and_eq_true_iff.1 (List.all_eq_true.1 hall t ht)
    exact ⟨h1, of_decide_eq_true h2⟩) hb⟩

set_option maxHeartbeats 8000000 in
theorem atomTurns_joined : joinedFacts Tryz.prog 4 Tryz.f4 Rows.atomTurnsSpec Rows.atomTurnsRow = true := by
  simp only [joinedFacts, Bool.and_eq_true]
  repeat' apply And.intro
  all_goals as_aux_lemma => kernel_rfl
theorem atomTurns_holds : Rows.AtomTurnsSaid :=
  OpenClaim.holds_of_wide 4 Tryz.f4 rfl rfl rfl rfl rfl rfl rfl ⟨rfl, rfl, rfl, rfl, rfl⟩ rfl rfl rfl rfl rfl (by kernel_rfl) Tryz.func4 atomTurns_joined
    (of_decide_eq_true (by kernel_rfl)) (by unfold Func.isWrapper; first | (rw [if_pos (by decide +kernel)]; kernel_rfl) | (rw [if_neg (by decide +kernel)]; exact ⟨rfl, rfl⟩))
    (fun os started H enc _ => atomTurns_lifted os started H enc)

theorem atomTurns_card : Rows.AtomTurnsCardSaid :=
  Claim7.holds_tied_plain_at .later [] Rows.atomTurnsCard.laidKinds true Rows.atomTurnsCard.stood.harness Rows.atomTurnsCard.stood.looks
    atomTurns_holds (fun _ h => by cases h) (by kernel_rfl) (fun _ h => by cases h) atomTurns_row_tie rfl ⟨rfl, rfl⟩ (by kernel_rfl) rfl
    (fun f fn hf hfn => by
      obtain rfl : f = 4 := Option.some.inj ((show Tryz.prog.funcNamed "loupe/loupelaw11.AtomTurns" = some 4 by kernel_rfl).symm.trans hf) |>.symm
      obtain rfl : fn = Tryz.f4 := (Option.some.inj (Tryz.func4.symm.trans hfn)).symm
      exact ⟨by kernel_rfl, fun j t ht => by
        rw [Tryz.params4] at ht
        have hm : t ∈ [33, 22, 24] := by simpa using Array.mem_of_getElem? ht
        have hall : ([33, 22, 24].all fun u => !Tryz.prog.wantsStandIn u) = true := by kernel_rfl
        exact (show Tryz.prog.wantsStandIn t = false by simpa using List.all_eq_true.1 hall t hm)⟩)
    (by kernel_rfl)
#print axioms atomTurns_card
end Go.Proofs.YtbhgmfddjnkglaaGreatDoor
