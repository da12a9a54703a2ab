/-
  Joined: AtW5.
-/
import Derived.Test.YtbhgmfddjnkglaaGreatDoorAtomTellsJ23

/-
  The document's own: members; are all atoms right, and few?
-/
namespace Go.Proofs.YtbhgmfddjnkglaaGreatDoor
open Go.RowKit Np Rw Vp Ov Ap

set_option maxRecDepth 100000 in
set_option maxHeartbeats 1000000 in
/-- Is a node a member, by the document? -/
theorem refMemberA_any (m : Nat) (lv : Value) (l : List Atm) (n : Nd) (w : World) (hl : Ats w lv l) (hr : ∀ a ∈ l, rightA a = true) (hn : NdH n) (hm : m ≤ 31) :
    Calls Tryz.prog 9 #[.int .i64 m, lv, nda n] w fun e w' => e = .returned (.bool (memb m l n)) ∧ Below w.heap.size w w' := by
  have HI : Hid (∀ W, Below w.heap.size w W → Calls Tryz.prog 19 #[nda n] W fun e w' => e = .returned (.bool (pln n)) ∧ Below W.heap.size W w') := Lib.hid fun W hW => refPlainA_any n W hn
  have HK := Lib.hid (pln_kind (n := n))
  have HVL := Lib.hid (fun (h : pln n = true) => pln_val h)
  have HLE : Hid (pln n = true → ∀ W, Calls Tryz.prog 20 #[.int .i64 m, .int .i64 n.kind] W fun e w' => e = .returned (.bool (letsK m n.kind.toNat)) ∧ Below W.heap.size W w') := Lib.hid fun h W => by
    have h1 := pln_kind h
    have := refLets_any m n.kind.toNat W hm (by omega)
    rwa [Int.toNat_of_nonneg (by omega)] at this
  have hlen := hl.len
  have HXP : Hid (∀ k a, l[k]? = some a → ∃ g o c, lv = .slice (some ⟨g, o, none⟩) l.length c ∧ g < w.heap.size ∧ At7 w g (o + k * 7) a) := Lib.hid fun k s hs => by
    obtain ⟨g, o, c, hv, -, -, hg, hx⟩ := hl.opened (by have := (List.getElem?_eq_some_iff.1 hs).1; omega)
    exact ⟨g, o, c, hv, hg, (hx k s hs).atm⟩
  have HV : Hid (memb m l n = (pln n && letsK m n.kind.toNat && l.all (holdsA n))) := Lib.hid rfl
  obtain ⟨P, pc, rfl, -⟩ := hl
  have HRT := Lib.hid hr
  have hN : Nd6 (w.alloc (.cells (nds n) 24)) w.heap.size 0 n := by constructor <;> simp
  have hB0 : Below w.heap.size w (w.alloc (.cells (nds n) 24)) := (Below.refl _ _).alloc (Nat.le_refl _) _
  have hlt0 : w.heap.size < (w.alloc (.cells (nds n) 24)).heap.size := by simp
  generalize hpp : l.length = M at *
  have HP := Lib.hid hpp
  clear hpp hr hn hm
  unfold maxLen at hlen
  generalize memb m l n = R at *
  generalize pln n = x1 at *
  generalize letsK m n.kind.toNat = x2 at *
  go_enter Tryz.func9, Tryz.ntmps9
  go_wp2_with fail
  generalize w.alloc _ = W0 at hN hB0 hlt0 ⊢
  refine (HI.out W0 hB0).mono ?_
  rintro e w1 ⟨rfl, hb1⟩
  have hN1 := hN.below (World.block_lt_of_cell? _ _ hN.c0) hb1
  have hB1 := hB0.trans (hb1.mono hB0.size)
  have hlt1 : w.heap.size < w1.heap.size := Nat.lt_of_lt_of_le hlt0 hb1.size
  have HB1 := Lib.hid hB1
  have HN1 := Lib.hid hN1
  clear hN hB0 hb1 HI hlt0 hB1
  cases x1 with
  | false =>
    have HQ : Hid (R = false) := Lib.hid (by rw [HV.out]; rfl)
    obtain ⟨y0, y1, y2, y3, y4, y5⟩ := hN1
    simp only [Nat.zero_add] at y1 y2 y3 y4 y5
    go_wp2_with fail
    go_ret
    exact ⟨ret_bool HQ.out.symm, HB1.out⟩
  | true =>
    have HNV := Lib.hid (HVL.out rfl)
    have HLF := Lib.hid (HLE.out rfl)
    clear HVL HLE HK
    obtain ⟨y0, y1, y2, y3, y4, y5⟩ := hN1
    simp only [Nat.zero_add] at y1 y2 y3 y4 y5
    go_wp2_with fail
    refine (HLF.out _).mono ?_
    rintro e w2 ⟨rfl, hb2⟩
    have hN2 := HN1.out.below hlt1 hb2
    have hB2 := HB1.out.trans (hb2.mono HB1.out.size)
    have hlt2 : w.heap.size < w2.heap.size := Nat.lt_of_lt_of_le hlt1 hb2.size
    have HB0 := Lib.hid hB2
    have HN0 := Lib.hid hN2
    clear hb2 y0 y1 y2 y3 y4 y5 HN1 HB1 hlt1 hN2 hB2
    cases x2 with
    | false =>
      have HQ : Hid (R = false) := Lib.hid (by rw [HV.out]; rfl)
      go_wp2_with fail
      go_ret
      exact ⟨ret_bool HQ.out.symm, HB0.out⟩
    | true =>
      have HR : Hid (R = l.all (holdsA n)) := Lib.hid (by rw [HV.out]; rfl)
      clear HV
      go_wp2_with fail
      go_loopw [7] (fun iv wr => ∃ k : Nat, k ≤ M ∧ iv = .int .i64 k ∧ Hid ((l.take k).all (holdsA n) = true) ∧ Below w2.heap.size w2 wr) (fun iv _ => M - (intOf iv).toNat)
      case atStart => exact ⟨0, Nat.zero_le _, rfl, Lib.hid (by simp), Below.refl _ _⟩
      case round =>
        obtain ⟨k, hk, rfl, HA, hbw⟩ := hrel
        by_cases hlt : k < M
        · have hkp : k < l.length := by rw [HP.out]; exact hlt
          obtain ⟨gp, op, cp, e1, hgp, hs7⟩ := HXP.out k _ (List.getElem?_eq_getElem hkp)
          injection e1 with e1 e2 e3
          subst e1 e3
          have HTK : Hid (l.take (k + 1) = l.take k ++ [l[k]]) := Lib.hid (List.take_succ_eq_append_getElem hkp)
          have HMEM : Hid (l[k] ∈ l) := Lib.hid (List.getElem_mem hkp)
          have HBAD : Hid (holdsA n l[k] = false → R = false) := Lib.hid (fun hr => by
            rw [HR.out, List.all_eq_false]
            exact ⟨l[k], HMEM.out, by rw [hr]; simp⟩)
          have HOK : Hid (holdsA n l[k] = true → (l.take (k + 1)).all (holdsA n) = true) := Lib.hid (fun hr => by rw [HTK.out, List.all_append, HA.out]; simp [hr])
          have hBW : Below w.heap.size w wr := HB0.out.trans (hbw.mono HB0.out.size)
          have HA7 := Lib.hid (hs7.below hgp hBW)
          obtain ⟨y0, y1, y2, y3, y4, y5, y6⟩ := hs7.below hgp hBW
          have HRA : Hid (rightA l[k] = true) := Lib.hid (HRT.out _ HMEM.out)
          obtain ⟨n0, n1, n2, n3, n4, n5⟩ := HN0.out.below hlt2 hbw
          simp only [Nat.zero_add] at n1 n2 n3 n4 n5
          have HBW := Lib.hid hBW
          have HBL := Lib.hid hbw
          have HCL : Hid (∀ W, Calls Tryz.prog 11 #[ata l[k], nda n] W fun e w' => e = .returned (.bool (holdsA n l[k])) ∧ Below W.heap.size W w') := Lib.hid fun W => refHoldsA_any l[k] n W (pln_val (rightA_pln HRA.out)) HNV.out
          clear e2 HTK HMEM hs7 hBW hbw HRA
          generalize l[k] = a at *
          cases hh : holdsA n a with
          | false =>
            have HF := Lib.hid (HBAD.out hh)
            rw [hh] at HCL
            clear HBAD HOK hh
            have HCC : Hid (∀ w', Below wr.heap.size wr w' → (w'.cell? ⟨gp, op + k * 7, none⟩ = some (.int .i64 a.n) ∧ w'.cell? ⟨gp, op + k * 7 + 1, none⟩ = some (.int .i64 a.c.kind) ∧ w'.cell? ⟨gp, op + k * 7 + 2, none⟩ = some (.int .i64 a.c.many) ∧ w'.cell? ⟨gp, op + k * 7 + 3, none⟩ = some (.string ⟨a.c.name.toArray⟩) ∧ w'.cell? ⟨gp, op + k * 7 + 4, none⟩ = some (.string ⟨a.c.s.toArray⟩) ∧ w'.cell? ⟨gp, op + k * 7 + 5, none⟩ = some (.bool a.c.neg) ∧ w'.cell? ⟨gp, op + k * 7 + 6, none⟩ = some (.int .i64 a.c.e)) ∧ w'.cell? ⟨w.heap.size, 0, none⟩ = some (.int .i64 n.kind) ∧ w'.cell? ⟨w.heap.size, 1, none⟩ = some (.int .i64 n.many) ∧ w'.cell? ⟨w.heap.size, 2, none⟩ = some (.string ⟨n.name.toArray⟩) ∧ w'.cell? ⟨w.heap.size, 3, none⟩ = some (.string ⟨n.s.toArray⟩) ∧ w'.cell? ⟨w.heap.size, 4, none⟩ = some (.bool n.neg) ∧ w'.cell? ⟨w.heap.size, 5, none⟩ = some (.int .i64 n.e)) := Lib.hid fun w' hw => by
              have h1 := (HA7.out.below (Nat.lt_of_lt_of_le hgp HBW.out.size) hw)
              obtain ⟨z0, z1, z2, z3, z4, z5⟩ := HN0.out.below hlt2 (HBL.out.trans (hw.mono HBL.out.size))
              simp only [Nat.zero_add] at z1 z2 z3 z4 z5
              exact ⟨⟨h1.c0, h1.c1, h1.c2, h1.c3, h1.c4, h1.c5, h1.c6⟩, z0, z1, z2, z3, z4, z5⟩
            go_wp2_with fail
            refine wp_region_held_drew (S := fun w' => Below wr.heap.size wr w') (by kernel_rfl) ((Below.refl _ _).drew) (fun hH => ?_)
            generalize wr.drew = Wd at hH ⊢
            refine rtk 0 (.slice (some ⟨gp, op, none⟩) M pc) ?_ ?_
            · intro w' hSw; go_simp; try decide
            try simp only [List.set_cons_succ, List.set_cons_zero]
            refine rtk 1 (.int .i64 k) ?_ ?_
            · intro w' hSw; go_simp; try decide
            try simp only [List.set_cons_succ, List.set_cons_zero]
            refine rtk 2 (.pointer (some ⟨gp, op + k * 7, none⟩)) ?_ ?_
            · intro w' hSw; go_simp; try decide
            try simp only [List.set_cons_succ, List.set_cons_zero]
            refine rtk 3 (ata a) ?_ ?_
            · intro w' hSw; obtain ⟨⟨y0, y1, y2, y3, y4, y5, y6⟩, n0, n1, n2, n3, n4, n5⟩ := HCC.out w' hSw; go_simp; try decide
            try simp only [List.set_cons_succ, List.set_cons_zero]
            refine rtk 4 (nda n) ?_ ?_
            · intro w' hSw; obtain ⟨⟨y0, y1, y2, y3, y4, y5, y6⟩, n0, n1, n2, n3, n4, n5⟩ := HCC.out w' hSw; go_simp; try decide
            try simp only [List.set_cons_succ, List.set_cons_zero]
            refine wpAnyH_ready (rs := [5]) (by kernel_rfl) (by simp) ?_
            refine AllReadyH.cons rfl (fun K5 hK5 => ?_) AllReadyH.nil
            go_simp
            refine (HCL.out _).mono ?_
            rintro e w3 ⟨rfl, hb3⟩
            go_wp2_with fail
            refine hK5.out _ _ (hH.trans (hb3.mono hH.size)) (fun hH3 => ?_)
            clear hK5 K5
            try simp only [List.set_cons_succ, List.set_cons_zero]
            refine rtk 6 (.bool true) ?_ ?_
            · intro w' hSw; go_simp; try decide
            try simp only [List.set_cons_succ, List.set_cons_zero]
            refine wpAnyH_done (by kernel_rfl) ?_ _
            have HB3 := Lib.hid (HBW.out.trans (hH3.mono HBW.out.size))
            clear hb3 y0 y1 y2 y3 y4 y5 y6 n0 n1 n2 n3 n4 n5
            go_wp2_with fail
            go_ret
            exact ⟨ret_bool HF.out.symm, HB3.out⟩
          | true =>
            have HF := Lib.hid (HOK.out hh)
            rw [hh] at HCL
            clear HBAD HOK hh
            have HCC : Hid (∀ w', Below wr.heap.size wr w' → (w'.cell? ⟨gp, op + k * 7, none⟩ = some (.int .i64 a.n) ∧ w'.cell? ⟨gp, op + k * 7 + 1, none⟩ = some (.int .i64 a.c.kind) ∧ w'.cell? ⟨gp, op + k * 7 + 2, none⟩ = some (.int .i64 a.c.many) ∧ w'.cell? ⟨gp, op + k * 7 + 3, none⟩ = some (.string ⟨a.c.name.toArray⟩) ∧ w'.cell? ⟨gp, op + k * 7 + 4, none⟩ = some (.string ⟨a.c.s.toArray⟩) ∧ w'.cell? ⟨gp, op + k * 7 + 5, none⟩ = some (.bool a.c.neg) ∧ w'.cell? ⟨gp, op + k * 7 + 6, none⟩ = some (.int .i64 a.c.e)) ∧ w'.cell? ⟨w.heap.size, 0, none⟩ = some (.int .i64 n.kind) ∧ w'.cell? ⟨w.heap.size, 1, none⟩ = some (.int .i64 n.many) ∧ w'.cell? ⟨w.heap.size, 2, none⟩ = some (.string ⟨n.name.toArray⟩) ∧ w'.cell? ⟨w.heap.size, 3, none⟩ = some (.string ⟨n.s.toArray⟩) ∧ w'.cell? ⟨w.heap.size, 4, none⟩ = some (.bool n.neg) ∧ w'.cell? ⟨w.heap.size, 5, none⟩ = some (.int .i64 n.e)) := Lib.hid fun w' hw => by
              have h1 := (HA7.out.below (Nat.lt_of_lt_of_le hgp HBW.out.size) hw)
              obtain ⟨z0, z1, z2, z3, z4, z5⟩ := HN0.out.below hlt2 (HBL.out.trans (hw.mono HBL.out.size))
              simp only [Nat.zero_add] at z1 z2 z3 z4 z5
              exact ⟨⟨h1.c0, h1.c1, h1.c2, h1.c3, h1.c4, h1.c5, h1.c6⟩, z0, z1, z2, z3, z4, z5⟩
            go_wp2_with fail
            refine wp_region_held_drew (S := fun w' => Below wr.heap.size wr w') (by kernel_rfl) ((Below.refl _ _).drew) (fun hH => ?_)
            generalize wr.drew = Wd at hH ⊢
            refine rtk 0 (.slice (some ⟨gp, op, none⟩) M pc) ?_ ?_
            · intro w' hSw; go_simp; try decide
            try simp only [List.set_cons_succ, List.set_cons_zero]
            refine rtk 1 (.int .i64 k) ?_ ?_
            · intro w' hSw; go_simp; try decide
            try simp only [List.set_cons_succ, List.set_cons_zero]
            refine rtk 2 (.pointer (some ⟨gp, op + k * 7, none⟩)) ?_ ?_
            · intro w' hSw; go_simp; try decide
            try simp only [List.set_cons_succ, List.set_cons_zero]
            refine rtk 3 (ata a) ?_ ?_
            · intro w' hSw; obtain ⟨⟨y0, y1, y2, y3, y4, y5, y6⟩, n0, n1, n2, n3, n4, n5⟩ := HCC.out w' hSw; go_simp; try decide
            try simp only [List.set_cons_succ, List.set_cons_zero]
            refine rtk 4 (nda n) ?_ ?_
            · intro w' hSw; obtain ⟨⟨y0, y1, y2, y3, y4, y5, y6⟩, n0, n1, n2, n3, n4, n5⟩ := HCC.out w' hSw; go_simp; try decide
            try simp only [List.set_cons_succ, List.set_cons_zero]
            refine wpAnyH_ready (rs := [5]) (by kernel_rfl) (by simp) ?_
            refine AllReadyH.cons rfl (fun K5 hK5 => ?_) AllReadyH.nil
            go_simp
            refine (HCL.out _).mono ?_
            rintro e w3 ⟨rfl, hb3⟩
            go_wp2_with fail
            refine hK5.out _ _ (hH.trans (hb3.mono hH.size)) (fun hH3 => ?_)
            clear hK5 K5
            try simp only [List.set_cons_succ, List.set_cons_zero]
            refine rtk 6 (.bool false) ?_ ?_
            · intro w' hSw; go_simp; try decide
            try simp only [List.set_cons_succ, List.set_cons_zero]
            refine wpAnyH_done (by kernel_rfl) ?_ _
            have HB3 := Lib.hid (HBL.out.trans (hH3.mono HBL.out.size))
            clear hb3 y0 y1 y2 y3 y4 y5 y6 n0 n1 n2 n3 n4 n5
            go_wp2_with fail
            refine ⟨⟨k + 1, by omega, by go_num, HF, HB3.out⟩, ?_⟩
            simp [intOf]; omega
        · obtain rfl : k = M := by omega
          have HF : Hid (R = true) := Lib.hid (by
            have := HA.out
            rwa [List.take_of_length_le (by rw [HP.out]; exact Nat.le_refl _), ← HR.out] at this)
          go_wp2_with fail
          go_ret
          exact ⟨ret_bool HF.out.symm, HB0.out.trans (hbw.mono HB0.out.size)⟩
set_option maxRecDepth 100000 in
set_option maxHeartbeats 1000000 in
/-- Are all atoms right, and few? -/
theorem refAllA_any (lv : Value) (l : List Atm) (w : World) (hl : Ats w lv l) (hh : ∀ a ∈ l, NdH a.c) :
    Calls Tryz.prog 8 #[lv, .int .i64 8] w fun e w' => e = .returned (.bool (allA 8 l)) ∧ Below w.heap.size w w' := by
  have hlen := hl.len
  have HXP : Hid (∀ k a, l[k]? = some a → ∃ g o c, lv = .slice (some ⟨g, o, none⟩) l.length c ∧ g < w.heap.size ∧ At7 w g (o + k * 7) a) := Lib.hid fun k s hs => by
    obtain ⟨g, o, c, hv, -, -, hg, hx⟩ := hl.opened (by have := (List.getElem?_eq_some_iff.1 hs).1; omega)
    exact ⟨g, o, c, hv, hg, (hx k s hs).atm⟩
  obtain ⟨P, pc, rfl, -⟩ := hl
  have HH := Lib.hid hh
  have HV : Hid (allA 8 l = (decide (l.length ≤ 8) && l.all fun a => decide (a.c.s.length ≤ 200) && rightA a)) := Lib.hid rfl
  generalize hpp : l.length = M at *
  have HP := Lib.hid hpp
  clear hpp hh
  unfold maxLen at hlen
  generalize allA 8 l = R at *
  go_enter Tryz.func8, Tryz.ntmps8
  go_wp2_with fail
  go_loopw [5] (fun iv wr => ∃ k : Nat, k ≤ M ∧ (k = 0 ∨ k ≤ 8) ∧ iv = .int .i64 k ∧ Hid ((l.take k).all (fun a => decide (a.c.s.length ≤ 200) && rightA a) = true) ∧ Below w.heap.size w wr) (fun iv _ => M - (intOf iv).toNat)
  case atStart => exact ⟨0, Nat.zero_le _, .inl rfl, rfl, Lib.hid (by simp), Below.refl _ _⟩
  case round =>
    obtain ⟨k, hk, hk8, rfl, HA, hbw⟩ := hrel
    by_cases hlt : k < M
    · by_cases h8 : k < 8
      · have hkp : k < l.length := by rw [HP.out]; exact hlt
        obtain ⟨gp, op, cp, e1, hgp, hs7⟩ := HXP.out k _ (List.getElem?_eq_getElem hkp)
        injection e1 with e1 e2 e3
        subst e1 e3
        have HTK : Hid (l.take (k + 1) = l.take k ++ [l[k]]) := Lib.hid (List.take_succ_eq_append_getElem hkp)
        have HMEM : Hid (l[k] ∈ l) := Lib.hid (List.getElem_mem hkp)
        have HBAD : Hid ((decide (l[k].c.s.length ≤ 200) && rightA l[k]) = false → R = false) := Lib.hid (fun hr => by
          rw [HV.out]
          have : (l.all fun a => decide (a.c.s.length ≤ 200) && rightA a) = false := by
            rw [List.all_eq_false]
            exact ⟨l[k], HMEM.out, by rw [hr]; simp⟩
          rw [this, Bool.and_false])
        have HOK : Hid ((decide (l[k].c.s.length ≤ 200) && rightA l[k]) = true → (l.take (k + 1)).all (fun a => decide (a.c.s.length ≤ 200) && rightA a) = true) := Lib.hid (fun hr => by rw [HTK.out, List.all_append, HA.out]; simpa using hr)
        have HNH := Lib.hid (HH.out _ HMEM.out)
        obtain ⟨y0, y1, y2, y3, y4, y5, y6⟩ := hs7.below hgp hbw
        have HBL := Lib.hid hbw
        have HCL : Hid (∀ W, Calls Tryz.prog 7 #[ata l[k]] W fun e w' => e = .returned (.bool (rightA l[k])) ∧ Below W.heap.size W w') := Lib.hid fun W => refRightA_any l[k] W HNH.out
        clear e2 HTK HMEM hs7 hbw hk8
        generalize l[k] = a at *
        by_cases hs : a.c.s.length ≤ 200
        · have e0 : ¬ 200 < a.c.s.length := by omega
          cases hh : rightA a with
          | false =>
            have HF := Lib.hid (HBAD.out (by rw [hh]; simp))
            rw [hh] at HCL
            clear HBAD HOK hh
            go_wp2_with fail
            refine (HCL.out _).mono ?_
            rintro e w3 ⟨rfl, hb3⟩
            have HB3 := Lib.hid (HBL.out.trans (hb3.mono HBL.out.size))
            clear hb3 y0 y1 y2 y3 y4 y5 y6
            go_wp2_with fail
            go_ret
            exact ⟨ret_bool HF.out.symm, HB3.out⟩
          | true =>
            have HF := Lib.hid (HOK.out (by rw [hh]; simp [hs]))
            rw [hh] at HCL
            clear HBAD HOK hh
            go_wp2_with fail
            refine (HCL.out _).mono ?_
            rintro e w3 ⟨rfl, hb3⟩
            have HB3 := Lib.hid (HBL.out.trans (hb3.mono HBL.out.size))
            clear hb3 y0 y1 y2 y3 y4 y5 y6
            go_wp2_with fail
            refine ⟨⟨k + 1, by omega, .inr (by omega), by go_num, HF, HB3.out⟩, ?_⟩
            simp [intOf]; omega
        · have e0 : 200 < a.c.s.length := by omega
          have HF := Lib.hid (HBAD.out (by simp [hs]))
          clear HBAD HOK
          go_wp2_with fail
          go_ret
          exact ⟨ret_bool HF.out.symm, HBL.out⟩
      · have HF : Hid (R = false) := Lib.hid (by rw [HV.out]; have : ¬ M ≤ 8 := by omega
                                                 simp [this])
        go_wp2_with fail
        go_ret
        exact ⟨ret_bool HF.out.symm, hbw⟩
    · obtain rfl : k = M := by omega
      have HF : Hid (R = true) := Lib.hid (by
        have := HA.out
        rw [List.take_of_length_le (by rw [HP.out]; exact Nat.le_refl _)] at this
        rw [HV.out, this]
        simp; omega)
      go_wp2_with fail
      go_ret
      exact ⟨ret_bool HF.out.symm, hbw⟩
end Go.Proofs.YtbhgmfddjnkglaaGreatDoor
