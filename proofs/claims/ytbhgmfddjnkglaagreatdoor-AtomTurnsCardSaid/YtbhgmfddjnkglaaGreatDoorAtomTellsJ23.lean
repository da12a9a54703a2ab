/-
  Joined: AtW4.
-/
import Derived.Test.YtbhgmfddjnkglaaGreatDoorAtomTellsJ22

/-
  Members of a mask and atoms: isLet, allHold, Member; the document's Lets, Member and All.
-/
namespace Go.Proofs.YtbhgmfddjnkglaaGreatDoor
open Go.RowKit Np Rw Vp Ov Ap

theorem and_one : ∀ V : Nat, V ≤ 31 → bits BinOp.and IntKind.i64 (V : Int) 1 = ((V % 2 : Nat) : Int) := by decide
theorem mask_shr (m k : Nat) (hm : m ≤ 31) (hk : k ≤ 4) : (∀ w', Sem.run Tryz.prog (Op.shift BinOp.shr IntKind.i64 (m : Int) IntKind.i64 (k : Int)) w' = Result.ok (.int .i64 ((m / 2 ^ k : Nat) : Int)) w') ∧ bits BinOp.and IntKind.i64 ((m / 2 ^ k : Nat) : Int) 1 = ((m / 2 ^ k % 2 : Nat) : Int) := by
  have hle : m / 2 ^ k ≤ 31 := Nat.le_trans (Nat.div_le_self _ _) hm
  refine ⟨fun w' => ?_, and_one _ hle⟩
  have h1 : min (k : Int).toNat IntKind.i64.bits = k := by
    show min k 64 = k
    omega
  unfold Op.shift
  rw [if_neg (by omega)]
  simp only [h1]
  have h2 : (m : Int).fdiv (2 ^ k) = ((m / 2 ^ k : Nat) : Int) := by
    rw [Int.fdiv_eq_ediv_of_nonneg _ (by exact_mod_cast Nat.zero_le _)]
    push_cast
    rfl
  rw [h2]
  rfl
set_option maxRecDepth 100000 in
set_option maxHeartbeats 1000000 in
/-- Does a mask let a node in? -/
theorem isLet_any (m : Nat) (n : Nd) (w : World) (hn : NdH n) (hT : Tabs w) (hm : m ≤ 31) : Calls Tryz.prog 24 #[.int .i64 m, nda n] w fun e w' => e = .returned (.bool (pln n && letsK m n.kind.toNat)) ∧ Below w.heap.size w w' := by
  have HP : Hid (∀ W, Below w.heap.size w W → Calls Tryz.prog 18 #[nda n] W fun e w' => e = .returned (.bool (pln n)) ∧ Below W.heap.size W w') := Lib.hid fun W hW => isPlain_any n W hn (hT.below hW)
  have HK := Lib.hid (pln_kind (n := n))
  have hN : Nd6 (w.alloc (.cells (nds n) 24)) w.heap.size 0 n := by constructor <;> simp
  have hB0 : Below w.heap.size w (w.alloc (.cells (nds n) 24)) := (Below.refl _ _).alloc (Nat.le_refl _) _
  clear hn hT
  generalize pln n = R at *
  obtain ⟨k, mn, nm, s, g, x⟩ := n
  simp only at HP HK
  have HLT : Hid (k = 0 ∨ k = 1 ∨ k = 2 ∨ k = 3 ∨ k = 4 → (∀ w', Sem.run Tryz.prog (Op.shift BinOp.shr IntKind.i64 (m : Int) IntKind.i64 k) w' = Result.ok (.int .i64 ((m / 2 ^ k.toNat : Nat) : Int)) w') ∧ bits BinOp.and IntKind.i64 ((m / 2 ^ k.toNat : Nat) : Int) 1 = ((m / 2 ^ k.toNat % 2 : Nat) : Int)) := Lib.hid fun h => by
    have := mask_shr m k.toNat hm (by omega)
    rwa [Int.toNat_of_nonneg (by omega)] at this
  have HLK : Hid (letsK m k.toNat = (((m / 2 ^ k.toNat % 2 : Nat) : Int) == 1)) := Lib.hid (by
    rw [letsK_div, Bool.eq_iff_iff]
    simp only [decide_eq_true_eq, beq_iff_eq]
    constructor <;> intro h <;> omega)
  go_enter Tryz.func24, Tryz.ntmps24
  go_wp2_with fail
  generalize w.alloc _ = W0 at hN hB0 ⊢
  refine (HP.out W0 hB0).mono ?_
  rintro e w1 ⟨rfl, hb1⟩
  have hN1 := hN.below (World.block_lt_of_cell? _ _ hN.c0) hb1
  have HB1 := Lib.hid (hB0.trans (hb1.mono hB0.size))
  clear hN hB0 hb1 HP
  cases R with
  | false =>
    go_wp2_with fail
    go_ret
    exact ⟨rfl, HB1.out⟩
  | true =>
    obtain ⟨hv1, hv2⟩ := HLT.out (HK.out rfl)
    clear HLT HK
    generalize m / 2 ^ k.toNat = V at hv1 hv2 HLK
    obtain ⟨y0, y1, y2, y3, y4, y5⟩ := hN1
    simp only [Nat.zero_add] at y1 y2 y3 y4 y5
    have hm' : (m : Int) ≤ 31 := by omega
    have hm0 : (0 : Int) ≤ m := by omega
    go_wp2_with fail
    go_ret
    exact ⟨ret_bool (by rw [HLK.out]; simp), HB1.out⟩
set_option maxRecDepth 100000 in
theorem refLets_any (m k : Nat) (w : World) (hm : m ≤ 31) (hk : k ≤ 4) : Calls Tryz.prog 20 #[.int .i64 m, .int .i64 k] w fun e w' => e = .returned (.bool (letsK m k)) ∧ Below w.heap.size w w' := by
  have hB : Below w.heap.size w w := Below.refl _ _
  have HLK : Hid (letsK m k = (((m / 2 ^ k % 2 : Nat) : Int) == 1)) := Lib.hid (by
    rw [letsK_div, Bool.eq_iff_iff]
    simp only [decide_eq_true_eq, beq_iff_eq]
    constructor <;> intro h <;> omega)
  go_enter Tryz.func20, Tryz.ntmps20
  go_wp2_with fail
  go_loopw [0, 5] (fun mv iv wr => ∃ i V : Nat, i ≤ k ∧ V ≤ 31 ∧ mv = .int .i64 V ∧ iv = .int .i64 i ∧ Hid (V = m / 2 ^ i) ∧ wr = w) (fun _ iv _ => k - (intOf iv).toNat)
  case atStart => exact ⟨0, m, Nat.zero_le _, hm, rfl, rfl, Lib.hid (by simp), rfl⟩
  case round =>
    obtain ⟨i, V, hi, hV, rfl, rfl, HV, rfl⟩ := hrel
    by_cases hlt : i < k
    · go_wp2_with fail
      refine ⟨⟨i + 1, V / 2, by omega, by omega, by go_num, by go_num, Lib.hid (by rw [HV.out, Nat.pow_succ, Nat.div_div_eq_div_mul]), trivial⟩, ?_⟩
      simp [intOf]; omega
    · obtain rfl : i = k := by omega
      have HQ : Hid (letsK m i = ((V : Int) % 2 == 1)) := Lib.hid (by rw [HLK.out, ← HV.out]; simp)
      go_wp2_with fail
      go_ret
      exact ⟨ret_bool HQ.out.symm, hB⟩
set_option maxRecDepth 100000 in
set_option maxHeartbeats 1000000 in
theorem allHold_any (lv : Value) (l : List Atm) (n : Nd) (w : World) (hl : Ats w lv l) (hr : ∀ a ∈ l, rightA a = true) (hn : Val (leaf n)) (hL : Lts w) :
    Calls Tryz.prog 25 #[lv, nda n] w fun e w' => e = .returned (.bool (l.all (holdsA n))) ∧ Below w.heap.size w w' := by
  have hlen := hl.len
  have HXP : Hid (∀ k a, l[k]? = some a → ∃ g o c, lv = .slice (some ⟨g, o, none⟩) l.length c ∧ g < w.heap.size ∧ At7 w g (o + k * 7) a) := Lib.hid fun k s hs => by
    obtain ⟨g, o, c, hv, -, -, hg, hx⟩ := hl.opened (by have := (List.getElem?_eq_some_iff.1 hs).1; omega)
    exact ⟨g, o, c, hv, hg, (hx k s hs).atm⟩
  obtain ⟨P, pc, rfl, -⟩ := hl
  generalize hRR : l.all (holdsA n) = R at *
  have HR := Lib.hid hRR
  have HRT := Lib.hid hr
  have HNV := Lib.hid hn
  have HLT := Lib.hid hL
  have hN : Nd6 (w.alloc (.cells (nds n) 24)) w.heap.size 0 n := by constructor <;> simp
  have hB0 : Below w.heap.size w (w.alloc (.cells (nds n) 24)) := (Below.refl _ _).alloc (Nat.le_refl _) _
  clear hRR hr hn hL
  generalize hpp : l.length = m at *
  have HP := Lib.hid hpp
  clear hpp
  unfold maxLen at hlen
  go_enter Tryz.func25, Tryz.ntmps25
  go_wp2_with fail
  have hlt0 : w.heap.size < (w.alloc (.cells (nds n) 24)).heap.size := by simp
  generalize w.alloc _ = W0 at hN hB0 hlt0 ⊢
  have HN0 := Lib.hid hN
  have HB0 := Lib.hid hB0
  clear hN hB0
  go_loopw [9] (fun iv wr => ∃ k : Nat, k ≤ m ∧ iv = .int .i64 k ∧ Hid ((l.take k).all (holdsA n) = true) ∧ Below W0.heap.size W0 wr) (fun iv _ => m - (intOf iv).toNat)
  case atStart => exact ⟨0, Nat.zero_le _, rfl, Lib.hid (by simp), Below.refl _ _⟩
  case round =>
    obtain ⟨k, hk, rfl, HA, hbw⟩ := hrel
    by_cases hlt : k < m
    · have hkp : k < l.length := by rw [HP.out]; exact hlt
      obtain ⟨gp, op, cp, e1, hgp, hs7⟩ := HXP.out k _ (List.getElem?_eq_getElem hkp)
      injection e1 with e1 e2 e3
      subst e1 e3
      have HTK : Hid (l.take (k + 1) = l.take k ++ [l[k]]) := Lib.hid (List.take_succ_eq_append_getElem hkp)
      have HMEM : Hid (l[k] ∈ l) := Lib.hid (List.getElem_mem hkp)
      have HBAD : Hid (holdsA n l[k] = false → R = false) := Lib.hid (fun hr => by
        rw [← HR.out, List.all_eq_false]
        exact ⟨l[k], HMEM.out, by rw [hr]; simp⟩)
      have HOK : Hid (holdsA n l[k] = true → (l.take (k + 1)).all (holdsA n) = true) := Lib.hid (fun hr => by rw [HTK.out, List.all_append, HA.out]; simp [hr])
      have hBW : Below w.heap.size w wr := HB0.out.trans (hbw.mono HB0.out.size)
      obtain ⟨y0, y1, y2, y3, y4, y5, y6⟩ := hs7.below hgp hBW
      have HRA : Hid (rightA l[k] = true) := Lib.hid (HRT.out _ HMEM.out)
      obtain ⟨n0, n1, n2, n3, n4, n5⟩ := HN0.out.below hlt0 hbw
      simp only [Nat.zero_add] at n1 n2 n3 n4 n5
      have HBW := Lib.hid hBW
      have HBL := Lib.hid hbw
      have hltw : w.heap.size < wr.heap.size := Nat.lt_of_lt_of_le hlt0 hbw.size
      have HCL : Hid (∀ W, Below wr.heap.size wr W → Calls Tryz.prog 10 #[ata l[k], nda n] W fun e w' => e = .returned (.bool (holdsA n l[k])) ∧ Below W.heap.size W w') := Lib.hid fun W hW => holdsA_any l[k] n W HRA.out HNV.out (HLT.out.below (hBW.trans (hW.mono hBW.size)))
      have HAL : Hid (Below wr.heap.size wr (wr.alloc (.cells (atc l[k]).toArray 27))) := Lib.hid ((Below.refl _ _).alloc (Nat.le_refl _) _)
      clear e2 HTK HMEM hs7 hBW hbw HRA
      generalize l[k] = a at *
      simp only [atc] at HAL
      cases hh : holdsA n a with
      | false =>
        have HF := Lib.hid (HBAD.out hh)
        rw [hh] at HCL
        clear HBAD HOK hh
        go_wp2_with fail
        refine (HCL.out _ HAL.out).mono ?_
        rintro e w2 ⟨rfl, hb2⟩
        have HB2 := Lib.hid (HBW.out.trans ((HAL.out.trans (hb2.mono HAL.out.size)).mono HBW.out.size))
        clear hb2 y0 y1 y2 y3 y4 y5 y6 n0 n1 n2 n3 n4 n5
        go_wp2_with fail
        go_ret
        exact ⟨ret_bool HF.out.symm, HB2.out⟩
      | true =>
        have HF := Lib.hid (HOK.out hh)
        rw [hh] at HCL
        clear HBAD HOK hh
        go_wp2_with fail
        refine (HCL.out _ HAL.out).mono ?_
        rintro e w2 ⟨rfl, hb2⟩
        have HB2 := Lib.hid (HBL.out.trans ((HAL.out.trans (hb2.mono HAL.out.size)).mono HBL.out.size))
        clear hb2 y0 y1 y2 y3 y4 y5 y6 n0 n1 n2 n3 n4 n5
        go_wp2_with fail
        refine ⟨⟨k + 1, by omega, by go_num, HF, HB2.out⟩, ?_⟩
        simp [intOf]; omega
    · obtain rfl : k = m := by omega
      have HF : Hid (R = true) := Lib.hid (by
        have := HA.out
        rwa [List.take_of_length_le (by rw [HP.out]; exact Nat.le_refl _), HR.out] at this)
      go_wp2_with fail
      go_ret
      exact ⟨ret_bool HF.out.symm, HB0.out.trans (hbw.mono HB0.out.size)⟩
set_option maxRecDepth 100000 in
set_option maxHeartbeats 1000000 in
/-- Is a node a member? -/
theorem memberA_any (m : Nat) (lv : Value) (l : List Atm) (n : Nd) (w : World) (hl : Ats w lv l) (hr : ∀ a ∈ l, rightA a = true) (hn : NdH n) (hT : Tabs w) (hL : Lts w) (hm : m ≤ 31) :
    Calls Tryz.prog 14 #[.int .i64 m, lv, nda n] w fun e w' => e = .returned (.bool (memb m l n)) ∧ Below w.heap.size w w' := by
  have HI : Hid (∀ W, Below w.heap.size w W → Calls Tryz.prog 24 #[.int .i64 m, nda n] W fun e w' => e = .returned (.bool (pln n && letsK m n.kind.toNat)) ∧ Below W.heap.size W w') := Lib.hid fun W hW => isLet_any m n W hn (hT.below hW) hm
  have HH : Hid (pln n = true → ∀ W, Below w.heap.size w W → Calls Tryz.prog 25 #[lv, nda n] W fun e w' => e = .returned (.bool (l.all (holdsA n))) ∧ Below W.heap.size W w') := Lib.hid fun hp W hW => allHold_any lv l n W (hl.below hW) hr (pln_val hp) (hL.below hW)
  have hN : Nd6 (w.alloc (.cells (nds n) 24)) w.heap.size 0 n := by constructor <;> simp
  have hB0 : Below w.heap.size w (w.alloc (.cells (nds n) 24)) := (Below.refl _ _).alloc (Nat.le_refl _) _
  have HV : Hid (memb m l n = (pln n && letsK m n.kind.toNat && l.all (holdsA n))) := Lib.hid rfl
  have HPL : Hid ((pln n && letsK m n.kind.toNat) = true → pln n = true) := Lib.hid (by intro h; simp at h; exact h.1)
  obtain ⟨P, pc, rfl, -⟩ := hl
  clear hr hn hT hL hm
  generalize (pln n && letsK m n.kind.toNat) = R at *
  generalize memb m l n = Q at *
  generalize l.all (holdsA n) = U at *
  go_enter Tryz.func14, Tryz.ntmps14
  go_wp2_with fail
  generalize w.alloc _ = W0 at hN hB0 ⊢
  refine (HI.out W0 hB0).mono ?_
  rintro e w1 ⟨rfl, hb1⟩
  have hN1 := hN.below (World.block_lt_of_cell? _ _ hN.c0) hb1
  have HB1 := Lib.hid (hB0.trans (hb1.mono hB0.size))
  clear hN hB0 hb1 HI
  cases R with
  | false =>
    have HQ : Hid (Q = false) := Lib.hid (by rw [HV.out]; rfl)
    go_wp2_with fail
    go_ret
    exact ⟨ret_bool HQ.out.symm, HB1.out⟩
  | true =>
    have HQ : Hid (Q = U) := Lib.hid (by rw [HV.out]; rfl)
    have HC := Lib.hid (HH.out (HPL.out rfl))
    clear HV HH HPL
    obtain ⟨y0, y1, y2, y3, y4, y5⟩ := hN1
    simp only [Nat.zero_add] at y1 y2 y3 y4 y5
    go_wp2_with fail
    refine (HC.out _ HB1.out).mono ?_
    rintro e w2 ⟨rfl, hb2⟩
    have HB2 := Lib.hid (HB1.out.trans (hb2.mono HB1.out.size))
    clear hb2 HC y0 y1 y2 y3 y4 y5
    go_wp2_with fail
    go_ret
    exact ⟨ret_bool HQ.out.symm, HB2.out⟩
end Go.Proofs.YtbhgmfddjnkglaaGreatDoor
