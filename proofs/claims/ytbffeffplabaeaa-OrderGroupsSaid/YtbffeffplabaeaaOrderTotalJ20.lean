/-
  Joined: OwA.
-/
import Derived.Test.YtbffeffplabaeaaOrderTotalJ19

/-
  What order's Rises answers.
-/
namespace Go.Proofs.Ytbffeffplabaeaa
open Go.RowKit Np Rw Vp Ov

set_option maxRecDepth 100000 in
set_option maxHeartbeats 2000000 in
theorem isSorted_any (v : Value) (ts : List (Tr Nd)) (w : World) (h : Keys w v ts) (hn : ts.length ≤ 1000) :
    Calls Try.prog 34 #[v, .func (.func 12) #[] #[]] w fun e w' => e = .returned (.bool (rise (cat ts) ts.length)) ∧ Below w.heap.size w w' := by
  have HH := Lib.hid h
  obtain ⟨A, c, hvl⟩ : ∃ (A : Option Addr) (c : Nat), v = .slice A ts.length c := by
    obtain ⟨vs, hl, ⟨A, c, hv, -⟩, -⟩ := h.vls
    rw [List.length_map] at hl
    exact ⟨A, c, by rw [hv, hl]⟩
  clear h
  subst hvl
  generalize hnn : ts.length = n at *
  have HN := Lib.hid hnn
  clear hnn
  go_enter Try.func34, Try.ntmps34
  go_wp2_with fail
  go_loopw [5] (fun iv wr => ∃ z : Int, -1 ≤ z ∧ z + 1 ≤ n ∧ iv = .int .i64 z ∧ Hid (∀ p : Nat, z ≤ p → p + 1 < n → cat ts p (p + 1) ≤ 0) ∧ Hid (Below w.heap.size w wr)) (fun iv _ => (intOf iv).toNat)
  case atStart => exact ⟨(n : Int) - 1, by omega, by omega, rfl, Lib.hid (fun p h1 h2 => by omega), Lib.hid (Below.refl _ _)⟩
  case round =>
    obtain ⟨z, hz1, hz2, rfl, HP, HB⟩ := hrel
    by_cases hgo : 0 < z
    · obtain ⟨m1, rfl⟩ : ∃ m1 : Nat, z = (m1 : Int) := ⟨z.toNat, by omega⟩
      obtain ⟨m, hmm⟩ : ∃ m : Nat, m + 1 = m1 := ⟨m1 - 1, by omega⟩
      have hm : m + 1 < n := by omega
      have hm1 : m1 < n := by omega
      have hm0 : m < n := by omega
      have hz0 : (0 : Int) < (m1 : Int) := by omega
      obtain ⟨g, o, c1, A1, n1, d1, hv, hg, h1, h2, -⟩ := HH.out.at (i := m1) (by rw [HN.out]; exact hm1)
      obtain ⟨g', o', c2, A2, n2, d2, hv', -, h3, h4, -⟩ := HH.out.at (i := m) (by rw [HN.out]; omega)
      rw [HN.out] at hv hv'
      injection hv with e1 e2 e3
      subst e1 e3
      injection hv' with e1 e4 e3
      injection e1 with e1
      injection e1 with e5 e6 e7
      subst e5 e6 e3
      have HC : Hid (∀ W, Below w.heap.size w W → Calls Try.prog 12 #[.slice A1 n1 d1, .slice A2 n2 d2] W fun e w' => e = .returned (.int .i64 (cat ts m1 m)) ∧ Below W.heap.size W w') := Lib.hid fun W hb => by
        have := ordCmp_any (.slice A1 n1 d1) (.slice A2 n2 d2) (ts[m1]'(by rw [HN.out]; exact hm1)) (ts[m]'(by rw [HN.out]; omega)) W (h2.below hb) (h4.below hb) (HH.out.val _ (List.getElem_mem _)) (HH.out.val _ (List.getElem_mem _)) (HH.out.len _ (List.getElem_mem _)) (HH.out.len _ (List.getElem_mem _))
        unfold cat
        rw [getD_at (by rw [HN.out]; exact hm1), getD_at (by rw [HN.out]; omega)]
        exact this
      have HNG : Hid (cat ts m (m + 1) = -cat ts m1 m) := Lib.hid (by rw [← hmm]; exact (cat_cp ts).neg _ _)
      have p1 := (HB.out.cell (p := ⟨g, o + m1, none⟩) hg).trans h1
      have p2 := (HB.out.cell (p := ⟨g, o + m, none⟩) hg).trans h3
      have eK : ∀ args (w : World), (callFunc 12 args).run Try.prog w = .ok (.enter 12 args) w := fun _ _ => rfl
      clear h1 h2 h3 h4 e2 e4 e7
      have hz3 : (m1 : Int) - 1 = (m : Int) := by omega
      have hw4 : IntKind.i64.wrap (m : Int) = (m : Int) := by rw [IntKind.wrap_i64]; omega
      have hw3 : IntKind.i64.wrap ((m1 : Int) - 1) = (m : Int) := by rw [IntKind.wrap_i64]; omega
      generalize hq : cat ts m1 m = q at *
      have HQ := Lib.hid hq
      clear hq
      have HMM := Lib.hid hmm
      clear hmm hz2 hm
      go_upto_region 4 with fail
      by_cases hq0 : q < 0
      · go_region_with (first | (go_at_call 12; refine (HC.out _ (HB.out.drew)).mono ?_; rintro e w1 ⟨rfl, hb1⟩))
        all_goals go_wp2_with fail
        all_goals go_ret
        all_goals
          have hR : rise (cat ts) n = false := by
            rw [← Bool.not_eq_true, rise_iff]
            intro h
            have := h m (by have := HMM.out; omega)
            have h2 := HNG.out
            omega
          exact ⟨ret_bool hR.symm, HB.out.trans (((Below.refl _ wr).drew.trans hb1).mono HB.out.size)⟩
      · go_region_with (first | (go_at_call 12; refine (HC.out _ (HB.out.drew)).mono ?_; rintro e w1 ⟨rfl, hb1⟩))
        all_goals go_wp2_with fail
        all_goals
          refine ⟨⟨(m : Int), by omega, by omega, rfl, Lib.hid (fun p h1 h2 => ?_), Lib.hid (HB.out.trans (((Below.refl _ wr).drew.trans hb1).mono HB.out.size))⟩, ?_⟩
          · by_cases hp : p = m
            · subst hp
              have h3 := HNG.out
              omega
            · exact HP.out p (by have := HMM.out; omega) h2
          · have := HMM.out
            simp [intOf]; omega
    · have hR : rise (cat ts) n = true := (rise_iff _ _).2 fun i hi => HP.out i (by omega) hi
      have HR := Lib.hid hR
      clear hR
      go_wp2_with fail
      go_ret
      exact ⟨ret_bool HR.out.symm, HB.out⟩
set_option maxRecDepth 100000 in
set_option maxHeartbeats 2000000 in
theorem rises_any (v : Value) (ts : List (Tr Nd)) (w : World) (h : Keys w v ts) (hn : ts.length ≤ 1000) :
    Calls Try.prog 14 #[v] w fun e w' => e = .returned (.bool (rise (cat ts) ts.length)) ∧ Below w.heap.size w w' := by
  have HS := Lib.hid (isSorted_any v ts w h hn)
  obtain ⟨A, c, hvl⟩ : ∃ (A : Option Addr) (c : Nat), v = .slice A ts.length c := by
    obtain ⟨vs, hl, ⟨A, c, hv, -⟩, -⟩ := h.vls
    rw [List.length_map] at hl
    exact ⟨A, c, by rw [hv, hl]⟩
  clear h
  subst hvl
  generalize hnn : ts.length = n at *
  have HN := Lib.hid hnn
  clear hnn
  go_enter Try.func14, Try.ntmps14
  go_wp2_with fail
  go_at_call 34
  refine HS.out.mono ?_
  rintro e w' ⟨rfl, hb⟩
  go_wp2_with fail
  go_ret
  exact ⟨rfl, hb⟩
end Go.Proofs.Ytbffeffplabaeaa
