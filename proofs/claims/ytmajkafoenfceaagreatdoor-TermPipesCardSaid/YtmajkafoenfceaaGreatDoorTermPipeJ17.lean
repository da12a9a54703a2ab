/-
  Joined: FrB3.
-/
import Derived.Test.YtmajkafoenfceaaGreatDoorTermPipeJ14

/-
  The document's own answers for filters: plain, of some kinds of terms (written by wip/tools/genfrb.py 3 I).
-/
namespace Go.Proofs.YtmajkafoenfceaaGreatDoor
open Go.RowKit Np Rw Vp Up Qp Pw Fw

set_option maxRecDepth 100000 in
set_option maxHeartbeats 4000000 in
theorem refPlain_I (op many n : Int) (name s : List UInt8) (c : Nd) (w : World) (hop : op = 16) (HPT : Hid (∀ W, Calls Tryz.prog 117 #[.string ⟨s.toArray⟩] W fun e w' => e = .returned (.bool (isPth s)) ∧ Below W.heap.size W w')) (HRV : Hid (∀ W m, W.heap.size = m → Calls Tryz.prog 44 #[.slice (some ⟨m, 0, none⟩) 1 1] (W.alloc (.cells #[.int .i64 c.kind, .int .i64 c.many, .string ⟨c.name.toArray⟩, .string ⟨c.s.toArray⟩, .bool c.neg, .int .i64 c.e] 35)) fun e w' => e = .returned (.bool (rightL [c])) ∧ Below W.heap.size W w')) :
    Calls Tryz.prog 68 #[tma ⟨op, many, name, s, n, c⟩] w (PlE w ⟨op, many, name, s, n, c⟩) := by
  have HX0 : Hid ((⟨op, many, name, s, n, c⟩ : Tm) ≠ (⟨op, many, name, s, n, c⟩ : Tm) → plainT ⟨op, many, name, s, n, c⟩ = false) := Lib.hid (fun h => plainT_bareR (by
    exact absurd rfl h))
  have HX1 : Hid (¬ (many = 0) → plainT ⟨op, many, name, s, n, c⟩ = false) := Lib.hid (fun h => by
    rcases hop with rfl <;> simp [plainT, manyOk, sOk, nOk, cOk, h])
  have HX2 : Hid (¬ (isPth s = true) → plainT ⟨op, many, name, s, n, c⟩ = false) := Lib.hid (fun h => by
    rcases hop with rfl <;> simp [plainT, manyOk, sOk, nOk, cOk, h])
  have HX3 : Hid (¬ (0 ≤ n) → plainT ⟨op, many, name, s, n, c⟩ = false) := Lib.hid (fun h => by
    rcases hop with rfl <;> simp [plainT, manyOk, sOk, nOk, cOk, h])
  have HX4 : Hid (¬ (n ≤ 5) → plainT ⟨op, many, name, s, n, c⟩ = false) := Lib.hid (fun h => by
    rcases hop with rfl <;> simp [plainT, manyOk, sOk, nOk, cOk, h])
  have HX5 : Hid (¬ (c.kind < 5) → plainT ⟨op, many, name, s, n, c⟩ = false) := Lib.hid (fun h => by
    rcases hop with rfl; exact Bool.eq_false_iff.2 (fun hp => h (plain16_kind (t := ⟨16, many, name, s, n, c⟩) rfl hp)))
  have HX6 : Hid (¬ (rightL [c] = true) → plainT ⟨op, many, name, s, n, c⟩ = false) := Lib.hid (fun h => by
    rcases hop with rfl <;> simp [plainT, manyOk, sOk, nOk, cOk, flatN, h])
  have HXT : Hid ((⟨op, many, name, s, n, c⟩ : Tm) = (⟨op, many, name, s, n, c⟩ : Tm) → many = 0 → isPth s = true → 0 ≤ n → n ≤ 5 → c.kind < 5 → rightL [c] = true → plainT ⟨op, many, name, s, n, c⟩ = true) := Lib.hid (fun h h1 h2 h3 h4 h5 h6 => by
    subst h1; rcases hop with rfl; simp [plainT, manyOk, sOk, nOk, cOk, flatN, h2, h3, h4, h6, cont_lt h5])
  have hq : ∀ W, (binOp .eql 37 (.agg #[.int .i64 op, .int .i64 many, .string ⟨name.toArray⟩, .string ⟨s.toArray⟩, .int .i64 n, .int .i64 c.kind, .int .i64 c.many, .string ⟨c.name.toArray⟩, .string ⟨c.s.toArray⟩, .bool c.neg, .int .i64 c.e]) (.agg #[.int .i64 op, .int .i64 many, .string ⟨name.toArray⟩, .string ⟨s.toArray⟩, .int .i64 n, .int .i64 c.kind, .int .i64 c.many, .string ⟨c.name.toArray⟩, .string ⟨c.s.toArray⟩, .bool c.neg, .int .i64 c.e])).run Tryz.prog W = .ok (.bool (decide ((⟨op, many, name, s, n, c⟩ : Tm) = (⟨op, many, name, s, n, c⟩ : Tm)))) W := fun W => eql_tm ⟨op, many, name, s, n, c⟩ ⟨op, many, name, s, n, c⟩ W
  have HT5 : Hid (∀ w5, Below ((w.alloc (.cells #[.int .i64 op, .int .i64 many, .string ⟨name.toArray⟩, .string ⟨s.toArray⟩, .int .i64 n, .int .i64 c.kind, .int .i64 c.many, .string ⟨c.name.toArray⟩, .string ⟨c.s.toArray⟩, .bool c.neg, .int .i64 c.e] 37)).alloc (.cells #[.int .i64 op, .int .i64 many, .string ⟨name.toArray⟩, .string ⟨s.toArray⟩, .int .i64 n, .int .i64 c.kind, .int .i64 c.many, .string ⟨c.name.toArray⟩, .string ⟨c.s.toArray⟩, .bool c.neg, .int .i64 c.e] 37)).heap.size ((w.alloc (.cells #[.int .i64 op, .int .i64 many, .string ⟨name.toArray⟩, .string ⟨s.toArray⟩, .int .i64 n, .int .i64 c.kind, .int .i64 c.many, .string ⟨c.name.toArray⟩, .string ⟨c.s.toArray⟩, .bool c.neg, .int .i64 c.e] 37)).alloc (.cells #[.int .i64 op, .int .i64 many, .string ⟨name.toArray⟩, .string ⟨s.toArray⟩, .int .i64 n, .int .i64 c.kind, .int .i64 c.many, .string ⟨c.name.toArray⟩, .string ⟨c.s.toArray⟩, .bool c.neg, .int .i64 c.e] 37)) w5 → Tm11 w5 w.heap.size 0 ⟨op, many, name, s, n, c⟩ ∧ Below w.heap.size w w5) := Lib.hid (fun w5 hb => ⟨((tmr_alloc w ⟨op, many, name, s, n, c⟩).below (by simp) ((Below.refl _ _).alloc (Nat.le_refl _) _)).below (by simp; omega) hb, (((Below.refl _ _).alloc (Nat.le_refl _) _).alloc (by simp) _).trans (hb.mono (by simp; omega))⟩)
  unfold PlE
  generalize plainT ⟨op, many, name, s, n, c⟩ = R at *
  by_cases hd : (⟨op, many, name, s, n, c⟩ : Tm) = (⟨op, many, name, s, n, c⟩ : Tm)
  · rw [decide_eq_true hd] at hq
    by_cases h1 : many = 0
    · skip
      by_cases h2 : isPth s = true
      · skip
        have HU := Lib.hid h2
        by_cases h3 : 0 ≤ n
        · skip
          by_cases h4 : n ≤ 5
          · skip
            by_cases h5 : c.kind < 5
            · skip
              by_cases h6 : rightL [c] = true
              · skip
                have HV := Lib.hid h6
                have HR := Lib.hid (HXT.out hd h1 h2 h3 h4 h5 h6)
                clear hd h2 h6 HX0 HX1 HX2 HX3 HX4 HX5 HX6 HXT
                subst h1
                rcases hop with rfl
                all_goals go_enter Tryz.func68, Tryz.ntmps68
                all_goals go_wp2_with (first | (go_at_call 117; refine (HPT.out _).mono ?_; rintro e w5 ⟨rfl, hb5⟩; rw [HU.out]; obtain ⟨ht5, hb6⟩ := HT5.out _ hb5; have HB5 := Lib.hid hb6; obtain ⟨q0, q1, q2, q3, q4, q5, q6, q7, q8, q9, q10⟩ := ht5; simp only [Nat.zero_add] at q1 q2 q3 q4 q5 q6 q7 q8 q9 q10; clear hb5 hb6) | (go_at_call 44; refine (HRV.out _ _ (by simp)).mono ?_; rintro e w6 ⟨rfl, hb6⟩; rw [HV.out]; have HB6 := Lib.hid hb6; clear hb6))
                all_goals go_ret
                all_goals exact ⟨ret_bool HR.out.symm, by (first | exact HB5.out.trans (HB6.out.mono HB5.out.size) | exact HB5.out | exact (((Below.refl _ _).alloc (Nat.le_refl _) _).alloc (by simp) _) | exact ((((Below.refl _ _).alloc (Nat.le_refl _) _).alloc (by simp) _).setCell (by simp) _) | exact (((((Below.refl _ _).alloc (Nat.le_refl _) _).alloc (by simp) _).setCell (by simp) _).setCell (by simp) _))⟩
              · have HR := Lib.hid (HX6.out h6)
                have HV := Lib.hid (eq_false_of_ne_true h6)
                clear hd h2 h6 HX0 HX1 HX2 HX3 HX4 HX5 HX6 HXT
                subst h1
                rcases hop with rfl
                all_goals go_enter Tryz.func68, Tryz.ntmps68
                all_goals go_wp2_with (first | (go_at_call 117; refine (HPT.out _).mono ?_; rintro e w5 ⟨rfl, hb5⟩; rw [HU.out]; obtain ⟨ht5, hb6⟩ := HT5.out _ hb5; have HB5 := Lib.hid hb6; obtain ⟨q0, q1, q2, q3, q4, q5, q6, q7, q8, q9, q10⟩ := ht5; simp only [Nat.zero_add] at q1 q2 q3 q4 q5 q6 q7 q8 q9 q10; clear hb5 hb6) | (go_at_call 44; refine (HRV.out _ _ (by simp)).mono ?_; rintro e w6 ⟨rfl, hb6⟩; rw [HV.out]; have HB6 := Lib.hid hb6; clear hb6))
                all_goals go_ret
                all_goals exact ⟨ret_bool HR.out.symm, by (first | exact HB5.out.trans (HB6.out.mono HB5.out.size) | exact HB5.out | exact (((Below.refl _ _).alloc (Nat.le_refl _) _).alloc (by simp) _) | exact ((((Below.refl _ _).alloc (Nat.le_refl _) _).alloc (by simp) _).setCell (by simp) _) | exact (((((Below.refl _ _).alloc (Nat.le_refl _) _).alloc (by simp) _).setCell (by simp) _).setCell (by simp) _))⟩
            · have HR := Lib.hid (HX5.out h5)
              clear hd h2 HX0 HX1 HX2 HX3 HX4 HX5 HX6 HXT
              subst h1
              rcases hop with rfl
              all_goals go_enter Tryz.func68, Tryz.ntmps68
              all_goals go_wp2_with (first | (go_at_call 117; refine (HPT.out _).mono ?_; rintro e w5 ⟨rfl, hb5⟩; rw [HU.out]; obtain ⟨ht5, hb6⟩ := HT5.out _ hb5; have HB5 := Lib.hid hb6; obtain ⟨q0, q1, q2, q3, q4, q5, q6, q7, q8, q9, q10⟩ := ht5; simp only [Nat.zero_add] at q1 q2 q3 q4 q5 q6 q7 q8 q9 q10; clear hb5 hb6))
              all_goals go_ret
              all_goals exact ⟨ret_bool HR.out.symm, by (first | exact HB5.out.trans (HB6.out.mono HB5.out.size) | exact HB5.out | exact (((Below.refl _ _).alloc (Nat.le_refl _) _).alloc (by simp) _) | exact ((((Below.refl _ _).alloc (Nat.le_refl _) _).alloc (by simp) _).setCell (by simp) _) | exact (((((Below.refl _ _).alloc (Nat.le_refl _) _).alloc (by simp) _).setCell (by simp) _).setCell (by simp) _))⟩
          · have HR := Lib.hid (HX4.out h4)
            clear hd h2 HX0 HX1 HX2 HX3 HX4 HX5 HX6 HXT
            subst h1
            rcases hop with rfl
            all_goals go_enter Tryz.func68, Tryz.ntmps68
            all_goals go_wp2_with (first | (go_at_call 117; refine (HPT.out _).mono ?_; rintro e w5 ⟨rfl, hb5⟩; rw [HU.out]; obtain ⟨ht5, hb6⟩ := HT5.out _ hb5; have HB5 := Lib.hid hb6; obtain ⟨q0, q1, q2, q3, q4, q5, q6, q7, q8, q9, q10⟩ := ht5; simp only [Nat.zero_add] at q1 q2 q3 q4 q5 q6 q7 q8 q9 q10; clear hb5 hb6))
            all_goals go_ret
            all_goals exact ⟨ret_bool HR.out.symm, by (first | exact HB5.out.trans (HB6.out.mono HB5.out.size) | exact HB5.out | exact (((Below.refl _ _).alloc (Nat.le_refl _) _).alloc (by simp) _) | exact ((((Below.refl _ _).alloc (Nat.le_refl _) _).alloc (by simp) _).setCell (by simp) _) | exact (((((Below.refl _ _).alloc (Nat.le_refl _) _).alloc (by simp) _).setCell (by simp) _).setCell (by simp) _))⟩
        · have HR := Lib.hid (HX3.out h3)
          clear hd h2 HX0 HX1 HX2 HX3 HX4 HX5 HX6 HXT
          subst h1
          rcases hop with rfl
          all_goals go_enter Tryz.func68, Tryz.ntmps68
          all_goals go_wp2_with (first | (go_at_call 117; refine (HPT.out _).mono ?_; rintro e w5 ⟨rfl, hb5⟩; rw [HU.out]; obtain ⟨ht5, hb6⟩ := HT5.out _ hb5; have HB5 := Lib.hid hb6; obtain ⟨q0, q1, q2, q3, q4, q5, q6, q7, q8, q9, q10⟩ := ht5; simp only [Nat.zero_add] at q1 q2 q3 q4 q5 q6 q7 q8 q9 q10; clear hb5 hb6))
          all_goals go_ret
          all_goals exact ⟨ret_bool HR.out.symm, by (first | exact HB5.out.trans (HB6.out.mono HB5.out.size) | exact HB5.out | exact (((Below.refl _ _).alloc (Nat.le_refl _) _).alloc (by simp) _) | exact ((((Below.refl _ _).alloc (Nat.le_refl _) _).alloc (by simp) _).setCell (by simp) _) | exact (((((Below.refl _ _).alloc (Nat.le_refl _) _).alloc (by simp) _).setCell (by simp) _).setCell (by simp) _))⟩
      · have HR := Lib.hid (HX2.out h2)
        have HU := Lib.hid (eq_false_of_ne_true h2)
        clear hd h2 HX0 HX1 HX2 HX3 HX4 HX5 HX6 HXT
        subst h1
        rcases hop with rfl
        all_goals go_enter Tryz.func68, Tryz.ntmps68
        all_goals go_wp2_with (first | (go_at_call 117; refine (HPT.out _).mono ?_; rintro e w5 ⟨rfl, hb5⟩; rw [HU.out]; obtain ⟨ht5, hb6⟩ := HT5.out _ hb5; have HB5 := Lib.hid hb6; obtain ⟨q0, q1, q2, q3, q4, q5, q6, q7, q8, q9, q10⟩ := ht5; simp only [Nat.zero_add] at q1 q2 q3 q4 q5 q6 q7 q8 q9 q10; clear hb5 hb6))
        all_goals go_ret
        all_goals exact ⟨ret_bool HR.out.symm, by (first | exact HB5.out.trans (HB6.out.mono HB5.out.size) | exact HB5.out | exact (((Below.refl _ _).alloc (Nat.le_refl _) _).alloc (by simp) _) | exact ((((Below.refl _ _).alloc (Nat.le_refl _) _).alloc (by simp) _).setCell (by simp) _) | exact (((((Below.refl _ _).alloc (Nat.le_refl _) _).alloc (by simp) _).setCell (by simp) _).setCell (by simp) _))⟩
    · have HR := Lib.hid (HX1.out h1)
      have e1 : (many == 0) = false := by simpa using h1
      clear hd h1 HX0 HX1 HX2 HX3 HX4 HX5 HX6 HXT
      rcases hop with rfl
      all_goals go_enter Tryz.func68, Tryz.ntmps68
      all_goals go_wp2_with fail
      all_goals go_ret
      all_goals exact ⟨ret_bool HR.out.symm, by (first | exact HB5.out.trans (HB6.out.mono HB5.out.size) | exact HB5.out | exact (((Below.refl _ _).alloc (Nat.le_refl _) _).alloc (by simp) _) | exact ((((Below.refl _ _).alloc (Nat.le_refl _) _).alloc (by simp) _).setCell (by simp) _) | exact (((((Below.refl _ _).alloc (Nat.le_refl _) _).alloc (by simp) _).setCell (by simp) _).setCell (by simp) _))⟩
  · rw [decide_eq_false hd] at hq
    have HR := Lib.hid (HX0.out hd)
    clear hd HX0 HX1 HX2 HX3 HX4 HX5 HX6 HXT
    rcases hop with rfl
    all_goals go_enter Tryz.func68, Tryz.ntmps68
    all_goals go_wp2_with fail
    all_goals go_ret
    all_goals exact ⟨ret_bool HR.out.symm, by (first | exact HB5.out.trans (HB6.out.mono HB5.out.size) | exact HB5.out | exact (((Below.refl _ _).alloc (Nat.le_refl _) _).alloc (by simp) _) | exact ((((Below.refl _ _).alloc (Nat.le_refl _) _).alloc (by simp) _).setCell (by simp) _) | exact (((((Below.refl _ _).alloc (Nat.le_refl _) _).alloc (by simp) _).setCell (by simp) _).setCell (by simp) _))⟩
end Go.Proofs.YtmajkafoenfceaaGreatDoor
