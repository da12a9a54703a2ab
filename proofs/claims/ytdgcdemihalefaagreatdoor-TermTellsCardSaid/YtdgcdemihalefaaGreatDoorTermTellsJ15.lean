/-
  Joined: FrB3, TtD, TtDa, TtDb.
-/
import Derived.Test.YtdgcdemihalefaaGreatDoorTermTellsJ11
import Derived.Test.YtdgcdemihalefaaGreatDoorTermTellsJ21
import Derived.Test.YtdgcdemihalefaaGreatDoorTermTellsJ4
import Derived.Test.YtdgcdemihalefaaGreatDoorTermTellsJ7
import Derived.Test.YtdgcdemihalefaaGreatDoorTermTellsJ1
import Derived.Test.YtdgcdemihalefaaGreatDoorTermTellsJ10
namespace Go.Proofs.YtdgcdemihalefaaGreatDoor
open Go.RowKit Np Rw Vp Up Qp Pw Fw
set_option maxRecDepth 100000 in
set_option maxHeartbeats 4000000 in
theorem refPlain_I (op many n : Int) (name s : List UInt8) (c : Nd) (w : World) (hop : op = 16) (HPT : Hid (∀ W, Calls Tryz.prog 86 #[.string ⟨s.toArray⟩] W fun e w' => e = .returned (.bool (isPth s)) ∧ Below W.heap.size W w')) (HRV : Hid (∀ W m, W.heap.size = m → Calls Tryz.prog 42 #[.slice (some ⟨m, 0, none⟩) 1 1] (W.alloc (.cells #[.int .i64 c.kind, .int .i64 c.many, .string ⟨c.name.toArray⟩, .string ⟨c.s.toArray⟩, .bool c.neg, .int .i64 c.e] 43)) fun e w' => e = .returned (.bool (rightL [c])) ∧ Below W.heap.size W w')) :
    Calls Tryz.prog 52 #[tma ⟨op, many, name, s, n, c⟩] w (PlE w ⟨op, many, name, s, n, c⟩) := by
  have HX0 : Hid ((⟨op, many, name, s, n, c⟩ : Tm) ≠ (⟨op, many, name, s, n, c⟩ : Tm) → plainT ⟨op, many, name, s, n, c⟩ = false) := Lib.hid (fun h => plainT_bareR (by
    exact absurd rfl h))
  have HX1 : Hid (¬ (many = 0) → plainT ⟨op, many, name, s, n, c⟩ = false) := Lib.hid (fun h => by
    rcases hop with rfl <;> simp [plainT, manyOk, sOk, nOk, cOk, h])
  have HX2 : Hid (¬ (isPth s = true) → plainT ⟨op, many, name, s, n, c⟩ = false) := Lib.hid (fun h => by
    rcases hop with rfl <;> simp [plainT, manyOk, sOk, nOk, cOk, h])
  have HX3 : Hid (¬ (0 ≤ n) → plainT ⟨op, many, name, s, n, c⟩ = false) := Lib.hid (fun h => by
    rcases hop with rfl <;> simp [plainT, manyOk, sOk, nOk, cOk, h])
  have HX4 : Hid (¬ (n ≤ 5) → plainT ⟨op, many, name, s, n, c⟩ = false) := Lib.hid (fun h => by
    rcases hop with rfl <;> simp [plainT, manyOk, sOk, nOk, cOk, h])
  have HX5 : Hid (¬ (c.kind < 5) → plainT ⟨op, many, name, s, n, c⟩ = false) := Lib.hid (fun h => by
    rcases hop with rfl; exact Bool.eq_false_iff.2 (fun hp => h (plain16_kind (t := ⟨16, many, name, s, n, c⟩) rfl hp)))
  have HX6 : Hid (¬ (rightL [c] = true) → plainT ⟨op, many, name, s, n, c⟩ = false) := Lib.hid (fun h => by
    rcases hop with rfl <;> simp [plainT, manyOk, sOk, nOk, cOk, flatN, h])
  have HXT : Hid ((⟨op, many, name, s, n, c⟩ : Tm) = (⟨op, many, name, s, n, c⟩ : Tm) → many = 0 → isPth s = true → 0 ≤ n → n ≤ 5 → c.kind < 5 → rightL [c] = true → plainT ⟨op, many, name, s, n, c⟩ = true) := Lib.hid (fun h h1 h2 h3 h4 h5 h6 => by
    subst h1; rcases hop with rfl; simp [plainT, manyOk, sOk, nOk, cOk, flatN, h2, h3, h4, h6, cont_lt h5])
  have hq : ∀ W, (binOp .eql 47 (.agg #[.int .i64 op, .int .i64 many, .string ⟨name.toArray⟩, .string ⟨s.toArray⟩, .int .i64 n, .int .i64 c.kind, .int .i64 c.many, .string ⟨c.name.toArray⟩, .string ⟨c.s.toArray⟩, .bool c.neg, .int .i64 c.e]) (.agg #[.int .i64 op, .int .i64 many, .string ⟨name.toArray⟩, .string ⟨s.toArray⟩, .int .i64 n, .int .i64 c.kind, .int .i64 c.many, .string ⟨c.name.toArray⟩, .string ⟨c.s.toArray⟩, .bool c.neg, .int .i64 c.e])).run Tryz.prog W = .ok (.bool (decide ((⟨op, many, name, s, n, c⟩ : Tm) = (⟨op, many, name, s, n, c⟩ : Tm)))) W := fun W => eql_tm ⟨op, many, name, s, n, c⟩ ⟨op, many, name, s, n, c⟩ W
  have HT5 : Hid (∀ w5, Below ((w.alloc (.cells #[.int .i64 op, .int .i64 many, .string ⟨name.toArray⟩, .string ⟨s.toArray⟩, .int .i64 n, .int .i64 c.kind, .int .i64 c.many, .string ⟨c.name.toArray⟩, .string ⟨c.s.toArray⟩, .bool c.neg, .int .i64 c.e] 47)).alloc (.cells #[.int .i64 op, .int .i64 many, .string ⟨name.toArray⟩, .string ⟨s.toArray⟩, .int .i64 n, .int .i64 c.kind, .int .i64 c.many, .string ⟨c.name.toArray⟩, .string ⟨c.s.toArray⟩, .bool c.neg, .int .i64 c.e] 47)).heap.size ((w.alloc (.cells #[.int .i64 op, .int .i64 many, .string ⟨name.toArray⟩, .string ⟨s.toArray⟩, .int .i64 n, .int .i64 c.kind, .int .i64 c.many, .string ⟨c.name.toArray⟩, .string ⟨c.s.toArray⟩, .bool c.neg, .int .i64 c.e] 47)).alloc (.cells #[.int .i64 op, .int .i64 many, .string ⟨name.toArray⟩, .string ⟨s.toArray⟩, .int .i64 n, .int .i64 c.kind, .int .i64 c.many, .string ⟨c.name.toArray⟩, .string ⟨c.s.toArray⟩, .bool c.neg, .int .i64 c.e] 47)) w5 → Tm11 w5 w.heap.size 0 ⟨op, many, name, s, n, c⟩ ∧ Below w.heap.size w w5) := Lib.hid (fun w5 hb => ⟨((tmr_alloc w ⟨op, many, name, s, n, c⟩).below (by simp) ((Below.refl _ _).alloc (Nat.le_refl _) _)).below (by simp; omega) hb, (((Below.refl _ _).alloc (Nat.le_refl _) _).alloc (by simp) _).trans (hb.mono (by simp; omega))⟩)
  unfold PlE
  generalize plainT ⟨op, many, name, s, n, c⟩ = R at *
  by_cases hd : (⟨op, many, name, s, n, c⟩ : Tm) = (⟨op, many, name, s, n, c⟩ : Tm)
  · rw [decide_eq_true hd] at hq
    by_cases h1 : many = 0
    · skip
      by_cases h2 : isPth s = true
      · skip
        have HU := Lib.hid h2
        by_cases h3 : 0 ≤ n
        · skip
          by_cases h4 : n ≤ 5
          · skip
            by_cases h5 : c.kind < 5
            · skip
              by_cases h6 : rightL [c] = true
              · skip
                have HV := Lib.hid h6
                have HR := Lib.hid (HXT.out hd h1 h2 h3 h4 h5 h6)
                clear hd h2 h6 HX0 HX1 HX2 HX3 HX4 HX5 HX6 HXT
                subst h1
                rcases hop with rfl
                all_goals go_enter Tryz.func52, Tryz.ntmps52
                all_goals go_wp2_with (first | (go_at_call 86; refine (HPT.out _).mono ?_; rintro e w5 ⟨rfl, hb5⟩; rw [HU.out]; obtain ⟨ht5, hb6⟩ := HT5.out _ hb5; have HB5 := Lib.hid hb6; obtain ⟨q0, q1, q2, q3, q4, q5, q6, q7, q8, q9, q10⟩ := ht5; simp only [Nat.zero_add] at q1 q2 q3 q4 q5 q6 q7 q8 q9 q10; clear hb5 hb6) | (go_at_call 42; refine (HRV.out _ _ (by simp)).mono ?_; rintro e w6 ⟨rfl, hb6⟩; rw [HV.out]; have HB6 := Lib.hid hb6; clear hb6))
                all_goals go_ret
                all_goals exact ⟨ret_bool HR.out.symm, by (first | exact HB5.out.trans (HB6.out.mono HB5.out.size) | exact HB5.out | exact (((Below.refl _ _).alloc (Nat.le_refl _) _).alloc (by simp) _) | exact ((((Below.refl _ _).alloc (Nat.le_refl _) _).alloc (by simp) _).setCell (by simp) _) | exact (((((Below.refl _ _).alloc (Nat.le_refl _) _).alloc (by simp) _).setCell (by simp) _).setCell (by simp) _))⟩
              · have HR := Lib.hid (HX6.out h6)
                have HV := Lib.hid (eq_false_of_ne_true h6)
                clear hd h2 h6 HX0 HX1 HX2 HX3 HX4 HX5 HX6 HXT
                subst h1
                rcases hop with rfl
                all_goals go_enter Tryz.func52, Tryz.ntmps52
                all_goals go_wp2_with (first | (go_at_call 86; refine (HPT.out _).mono ?_; rintro e w5 ⟨rfl, hb5⟩; rw [HU.out]; obtain ⟨ht5, hb6⟩ := HT5.out _ hb5; have HB5 := Lib.hid hb6; obtain ⟨q0, q1, q2, q3, q4, q5, q6, q7, q8, q9, q10⟩ := ht5; simp only [Nat.zero_add] at q1 q2 q3 q4 q5 q6 q7 q8 q9 q10; clear hb5 hb6) | (go_at_call 42; refine (HRV.out _ _ (by simp)).mono ?_; rintro e w6 ⟨rfl, hb6⟩; rw [HV.out]; have HB6 := Lib.hid hb6; clear hb6))
                all_goals go_ret
                all_goals exact ⟨ret_bool HR.out.symm, by (first | exact HB5.out.trans (HB6.out.mono HB5.out.size) | exact HB5.out | exact (((Below.refl _ _).alloc (Nat.le_refl _) _).alloc (by simp) _) | exact ((((Below.refl _ _).alloc (Nat.le_refl _) _).alloc (by simp) _).setCell (by simp) _) | exact (((((Below.refl _ _).alloc (Nat.le_refl _) _).alloc (by simp) _).setCell (by simp) _).setCell (by simp) _))⟩
            · have HR := Lib.hid (HX5.out h5)
              clear hd h2 HX0 HX1 HX2 HX3 HX4 HX5 HX6 HXT
              subst h1
              rcases hop with rfl
              all_goals go_enter Tryz.func52, Tryz.ntmps52
              all_goals go_wp2_with (first | (go_at_call 86; refine (HPT.out _).mono ?_; rintro e w5 ⟨rfl, hb5⟩; rw [HU.out]; obtain ⟨ht5, hb6⟩ := HT5.out _ hb5; have HB5 := Lib.hid hb6; obtain ⟨q0, q1, q2, q3, q4, q5, q6, q7, q8, q9, q10⟩ := ht5; simp only [Nat.zero_add] at q1 q2 q3 q4 q5 q6 q7 q8 q9 q10; clear hb5 hb6))
              all_goals go_ret
              all_goals exact ⟨ret_bool HR.out.symm, by (first | exact HB5.out.trans (HB6.out.mono HB5.out.size) | exact HB5.out | exact (((Below.refl _ _).alloc (Nat.le_refl _) _).alloc (by simp) _) | exact ((((Below.refl _ _).alloc (Nat.le_refl _) _).alloc (by simp) _).setCell (by simp) _) | exact (((((Below.refl _ _).alloc (Nat.le_refl _) _).alloc (by simp) _).setCell (by simp) _).setCell (by simp) _))⟩
          · have HR := Lib.hid (HX4.out h4)
            clear hd h2 HX0 HX1 HX2 HX3 HX4 HX5 HX6 HXT
            subst h1
            rcases hop with rfl
            all_goals go_enter Tryz.func52, Tryz.ntmps52
            all_goals go_wp2_with (first | (go_at_call 86; refine (HPT.out _).mono ?_; rintro e w5 ⟨rfl, hb5⟩; rw [HU.out]; obtain ⟨ht5, hb6⟩ := HT5.out _ hb5; have HB5 := Lib.hid hb6; obtain ⟨q0, q1, q2, q3, q4, q5, q6, q7, q8, q9, q10⟩ := ht5; simp only [Nat.zero_add] at q1 q2 q3 q4 q5 q6 q7 q8 q9 q10; clear hb5 hb6))
            all_goals go_ret
            all_goals exact ⟨ret_bool HR.out.symm, by (first | exact HB5.out.trans (HB6.out.mono HB5.out.size) | exact HB5.out | exact (((Below.refl _ _).alloc (Nat.le_refl _) _).alloc (by simp) _) | exact ((((Below.refl _ _).alloc (Nat.le_refl _) _).alloc (by simp) _).setCell (by simp) _) | exact (((((Below.refl _ _).alloc (Nat.le_refl _) _).alloc (by simp) _).setCell (by simp) _).setCell (by simp) _))⟩
        · have HR := Lib.hid (HX3.out h3)
          clear hd h2 HX0 HX1 HX2 HX3 HX4 HX5 HX6 HXT
          subst h1
          rcases hop with rfl
          all_goals go_enter Tryz.func52, Tryz.ntmps52
          all_goals go_wp2_with (first | (go_at_call 86; refine (HPT.out _).mono ?_; rintro e w5 ⟨rfl, hb5⟩; rw [HU.out]; obtain ⟨ht5, hb6⟩ := HT5.out _ hb5; have HB5 := Lib.hid hb6; obtain ⟨q0, q1, q2, q3, q4, q5, q6, q7, q8, q9, q10⟩ := ht5; simp only [Nat.zero_add] at q1 q2 q3 q4 q5 q6 q7 q8 q9 q10; clear hb5 hb6))
          all_goals go_ret
          all_goals exact ⟨ret_bool HR.out.symm, by (first | exact HB5.out.trans (HB6.out.mono HB5.out.size) | exact HB5.out | exact (((Below.refl _ _).alloc (Nat.le_refl _) _).alloc (by simp) _) | exact ((((Below.refl _ _).alloc (Nat.le_refl _) _).alloc (by simp) _).setCell (by simp) _) | exact (((((Below.refl _ _).alloc (Nat.le_refl _) _).alloc (by simp) _).setCell (by simp) _).setCell (by simp) _))⟩
      · have HR := Lib.hid (HX2.out h2)
        have HU := Lib.hid (eq_false_of_ne_true h2)
        clear hd h2 HX0 HX1 HX2 HX3 HX4 HX5 HX6 HXT
        subst h1
        rcases hop with rfl
        all_goals go_enter Tryz.func52, Tryz.ntmps52
        all_goals go_wp2_with (first | (go_at_call 86; refine (HPT.out _).mono ?_; rintro e w5 ⟨rfl, hb5⟩; rw [HU.out]; obtain ⟨ht5, hb6⟩ := HT5.out _ hb5; have HB5 := Lib.hid hb6; obtain ⟨q0, q1, q2, q3, q4, q5, q6, q7, q8, q9, q10⟩ := ht5; simp only [Nat.zero_add] at q1 q2 q3 q4 q5 q6 q7 q8 q9 q10; clear hb5 hb6))
        all_goals go_ret
        all_goals exact ⟨ret_bool HR.out.symm, by (first | exact HB5.out.trans (HB6.out.mono HB5.out.size) | exact HB5.out | exact (((Below.refl _ _).alloc (Nat.le_refl _) _).alloc (by simp) _) | exact ((((Below.refl _ _).alloc (Nat.le_refl _) _).alloc (by simp) _).setCell (by simp) _) | exact (((((Below.refl _ _).alloc (Nat.le_refl _) _).alloc (by simp) _).setCell (by simp) _).setCell (by simp) _))⟩
    · have HR := Lib.hid (HX1.out h1)
      have e1 : (many == 0) = false := by simpa using h1
      clear hd h1 HX0 HX1 HX2 HX3 HX4 HX5 HX6 HXT
      rcases hop with rfl
      all_goals go_enter Tryz.func52, Tryz.ntmps52
      all_goals go_wp2_with fail
      all_goals go_ret
      all_goals exact ⟨ret_bool HR.out.symm, by (first | exact HB5.out.trans (HB6.out.mono HB5.out.size) | exact HB5.out | exact (((Below.refl _ _).alloc (Nat.le_refl _) _).alloc (by simp) _) | exact ((((Below.refl _ _).alloc (Nat.le_refl _) _).alloc (by simp) _).setCell (by simp) _) | exact (((((Below.refl _ _).alloc (Nat.le_refl _) _).alloc (by simp) _).setCell (by simp) _).setCell (by simp) _))⟩
  · rw [decide_eq_false hd] at hq
    have HR := Lib.hid (HX0.out hd)
    clear hd HX0 HX1 HX2 HX3 HX4 HX5 HX6 HXT
    rcases hop with rfl
    all_goals go_enter Tryz.func52, Tryz.ntmps52
    all_goals go_wp2_with fail
    all_goals go_ret
    all_goals exact ⟨ret_bool HR.out.symm, by (first | exact HB5.out.trans (HB6.out.mono HB5.out.size) | exact HB5.out | exact (((Below.refl _ _).alloc (Nat.le_refl _) _).alloc (by simp) _) | exact ((((Below.refl _ _).alloc (Nat.le_refl _) _).alloc (by simp) _).setCell (by simp) _) | exact (((((Below.refl _ _).alloc (Nat.le_refl _) _).alloc (by simp) _).setCell (by simp) _).setCell (by simp) _))⟩
end Go.Proofs.YtdgcdemihalefaaGreatDoor
namespace Go.Proofs.YtdgcdemihalefaaGreatDoor
open Go.RowKit Np Rw Vp Up Qp Tp Pw Fw
theorem constT_sc {c : Nd} (h : flatN c = true) : constT c = scT c ∧ plainN c = true ∧ c.name = [] ∧ c.kind ≠ 5 ∧ c.kind ≠ 6 := by
  unfold flatN at h
  rw [Bool.and_eq_true] at h
  have hv := leaf_of h.1
  have hk : c.kind ≠ 5 ∧ c.kind ≠ 6 := by have := h.2; unfold cont at this; simp at this; omega
  refine ⟨?_, ?_, hv.nm, hk.1, hk.2⟩
  · unfold constT
    rw [prT_mk, if_neg hk.1, if_neg hk.2]
  · have := hv.rt
    rw [rightT_mk, Bool.and_eq_true] at this
    exact this.1
set_option maxRecDepth 100000 in
set_option maxHeartbeats 8000000 in
theorem refText_0 (t : Tr Tm) (ht : SxT t) (hop : t.nd.op = 0) (v : Value) (w : World) (hv : Tms w v (flat t)) :
    Calls Tryz.prog 14 #[v] w fun e w' => e = .returned (.string ⟨(txF t).toArray⟩) ∧ Below w.heap.size w w' := by
  have hpos := flat_pos t
  have hl30 := ht.len
  have HF : Hid (ByteArray.mk #[46] = ⟨(txF t).toArray⟩) := Lib.hid (by rw [txF_leaf (ks_none ht (by omega))]; unfold aheadT behindT; rw [hop]; rfl)
  obtain ⟨g, o, c, rfl, hc, hcm, hg, hx⟩ := hv.opened (flat_pos t)
  have htm := (hx 0 t.nd (by rw [flat_eq]; rfl)).tm
  rw [Nat.zero_mul, Nat.add_zero] at htm
  obtain ⟨y0, y1, y2, y3, y4, y5, y6, y7, y8, y9, y10⟩ := htm
  rw [hop] at y0
  clear hx hv ht hl30
  generalize (flat t).length = m at *
  generalize ByteArray.mk (txF t).toArray = R at *
  generalize t.nd = d at *
  go_enter Tryz.func14, Tryz.ntmps14
  go_wp2_with fail
  go_ret
  exact ⟨ret_str HF.out, (Below.refl _ _).alloc (Nat.le_refl _) _⟩
set_option maxRecDepth 100000 in
set_option maxHeartbeats 8000000 in
theorem refText_10 (t : Tr Tm) (ht : SxT t) (hop : t.nd.op = 10) (v : Value) (w : World) (hv : Tms w v (flat t)) :
    Calls Tryz.prog 14 #[v] w fun e w' => e = .returned (.string ⟨(txF t).toArray⟩) ∧ Below w.heap.size w w' := by
  have hpos := flat_pos t
  have hl30 := ht.len
  have HF : Hid (ByteArray.mk #[116, 111, 95, 101, 110, 116, 114, 105, 101, 115] = ⟨(txF t).toArray⟩) := Lib.hid (by rw [txF_leaf (ks_none ht (by omega))]; unfold aheadT behindT; rw [hop]; rfl)
  obtain ⟨g, o, c, rfl, hc, hcm, hg, hx⟩ := hv.opened (flat_pos t)
  have htm := (hx 0 t.nd (by rw [flat_eq]; rfl)).tm
  rw [Nat.zero_mul, Nat.add_zero] at htm
  obtain ⟨y0, y1, y2, y3, y4, y5, y6, y7, y8, y9, y10⟩ := htm
  rw [hop] at y0
  clear hx hv ht hl30
  generalize (flat t).length = m at *
  generalize ByteArray.mk (txF t).toArray = R at *
  generalize t.nd = d at *
  go_enter Tryz.func14, Tryz.ntmps14
  go_wp2_with fail
  go_ret
  exact ⟨ret_str HF.out, (Below.refl _ _).alloc (Nat.le_refl _) _⟩
set_option maxRecDepth 100000 in
set_option maxHeartbeats 8000000 in
theorem refText_11 (t : Tr Tm) (ht : SxT t) (hop : t.nd.op = 11) (v : Value) (w : World) (hv : Tms w v (flat t)) :
    Calls Tryz.prog 14 #[v] w fun e w' => e = .returned (.string ⟨(txF t).toArray⟩) ∧ Below w.heap.size w w' := by
  have hpos := flat_pos t
  have hl30 := ht.len
  have HF : Hid (ByteArray.mk #[102, 114, 111, 109, 95, 101, 110, 116, 114, 105, 101, 115] = ⟨(txF t).toArray⟩) := Lib.hid (by rw [txF_leaf (ks_none ht (by omega))]; unfold aheadT behindT; rw [hop]; rfl)
  obtain ⟨g, o, c, rfl, hc, hcm, hg, hx⟩ := hv.opened (flat_pos t)
  have htm := (hx 0 t.nd (by rw [flat_eq]; rfl)).tm
  rw [Nat.zero_mul, Nat.add_zero] at htm
  obtain ⟨y0, y1, y2, y3, y4, y5, y6, y7, y8, y9, y10⟩ := htm
  rw [hop] at y0
  clear hx hv ht hl30
  generalize (flat t).length = m at *
  generalize ByteArray.mk (txF t).toArray = R at *
  generalize t.nd = d at *
  go_enter Tryz.func14, Tryz.ntmps14
  go_wp2_with fail
  go_ret
  exact ⟨ret_str HF.out, (Below.refl _ _).alloc (Nat.le_refl _) _⟩
set_option maxRecDepth 100000 in
set_option maxHeartbeats 8000000 in
theorem refText_14 (t : Tr Tm) (ht : SxT t) (hop : t.nd.op = 14) (v : Value) (w : World) (hv : Tms w v (flat t)) :
    Calls Tryz.prog 14 #[v] w fun e w' => e = .returned (.string ⟨(txF t).toArray⟩) ∧ Below w.heap.size w w' := by
  have hpos := flat_pos t
  have hl30 := ht.len
  have HF : Hid (ByteArray.mk #[114, 101, 118, 101, 114, 115, 101] = ⟨(txF t).toArray⟩) := Lib.hid (by rw [txF_leaf (ks_none ht (by omega))]; unfold aheadT behindT; rw [hop]; rfl)
  obtain ⟨g, o, c, rfl, hc, hcm, hg, hx⟩ := hv.opened (flat_pos t)
  have htm := (hx 0 t.nd (by rw [flat_eq]; rfl)).tm
  rw [Nat.zero_mul, Nat.add_zero] at htm
  obtain ⟨y0, y1, y2, y3, y4, y5, y6, y7, y8, y9, y10⟩ := htm
  rw [hop] at y0
  clear hx hv ht hl30
  generalize (flat t).length = m at *
  generalize ByteArray.mk (txF t).toArray = R at *
  generalize t.nd = d at *
  go_enter Tryz.func14, Tryz.ntmps14
  go_wp2_with fail
  go_ret
  exact ⟨ret_str HF.out, (Below.refl _ _).alloc (Nat.le_refl _) _⟩
set_option maxRecDepth 100000 in
set_option maxHeartbeats 8000000 in
theorem refText_12 (t : Tr Tm) (ht : SxT t) (hop : t.nd.op = 12) (v : Value) (w : World) (hv : Tms w v (flat t)) :
    Calls Tryz.prog 14 #[v] w fun e w' => e = .returned (.string ⟨(txF t).toArray⟩) ∧ Below w.heap.size w w' := by
  have hpos := flat_pos t
  have hl30 := ht.len
  have HC := Lib.hid (fun (W : World) (hW : Below w.heap.size w W) => refCall_path t ht (by omega) v W (hv.below hW))
  obtain ⟨g, o, c, rfl, hc, hcm, hg, hx⟩ := hv.opened (flat_pos t)
  have htm := (hx 0 t.nd (by rw [flat_eq]; rfl)).tm
  rw [Nat.zero_mul, Nat.add_zero] at htm
  obtain ⟨y0, y1, y2, y3, y4, y5, y6, y7, y8, y9, y10⟩ := htm
  rw [hop] at y0
  clear hx hv ht hl30
  generalize (flat t).length = m at *
  generalize ByteArray.mk (txF t).toArray = R at *
  generalize t.nd = d at *
  go_enter Tryz.func14, Tryz.ntmps14
  go_wp2_with fail
  refine (HC.out _ ((Below.refl _ _).alloc (Nat.le_refl _) _)).mono ?_
  rintro e w1 ⟨rfl, hb1⟩
  go_wp2_with fail
  go_ret
  exact ⟨rfl, Below.after ((Below.refl _ _).alloc (Nat.le_refl _) _) hb1⟩
set_option maxRecDepth 100000 in
set_option maxHeartbeats 8000000 in
theorem refText_13 (t : Tr Tm) (ht : SxT t) (hop : t.nd.op = 13) (v : Value) (w : World) (hv : Tms w v (flat t)) :
    Calls Tryz.prog 14 #[v] w fun e w' => e = .returned (.string ⟨(txF t).toArray⟩) ∧ Below w.heap.size w w' := by
  have hpos := flat_pos t
  have hl30 := ht.len
  have HC := Lib.hid (fun (W : World) (hW : Below w.heap.size w W) => refCall_path t ht (by omega) v W (hv.below hW))
  obtain ⟨g, o, c, rfl, hc, hcm, hg, hx⟩ := hv.opened (flat_pos t)
  have htm := (hx 0 t.nd (by rw [flat_eq]; rfl)).tm
  rw [Nat.zero_mul, Nat.add_zero] at htm
  obtain ⟨y0, y1, y2, y3, y4, y5, y6, y7, y8, y9, y10⟩ := htm
  rw [hop] at y0
  clear hx hv ht hl30
  generalize (flat t).length = m at *
  generalize ByteArray.mk (txF t).toArray = R at *
  generalize t.nd = d at *
  go_enter Tryz.func14, Tryz.ntmps14
  go_wp2_with fail
  refine (HC.out _ ((Below.refl _ _).alloc (Nat.le_refl _) _)).mono ?_
  rintro e w1 ⟨rfl, hb1⟩
  go_wp2_with fail
  go_ret
  exact ⟨rfl, Below.after ((Below.refl _ _).alloc (Nat.le_refl _) _) hb1⟩
set_option maxRecDepth 100000 in
set_option maxHeartbeats 8000000 in
theorem refText_15 (t : Tr Tm) (ht : SxT t) (hop : t.nd.op = 15) (v : Value) (w : World) (hv : Tms w v (flat t)) :
    Calls Tryz.prog 14 #[v] w fun e w' => e = .returned (.string ⟨(txF t).toArray⟩) ∧ Below w.heap.size w w' := by
  have hpos := flat_pos t
  have hl30 := ht.len
  have HC := Lib.hid (fun (W : World) (hW : Below w.heap.size w W) => refCall_path t ht (by omega) v W (hv.below hW))
  obtain ⟨g, o, c, rfl, hc, hcm, hg, hx⟩ := hv.opened (flat_pos t)
  have htm := (hx 0 t.nd (by rw [flat_eq]; rfl)).tm
  rw [Nat.zero_mul, Nat.add_zero] at htm
  obtain ⟨y0, y1, y2, y3, y4, y5, y6, y7, y8, y9, y10⟩ := htm
  rw [hop] at y0
  clear hx hv ht hl30
  generalize (flat t).length = m at *
  generalize ByteArray.mk (txF t).toArray = R at *
  generalize t.nd = d at *
  go_enter Tryz.func14, Tryz.ntmps14
  go_wp2_with fail
  refine (HC.out _ ((Below.refl _ _).alloc (Nat.le_refl _) _)).mono ?_
  rintro e w1 ⟨rfl, hb1⟩
  go_wp2_with fail
  go_ret
  exact ⟨rfl, Below.after ((Below.refl _ _).alloc (Nat.le_refl _) _) hb1⟩
set_option maxRecDepth 100000 in
set_option maxHeartbeats 8000000 in
theorem refText_5 {n : Nat} (hQ : TxQ n) (t : Tr Tm) (ht : SxT t) (hn : (flat t).length ≤ n + 1) (hop : t.nd.op = 5) (v : Value) (w : World) (hv : Tms w v (flat t)) :
    Calls Tryz.prog 14 #[v] w fun e w' => e = .returned (.string ⟨(txF t).toArray⟩) ∧ Below w.heap.size w w' := by
  have hpos := flat_pos t
  have hl30 := ht.len
  have HC := Lib.hid (fun (W : World) (hW : Below w.heap.size w W) => refCall_5 hQ t ht hn hop v W (hv.below hW))
  obtain ⟨g, o, c, rfl, hc, hcm, hg, hx⟩ := hv.opened (flat_pos t)
  have htm := (hx 0 t.nd (by rw [flat_eq]; rfl)).tm
  rw [Nat.zero_mul, Nat.add_zero] at htm
  obtain ⟨y0, y1, y2, y3, y4, y5, y6, y7, y8, y9, y10⟩ := htm
  rw [hop] at y0
  clear hx hv hQ ht hn hl30
  generalize (flat t).length = m at *
  generalize ByteArray.mk (txF t).toArray = R at *
  generalize t.nd = d at *
  go_enter Tryz.func14, Tryz.ntmps14
  go_wp2_with fail
  refine (HC.out _ ((Below.refl _ _).alloc (Nat.le_refl _) _)).mono ?_
  rintro e w1 ⟨rfl, hb1⟩
  go_wp2_with fail
  go_ret
  exact ⟨rfl, Below.after ((Below.refl _ _).alloc (Nat.le_refl _) _) hb1⟩
set_option maxRecDepth 100000 in
set_option maxHeartbeats 8000000 in
theorem refText_6 {n : Nat} (hQ : TxQ n) (t : Tr Tm) (ht : SxT t) (hn : (flat t).length ≤ n + 1) (hop : t.nd.op = 6) (v : Value) (w : World) (hv : Tms w v (flat t)) :
    Calls Tryz.prog 14 #[v] w fun e w' => e = .returned (.string ⟨(txF t).toArray⟩) ∧ Below w.heap.size w w' := by
  have hpos := flat_pos t
  have hl30 := ht.len
  have HC := Lib.hid (fun (W : World) (hW : Below w.heap.size w W) => refCall_6 hQ t ht hn hop v W (hv.below hW))
  obtain ⟨g, o, c, rfl, hc, hcm, hg, hx⟩ := hv.opened (flat_pos t)
  have htm := (hx 0 t.nd (by rw [flat_eq]; rfl)).tm
  rw [Nat.zero_mul, Nat.add_zero] at htm
  obtain ⟨y0, y1, y2, y3, y4, y5, y6, y7, y8, y9, y10⟩ := htm
  rw [hop] at y0
  clear hx hv hQ ht hn hl30
  generalize (flat t).length = m at *
  generalize ByteArray.mk (txF t).toArray = R at *
  generalize t.nd = d at *
  go_enter Tryz.func14, Tryz.ntmps14
  go_wp2_with fail
  refine (HC.out _ ((Below.refl _ _).alloc (Nat.le_refl _) _)).mono ?_
  rintro e w1 ⟨rfl, hb1⟩
  go_wp2_with fail
  go_ret
  exact ⟨rfl, Below.after ((Below.refl _ _).alloc (Nat.le_refl _) _) hb1⟩
set_option maxRecDepth 100000 in
set_option maxHeartbeats 8000000 in
theorem refText_7 {n : Nat} (hQ : TxQ n) (t : Tr Tm) (ht : SxT t) (hn : (flat t).length ≤ n + 1) (hop : t.nd.op = 7) (v : Value) (w : World) (hv : Tms w v (flat t)) :
    Calls Tryz.prog 14 #[v] w fun e w' => e = .returned (.string ⟨(txF t).toArray⟩) ∧ Below w.heap.size w w' := by
  have hpos := flat_pos t
  have hl30 := ht.len
  have HC := Lib.hid (fun (W : World) (hW : Below w.heap.size w W) => refCall_7 hQ t ht hn hop v W (hv.below hW))
  obtain ⟨g, o, c, rfl, hc, hcm, hg, hx⟩ := hv.opened (flat_pos t)
  have htm := (hx 0 t.nd (by rw [flat_eq]; rfl)).tm
  rw [Nat.zero_mul, Nat.add_zero] at htm
  obtain ⟨y0, y1, y2, y3, y4, y5, y6, y7, y8, y9, y10⟩ := htm
  rw [hop] at y0
  clear hx hv hQ ht hn hl30
  generalize (flat t).length = m at *
  generalize ByteArray.mk (txF t).toArray = R at *
  generalize t.nd = d at *
  go_enter Tryz.func14, Tryz.ntmps14
  go_wp2_with fail
  refine (HC.out _ ((Below.refl _ _).alloc (Nat.le_refl _) _)).mono ?_
  rintro e w1 ⟨rfl, hb1⟩
  go_wp2_with fail
  go_ret
  exact ⟨rfl, Below.after ((Below.refl _ _).alloc (Nat.le_refl _) _) hb1⟩
end Go.Proofs.YtdgcdemihalefaaGreatDoor
namespace Go.Proofs.YtdgcdemihalefaaGreatDoor
open Go.RowKit Np Rw Vp Up Qp Tp Pw Fw
set_option maxRecDepth 100000 in
set_option maxHeartbeats 8000000 in
theorem refText_17 {n : Nat} (hQ : TxQ n) (t : Tr Tm) (ht : SxT t) (hn : (flat t).length ≤ n + 1) (hop : t.nd.op = 17) (v : Value) (w : World) (hv : Tms w v (flat t)) :
    Calls Tryz.prog 14 #[v] w fun e w' => e = .returned (.string ⟨(txF t).toArray⟩) ∧ Below w.heap.size w w' := by
  have hpos := flat_pos t
  have hl30 := ht.len
  have HC := Lib.hid (fun (W : World) (hW : Below w.heap.size w W) => refJoined_of hQ t ht hn (by omega) v W (hv.below hW))
  rw [← txF_cond (by omega : t.nd.op = 17 ∨ t.nd.op = 18), hop, show betweenT 17 = [32, 97, 110, 100, 32] from rfl] at HC
  obtain ⟨g, o, c, rfl, hc, hcm, hg, hx⟩ := hv.opened (flat_pos t)
  have htm := (hx 0 t.nd (by rw [flat_eq]; rfl)).tm
  rw [Nat.zero_mul, Nat.add_zero] at htm
  obtain ⟨y0, y1, y2, y3, y4, y5, y6, y7, y8, y9, y10⟩ := htm
  rw [hop] at y0
  clear hx hv hQ ht hn hl30
  generalize (flat t).length = m at *
  generalize ByteArray.mk (txF t).toArray = R at *
  generalize t.nd = d at *
  go_enter Tryz.func14, Tryz.ntmps14
  go_wp2_with fail
  refine (HC.out _ ((Below.refl _ _).alloc (Nat.le_refl _) _)).mono ?_
  rintro e w1 ⟨rfl, hb1⟩
  go_wp2_with fail
  go_ret
  exact ⟨rfl, Below.after ((Below.refl _ _).alloc (Nat.le_refl _) _) hb1⟩
set_option maxRecDepth 100000 in
set_option maxHeartbeats 8000000 in
theorem refText_18 {n : Nat} (hQ : TxQ n) (t : Tr Tm) (ht : SxT t) (hn : (flat t).length ≤ n + 1) (hop : t.nd.op = 18) (v : Value) (w : World) (hv : Tms w v (flat t)) :
    Calls Tryz.prog 14 #[v] w fun e w' => e = .returned (.string ⟨(txF t).toArray⟩) ∧ Below w.heap.size w w' := by
  have hpos := flat_pos t
  have hl30 := ht.len
  have HC := Lib.hid (fun (W : World) (hW : Below w.heap.size w W) => refJoined_of hQ t ht hn (by omega) v W (hv.below hW))
  rw [← txF_cond (by omega : t.nd.op = 17 ∨ t.nd.op = 18), hop, show betweenT 18 = [32, 111, 114, 32] from rfl] at HC
  obtain ⟨g, o, c, rfl, hc, hcm, hg, hx⟩ := hv.opened (flat_pos t)
  have htm := (hx 0 t.nd (by rw [flat_eq]; rfl)).tm
  rw [Nat.zero_mul, Nat.add_zero] at htm
  obtain ⟨y0, y1, y2, y3, y4, y5, y6, y7, y8, y9, y10⟩ := htm
  rw [hop] at y0
  clear hx hv hQ ht hn hl30
  generalize (flat t).length = m at *
  generalize ByteArray.mk (txF t).toArray = R at *
  generalize t.nd = d at *
  go_enter Tryz.func14, Tryz.ntmps14
  go_wp2_with fail
  refine (HC.out _ ((Below.refl _ _).alloc (Nat.le_refl _) _)).mono ?_
  rintro e w1 ⟨rfl, hb1⟩
  go_wp2_with fail
  go_ret
  exact ⟨rfl, Below.after ((Below.refl _ _).alloc (Nat.le_refl _) _) hb1⟩
set_option maxRecDepth 100000 in
set_option maxHeartbeats 8000000 in
theorem refText_8 {n : Nat} (hQ : TxQ n) (t : Tr Tm) (ht : SxT t) (hn : (flat t).length ≤ n + 1) (hop : t.nd.op = 8) (v : Value) (w : World) (hv : Tms w v (flat t)) :
    Calls Tryz.prog 14 #[v] w fun e w' => e = .returned (.string ⟨(txF t).toArray⟩) ∧ Below w.heap.size w w' := by
  have hpos := flat_pos t
  have hl30 := ht.len
  have HC := Lib.hid (fun (W : World) (hW : Below w.heap.size w W) => refJoined_of hQ t ht hn (by omega) v W (hv.below hW))
  have hkl : (ByteArray.mk (txK t.nd.op true t.ks).toArray).size ≤ 100000000 := by rw [mk_size]; exact ht.ksLen
  have HF : Hid (ByteArray.mk #[123] ++ ByteArray.mk (txK t.nd.op true t.ks).toArray ++ ByteArray.mk #[125] = ⟨(txF t).toArray⟩) := Lib.hid (by
    rw [txF_eq]
    unfold aheadT behindT
    rw [hop]
    exact ByteArray.ext (by simp))
  rw [hop] at HC hkl HF
  rw [show betweenT 8 = [44, 32] from rfl] at HC
  generalize ByteArray.mk (txK 8 true t.ks).toArray = X at *
  obtain ⟨g, o, c, rfl, hc, hcm, hg, hx⟩ := hv.opened (flat_pos t)
  have htm := (hx 0 t.nd (by rw [flat_eq]; rfl)).tm
  rw [Nat.zero_mul, Nat.add_zero] at htm
  obtain ⟨y0, y1, y2, y3, y4, y5, y6, y7, y8, y9, y10⟩ := htm
  rw [hop] at y0
  clear hx hv hQ ht hn hl30
  generalize (flat t).length = m at *
  generalize ByteArray.mk (txF t).toArray = R at *
  generalize t.nd = d at *
  go_enter Tryz.func14, Tryz.ntmps14
  go_wp2_with fail
  refine (HC.out _ ((Below.refl _ _).alloc (Nat.le_refl _) _)).mono ?_
  rintro e w1 ⟨rfl, hb1⟩
  go_wp2_with fail
  go_ret
  exact ⟨ret_str HF.out, Below.after ((Below.refl _ _).alloc (Nat.le_refl _) _) hb1⟩
set_option maxRecDepth 100000 in
set_option maxHeartbeats 8000000 in
theorem refText_9 {n : Nat} (hQ : TxQ n) (t : Tr Tm) (ht : SxT t) (hn : (flat t).length ≤ n + 1) (hop : t.nd.op = 9) (v : Value) (w : World) (hv : Tms w v (flat t)) :
    Calls Tryz.prog 14 #[v] w fun e w' => e = .returned (.string ⟨(txF t).toArray⟩) ∧ Below w.heap.size w w' := by
  have hpos := flat_pos t
  have hl30 := ht.len
  have HC := Lib.hid (fun (W : World) (hW : Below w.heap.size w W) => refJoined_of hQ t ht hn (by omega) v W (hv.below hW))
  have hkl : (ByteArray.mk (txK t.nd.op true t.ks).toArray).size ≤ 100000000 := by rw [mk_size]; exact ht.ksLen
  have HF : Hid (ByteArray.mk #[91] ++ ByteArray.mk (txK t.nd.op true t.ks).toArray ++ ByteArray.mk #[93] = ⟨(txF t).toArray⟩) := Lib.hid (by
    rw [txF_eq]
    unfold aheadT behindT
    rw [hop]
    exact ByteArray.ext (by simp))
  rw [hop] at HC hkl HF
  rw [show betweenT 9 = [44, 32] from rfl] at HC
  generalize ByteArray.mk (txK 9 true t.ks).toArray = X at *
  obtain ⟨g, o, c, rfl, hc, hcm, hg, hx⟩ := hv.opened (flat_pos t)
  have htm := (hx 0 t.nd (by rw [flat_eq]; rfl)).tm
  rw [Nat.zero_mul, Nat.add_zero] at htm
  obtain ⟨y0, y1, y2, y3, y4, y5, y6, y7, y8, y9, y10⟩ := htm
  rw [hop] at y0
  clear hx hv hQ ht hn hl30
  generalize (flat t).length = m at *
  generalize ByteArray.mk (txF t).toArray = R at *
  generalize t.nd = d at *
  go_enter Tryz.func14, Tryz.ntmps14
  go_wp2_with fail
  refine (HC.out _ ((Below.refl _ _).alloc (Nat.le_refl _) _)).mono ?_
  rintro e w1 ⟨rfl, hb1⟩
  go_wp2_with fail
  go_ret
  exact ⟨ret_str HF.out, Below.after ((Below.refl _ _).alloc (Nat.le_refl _) _) hb1⟩
end Go.Proofs.YtdgcdemihalefaaGreatDoor
namespace Go.Proofs.YtdgcdemihalefaaGreatDoor
open Go.RowKit Np Rw Vp Up Qp Tp Pw Fw
set_option maxRecDepth 100000 in
set_option maxHeartbeats 8000000 in
theorem refText_1 (t : Tr Tm) (ht : SxT t) (hop : t.nd.op = 1) (v : Value) (w : World) (hv : Tms w v (flat t)) :
    Calls Tryz.prog 14 #[v] w fun e w' => e = .returned (.string ⟨(txF t).toArray⟩) ∧ Below w.heap.size w w' := by
  have hpos := flat_pos t
  have hl30 := ht.len
  have hss := ht.nd.1
  have hso := ht.sOk
  have hno := ht.nOk
  rw [hop] at hso hno
  have HR1 : Hid (rightS ⟨false, t.nd.s, 0⟩ = true) := Lib.hid (by
    unfold rightS
    unfold Fw.sOk at hso
    rw [if_pos rfl] at hso
    simp [hso])
  have HF : Hid (textP [⟨false, t.nd.s, 0⟩] = txF t) := Lib.hid (by rw [txF_leaf (ks_none ht (by omega))]; unfold aheadT behindT; rw [hop]; simp [fieldT])
  have HP : Hid (∀ (W : World) (B : Nat), B = W.heap.size → Calls Tryz.prog 36 #[.slice (some ⟨B, 0, none⟩) 1 1] (W.alloc (.cells #[.bool false, .string ⟨t.nd.s.toArray⟩, .int .i64 0] 71)) fun e w' => e = .returned (.string ⟨(txF t).toArray⟩) ∧ Below W.heap.size W w') := Lib.hid (fun W B hB => by
    subst hB
    have hp : Sps (W.alloc (.cells #[.bool false, .string ⟨t.nd.s.toArray⟩, .int .i64 0] 71)) (.slice (some ⟨W.heap.size, 0, none⟩) 1 1) [⟨false, t.nd.s, 0⟩] := Row.lit spc_len W 71 _ [⟨false, t.nd.s, 0⟩] (by show 1 ≤ maxLen; decide) rfl
    have h := refTextP_any _ _ _ hp (by simp [HR1.out]) (by simp; omega) (by have h1 := fieldT_len t.nd.s; unfold fieldT at h1; omega) (by simp)
    rw [HF.out] at h
    refine h.mono ?_
    rintro e w' ⟨rfl, hb⟩
    exact ⟨rfl, ((Below.refl _ W).alloc (Nat.le_refl _) _).trans (hb.mono (by simp))⟩)
  clear HF HR1 hso hno
  obtain ⟨g, o, c, rfl, hc, hcm, hg, hx⟩ := hv.opened (flat_pos t)
  have htm := (hx 0 t.nd (by rw [flat_eq]; rfl)).tm
  rw [Nat.zero_mul, Nat.add_zero] at htm
  obtain ⟨y0, y1, y2, y3, y4, y5, y6, y7, y8, y9, y10⟩ := htm
  rw [hop] at y0
  clear hx hv ht hl30
  generalize (flat t).length = m at *
  generalize ByteArray.mk (txF t).toArray = R at *
  generalize t.nd = d at *
  go_enter Tryz.func14, Tryz.ntmps14
  go_wp2_with fail
  refine (HP.out _ _ (by simp)).mono ?_
  rintro e w1 ⟨rfl, hb1⟩
  go_wp2_with fail
  go_ret
  exact ⟨rfl, Below.after ((Below.refl _ _).alloc (Nat.le_refl _) _) hb1⟩
end Go.Proofs.YtdgcdemihalefaaGreatDoor
