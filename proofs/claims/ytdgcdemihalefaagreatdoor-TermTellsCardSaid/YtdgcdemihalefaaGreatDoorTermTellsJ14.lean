/-
  Joined: FrB2, TtDc, TtDd, TtDe, TtE.
-/
import Derived.Test.YtdgcdemihalefaaGreatDoorTermTellsJ11
import Derived.Test.YtdgcdemihalefaaGreatDoorTermTellsJ15
namespace Go.Proofs.YtdgcdemihalefaaGreatDoor
open Go.RowKit Np Rw Vp Up Qp Pw Fw
set_option maxRecDepth 100000 in
set_option maxHeartbeats 4000000 in
theorem refPlain_B (op many n : Int) (name s : List UInt8) (c : Nd) (w : World) (hop : op = 1) (hs : s.length ≤ maxLen) :
    Calls Tryz.prog 52 #[tma ⟨op, many, name, s, n, c⟩] w (PlE w ⟨op, many, name, s, n, c⟩) := by
  have HX0 : Hid ((⟨op, many, name, s, n, c⟩ : Tm) ≠ (⟨op, many, name, s, 0, zeroC⟩ : Tm) → plainT ⟨op, many, name, s, n, c⟩ = false) := Lib.hid (fun h => plainT_bareR (by
    rcases hop with rfl <;> simpa [bareR] using h))
  have HX1 : Hid (¬ (many = 0) → plainT ⟨op, many, name, s, n, c⟩ = false) := Lib.hid (fun h => by
    rcases hop with rfl <;> simp [plainT, manyOk, sOk, nOk, cOk, h])
  have HX2 : Hid (¬ (vld s = true) → plainT ⟨op, many, name, s, n, c⟩ = false) := Lib.hid (fun h => by
    rcases hop with rfl <;> simp [plainT, manyOk, sOk, nOk, cOk, h])
  have HXT : Hid ((⟨op, many, name, s, n, c⟩ : Tm) = (⟨op, many, name, s, 0, zeroC⟩ : Tm) → many = 0 → vld s = true → plainT ⟨op, many, name, s, n, c⟩ = true) := Lib.hid (fun h h1 h2 => by
    rw [h]; rcases hop with rfl <;> simp [plainT, manyOk, sOk, nOk, cOk, h1, h2])
  have hq : ∀ W, (binOp .eql 47 (.agg #[.int .i64 op, .int .i64 many, .string ⟨name.toArray⟩, .string ⟨s.toArray⟩, .int .i64 n, .int .i64 c.kind, .int .i64 c.many, .string ⟨c.name.toArray⟩, .string ⟨c.s.toArray⟩, .bool c.neg, .int .i64 c.e]) (.agg #[.int .i64 op, .int .i64 many, .string ⟨name.toArray⟩, .string ⟨s.toArray⟩, .int .i64 0, .int .i64 0, .int .i64 0, .string ⟨#[]⟩, .string ⟨#[]⟩, .bool false, .int .i64 0])).run Tryz.prog W = .ok (.bool (decide ((⟨op, many, name, s, n, c⟩ : Tm) = (⟨op, many, name, s, 0, zeroC⟩ : Tm)))) W := fun W => eql_tm ⟨op, many, name, s, n, c⟩ ⟨op, many, name, s, 0, zeroC⟩ W
  unfold PlE
  generalize plainT ⟨op, many, name, s, n, c⟩ = R at *
  have HSZ : Hid ((ByteArray.mk s.toArray).size ≤ maxLen) := Lib.hid (by rw [mk_size]; exact hs)
  clear hs
  by_cases hd : (⟨op, many, name, s, n, c⟩ : Tm) = (⟨op, many, name, s, 0, zeroC⟩ : Tm)
  · rw [decide_eq_true hd] at hq
    by_cases h1 : many = 0
    · skip
      by_cases h2 : vld s = true
      · skip
        have HU := Lib.hid h2
        have HR := Lib.hid (HXT.out hd h1 h2)
        clear hd h2 HX0 HX1 HX2 HXT
        subst h1
        rcases hop with rfl
        all_goals go_enter Tryz.func52, Tryz.ntmps52
        all_goals go_wp2_with (first | (go_at_call 43; refine (refUtf_any _ _ HSZ.out).mono ?_; rintro e w5 ⟨rfl, rfl⟩; rw [show Lib.validD (ByteArray.mk s.toArray).data.toList = true from HU.out]))
        all_goals go_ret
        all_goals exact ⟨ret_bool HR.out.symm, by (first | exact HB5.out.trans (HB6.out.mono HB5.out.size) | exact HB5.out | exact (((Below.refl _ _).alloc (Nat.le_refl _) _).alloc (by simp) _) | exact ((((Below.refl _ _).alloc (Nat.le_refl _) _).alloc (by simp) _).setCell (by simp) _) | exact (((((Below.refl _ _).alloc (Nat.le_refl _) _).alloc (by simp) _).setCell (by simp) _).setCell (by simp) _))⟩
      · have HR := Lib.hid (HX2.out h2)
        have HU := Lib.hid (eq_false_of_ne_true h2)
        clear hd h2 HX0 HX1 HX2 HXT
        subst h1
        rcases hop with rfl
        all_goals go_enter Tryz.func52, Tryz.ntmps52
        all_goals go_wp2_with (first | (go_at_call 43; refine (refUtf_any _ _ HSZ.out).mono ?_; rintro e w5 ⟨rfl, rfl⟩; rw [show Lib.validD (ByteArray.mk s.toArray).data.toList = false from HU.out]))
        all_goals go_ret
        all_goals exact ⟨ret_bool HR.out.symm, by (first | exact HB5.out.trans (HB6.out.mono HB5.out.size) | exact HB5.out | exact (((Below.refl _ _).alloc (Nat.le_refl _) _).alloc (by simp) _) | exact ((((Below.refl _ _).alloc (Nat.le_refl _) _).alloc (by simp) _).setCell (by simp) _) | exact (((((Below.refl _ _).alloc (Nat.le_refl _) _).alloc (by simp) _).setCell (by simp) _).setCell (by simp) _))⟩
    · have HR := Lib.hid (HX1.out h1)
      have e1 : (many == 0) = false := by simpa using h1
      clear hd h1 HX0 HX1 HX2 HXT
      rcases hop with rfl
      all_goals go_enter Tryz.func52, Tryz.ntmps52
      all_goals go_wp2_with fail
      all_goals go_ret
      all_goals exact ⟨ret_bool HR.out.symm, by (first | exact HB5.out.trans (HB6.out.mono HB5.out.size) | exact HB5.out | exact (((Below.refl _ _).alloc (Nat.le_refl _) _).alloc (by simp) _) | exact ((((Below.refl _ _).alloc (Nat.le_refl _) _).alloc (by simp) _).setCell (by simp) _) | exact (((((Below.refl _ _).alloc (Nat.le_refl _) _).alloc (by simp) _).setCell (by simp) _).setCell (by simp) _))⟩
  · rw [decide_eq_false hd] at hq
    have HR := Lib.hid (HX0.out hd)
    clear hd HX0 HX1 HX2 HXT
    rcases hop with rfl
    all_goals go_enter Tryz.func52, Tryz.ntmps52
    all_goals go_wp2_with fail
    all_goals go_ret
    all_goals exact ⟨ret_bool HR.out.symm, by (first | exact HB5.out.trans (HB6.out.mono HB5.out.size) | exact HB5.out | exact (((Below.refl _ _).alloc (Nat.le_refl _) _).alloc (by simp) _) | exact ((((Below.refl _ _).alloc (Nat.le_refl _) _).alloc (by simp) _).setCell (by simp) _) | exact (((((Below.refl _ _).alloc (Nat.le_refl _) _).alloc (by simp) _).setCell (by simp) _).setCell (by simp) _))⟩
set_option maxRecDepth 100000 in
set_option maxHeartbeats 4000000 in
theorem refPlain_C (op many n : Int) (name s : List UInt8) (c : Nd) (w : World) (hop : op = 2 ∨ op = 3) :
    Calls Tryz.prog 52 #[tma ⟨op, many, name, s, n, c⟩] w (PlE w ⟨op, many, name, s, n, c⟩) := by
  have HX0 : Hid ((⟨op, many, name, s, n, c⟩ : Tm) ≠ (⟨op, many, name, [], n, zeroC⟩ : Tm) → plainT ⟨op, many, name, s, n, c⟩ = false) := Lib.hid (fun h => plainT_bareR (by
    rcases hop with rfl | rfl <;> simpa [bareR] using h))
  have HX1 : Hid (¬ (many = 0) → plainT ⟨op, many, name, s, n, c⟩ = false) := Lib.hid (fun h => by
    rcases hop with rfl | rfl <;> simp [plainT, manyOk, sOk, nOk, cOk, h])
  have HX2 : Hid (¬ (0 ≤ n) → plainT ⟨op, many, name, s, n, c⟩ = false) := Lib.hid (fun h => by
    rcases hop with rfl | rfl <;> simp [plainT, manyOk, sOk, nOk, cOk, h])
  have HX3 : Hid (¬ (n ≤ 1000000) → plainT ⟨op, many, name, s, n, c⟩ = false) := Lib.hid (fun h => by
    rcases hop with rfl | rfl <;> simp [plainT, manyOk, sOk, nOk, cOk, h])
  have HXT : Hid ((⟨op, many, name, s, n, c⟩ : Tm) = (⟨op, many, name, [], n, zeroC⟩ : Tm) → many = 0 → 0 ≤ n → n ≤ 1000000 → plainT ⟨op, many, name, s, n, c⟩ = true) := Lib.hid (fun h h1 h2 h3 => by
    rw [h]; rcases hop with rfl | rfl <;> simp [plainT, manyOk, sOk, nOk, cOk, h1, h2, h3])
  have hq : ∀ W, (binOp .eql 47 (.agg #[.int .i64 op, .int .i64 many, .string ⟨name.toArray⟩, .string ⟨s.toArray⟩, .int .i64 n, .int .i64 c.kind, .int .i64 c.many, .string ⟨c.name.toArray⟩, .string ⟨c.s.toArray⟩, .bool c.neg, .int .i64 c.e]) (.agg #[.int .i64 op, .int .i64 many, .string ⟨name.toArray⟩, .string ⟨#[]⟩, .int .i64 n, .int .i64 0, .int .i64 0, .string ⟨#[]⟩, .string ⟨#[]⟩, .bool false, .int .i64 0])).run Tryz.prog W = .ok (.bool (decide ((⟨op, many, name, s, n, c⟩ : Tm) = (⟨op, many, name, [], n, zeroC⟩ : Tm)))) W := fun W => eql_tm ⟨op, many, name, s, n, c⟩ ⟨op, many, name, [], n, zeroC⟩ W
  unfold PlE
  generalize plainT ⟨op, many, name, s, n, c⟩ = R at *
  by_cases hd : (⟨op, many, name, s, n, c⟩ : Tm) = (⟨op, many, name, [], n, zeroC⟩ : Tm)
  · rw [decide_eq_true hd] at hq
    by_cases h1 : many = 0
    · skip
      by_cases h2 : 0 ≤ n
      · skip
        by_cases h3 : n ≤ 1000000
        · skip
          have HR := Lib.hid (HXT.out hd h1 h2 h3)
          clear hd HX0 HX1 HX2 HX3 HXT
          subst h1
          rcases hop with rfl | rfl
          all_goals go_enter Tryz.func52, Tryz.ntmps52
          all_goals go_wp2_with fail
          all_goals go_ret
          all_goals exact ⟨ret_bool HR.out.symm, by (first | exact HB5.out.trans (HB6.out.mono HB5.out.size) | exact HB5.out | exact (((Below.refl _ _).alloc (Nat.le_refl _) _).alloc (by simp) _) | exact ((((Below.refl _ _).alloc (Nat.le_refl _) _).alloc (by simp) _).setCell (by simp) _) | exact (((((Below.refl _ _).alloc (Nat.le_refl _) _).alloc (by simp) _).setCell (by simp) _).setCell (by simp) _))⟩
        · have HR := Lib.hid (HX3.out h3)
          clear hd HX0 HX1 HX2 HX3 HXT
          subst h1
          rcases hop with rfl | rfl
          all_goals go_enter Tryz.func52, Tryz.ntmps52
          all_goals go_wp2_with fail
          all_goals go_ret
          all_goals exact ⟨ret_bool HR.out.symm, by (first | exact HB5.out.trans (HB6.out.mono HB5.out.size) | exact HB5.out | exact (((Below.refl _ _).alloc (Nat.le_refl _) _).alloc (by simp) _) | exact ((((Below.refl _ _).alloc (Nat.le_refl _) _).alloc (by simp) _).setCell (by simp) _) | exact (((((Below.refl _ _).alloc (Nat.le_refl _) _).alloc (by simp) _).setCell (by simp) _).setCell (by simp) _))⟩
      · have HR := Lib.hid (HX2.out h2)
        clear hd HX0 HX1 HX2 HX3 HXT
        subst h1
        rcases hop with rfl | rfl
        all_goals go_enter Tryz.func52, Tryz.ntmps52
        all_goals go_wp2_with fail
        all_goals go_ret
        all_goals exact ⟨ret_bool HR.out.symm, by (first | exact HB5.out.trans (HB6.out.mono HB5.out.size) | exact HB5.out | exact (((Below.refl _ _).alloc (Nat.le_refl _) _).alloc (by simp) _) | exact ((((Below.refl _ _).alloc (Nat.le_refl _) _).alloc (by simp) _).setCell (by simp) _) | exact (((((Below.refl _ _).alloc (Nat.le_refl _) _).alloc (by simp) _).setCell (by simp) _).setCell (by simp) _))⟩
    · have HR := Lib.hid (HX1.out h1)
      have e1 : (many == 0) = false := by simpa using h1
      clear hd h1 HX0 HX1 HX2 HX3 HXT
      rcases hop with rfl | rfl
      all_goals go_enter Tryz.func52, Tryz.ntmps52
      all_goals go_wp2_with fail
      all_goals go_ret
      all_goals exact ⟨ret_bool HR.out.symm, by (first | exact HB5.out.trans (HB6.out.mono HB5.out.size) | exact HB5.out | exact (((Below.refl _ _).alloc (Nat.le_refl _) _).alloc (by simp) _) | exact ((((Below.refl _ _).alloc (Nat.le_refl _) _).alloc (by simp) _).setCell (by simp) _) | exact (((((Below.refl _ _).alloc (Nat.le_refl _) _).alloc (by simp) _).setCell (by simp) _).setCell (by simp) _))⟩
  · rw [decide_eq_false hd] at hq
    have HR := Lib.hid (HX0.out hd)
    clear hd HX0 HX1 HX2 HX3 HXT
    rcases hop with rfl | rfl
    all_goals go_enter Tryz.func52, Tryz.ntmps52
    all_goals go_wp2_with fail
    all_goals go_ret
    all_goals exact ⟨ret_bool HR.out.symm, by (first | exact HB5.out.trans (HB6.out.mono HB5.out.size) | exact HB5.out | exact (((Below.refl _ _).alloc (Nat.le_refl _) _).alloc (by simp) _) | exact ((((Below.refl _ _).alloc (Nat.le_refl _) _).alloc (by simp) _).setCell (by simp) _) | exact (((((Below.refl _ _).alloc (Nat.le_refl _) _).alloc (by simp) _).setCell (by simp) _).setCell (by simp) _))⟩
end Go.Proofs.YtdgcdemihalefaaGreatDoor
namespace Go.Proofs.YtdgcdemihalefaaGreatDoor
open Go.RowKit Np Rw Vp Up Qp Tp Pw Fw
set_option maxRecDepth 100000 in
set_option maxHeartbeats 8000000 in
theorem refText_2 (t : Tr Tm) (ht : SxT t) (hop : t.nd.op = 2) (v : Value) (w : World) (hv : Tms w v (flat t)) :
    Calls Tryz.prog 14 #[v] w fun e w' => e = .returned (.string ⟨(txF t).toArray⟩) ∧ Below w.heap.size w w' := by
  have hpos := flat_pos t
  have hl30 := ht.len
  have hno := ht.nOk
  rw [hop] at hno
  unfold Fw.nOk at hno
  rw [if_pos (by decide)] at hno
  simp only [Bool.and_eq_true, decide_eq_true_eq] at hno
  obtain ⟨M, hM, hM6⟩ : ∃ M : Nat, t.nd.n = M ∧ M ≤ 1000000 := ⟨t.nd.n.toNat, by omega, by omega⟩
  have HD := Lib.hid (fun W => refDecimal_any M W hM6)
  have hdl : (ByteArray.mk (Lib.decDigits M).toArray).size ≤ 100 := by rw [mk_size]; have := dec_len hM6; omega
  have HF : Hid (ByteArray.mk #[46, 91] ++ ByteArray.mk (Lib.decDigits M).toArray ++ ByteArray.mk #[93] = ⟨(txF t).toArray⟩) := Lib.hid (by
    rw [txF_leaf (ks_none ht (by omega))]
    unfold aheadT behindT
    rw [hop, hM, itoa_nat (n := (M : Int)) (by omega), Int.toNat_natCast]
    exact ByteArray.ext (by simp))
  clear hno
  generalize ByteArray.mk (Lib.decDigits M).toArray = D at *
  obtain ⟨g, o, c, rfl, hc, hcm, hg, hx⟩ := hv.opened (flat_pos t)
  have htm := (hx 0 t.nd (by rw [flat_eq]; rfl)).tm
  rw [Nat.zero_mul, Nat.add_zero] at htm
  obtain ⟨y0, y1, y2, y3, y4, y5, y6, y7, y8, y9, y10⟩ := htm
  rw [hop] at y0
  clear hx hv ht hl30
  generalize (flat t).length = m at *
  generalize ByteArray.mk (txF t).toArray = R at *
  generalize t.nd = d at *
  rw [hM] at y4
  go_enter Tryz.func14, Tryz.ntmps14
  go_wp2_with fail
  refine (HD.out _).mono ?_
  rintro e w1 ⟨rfl, hb1⟩
  go_wp2_with fail
  go_ret
  exact ⟨ret_str HF.out, Below.after ((Below.refl _ _).alloc (Nat.le_refl _) _) hb1⟩
set_option maxRecDepth 100000 in
set_option maxHeartbeats 8000000 in
theorem refText_3 (t : Tr Tm) (ht : SxT t) (hop : t.nd.op = 3) (v : Value) (w : World) (hv : Tms w v (flat t)) :
    Calls Tryz.prog 14 #[v] w fun e w' => e = .returned (.string ⟨(txF t).toArray⟩) ∧ Below w.heap.size w w' := by
  have hpos := flat_pos t
  have hl30 := ht.len
  have hno := ht.nOk
  rw [hop] at hno
  unfold Fw.nOk at hno
  rw [if_pos (by decide)] at hno
  simp only [Bool.and_eq_true, decide_eq_true_eq] at hno
  obtain ⟨M, hM, hM6⟩ : ∃ M : Nat, t.nd.n = M ∧ M ≤ 1000000 := ⟨t.nd.n.toNat, by omega, by omega⟩
  have HD := Lib.hid (fun W => refDecimal_any M W hM6)
  have hdl : (ByteArray.mk (Lib.decDigits M).toArray).size ≤ 100 := by rw [mk_size]; have := dec_len hM6; omega
  have HF : Hid (ByteArray.mk #[46, 91] ++ ByteArray.mk (Lib.decDigits M).toArray ++ ByteArray.mk #[58, 93] = ⟨(txF t).toArray⟩) := Lib.hid (by
    rw [txF_leaf (ks_none ht (by omega))]
    unfold aheadT behindT
    rw [hop, hM, itoa_nat (n := (M : Int)) (by omega), Int.toNat_natCast]
    exact ByteArray.ext (by simp))
  clear hno
  generalize ByteArray.mk (Lib.decDigits M).toArray = D at *
  obtain ⟨g, o, c, rfl, hc, hcm, hg, hx⟩ := hv.opened (flat_pos t)
  have htm := (hx 0 t.nd (by rw [flat_eq]; rfl)).tm
  rw [Nat.zero_mul, Nat.add_zero] at htm
  obtain ⟨y0, y1, y2, y3, y4, y5, y6, y7, y8, y9, y10⟩ := htm
  rw [hop] at y0
  clear hx hv ht hl30
  generalize (flat t).length = m at *
  generalize ByteArray.mk (txF t).toArray = R at *
  generalize t.nd = d at *
  rw [hM] at y4
  go_enter Tryz.func14, Tryz.ntmps14
  go_wp2_with fail
  refine (HD.out _).mono ?_
  rintro e w1 ⟨rfl, hb1⟩
  go_wp2_with fail
  go_ret
  exact ⟨ret_str HF.out, Below.after ((Below.refl _ _).alloc (Nat.le_refl _) _) hb1⟩
end Go.Proofs.YtdgcdemihalefaaGreatDoor
namespace Go.Proofs.YtdgcdemihalefaaGreatDoor
open Go.RowKit Np Rw Vp Up Qp Tp Pw Fw
set_option maxRecDepth 100000 in
set_option maxHeartbeats 8000000 in
theorem refCmp_walk (many : Int) (name s : List UInt8) (K : Nat) (k : Nd) (R : ByteArray) (g o c m : Nat) (w : World) (_hg : g < w.heap.size) (_hc : m ≤ c) (_hcm : c ≤ maxLen) (_hpos : 0 < m) (hT : Tm11 w g o ⟨16, many, name, s, (K : Int), k⟩) (hK : K < 6) (hs : s.length ≤ 100) (hsc : (scT k).length ≤ 2600)
    (hS : ∀ W, Calls Tryz.prog 40 #[nda k] W fun e w' => e = .returned (.string ⟨(scT k).toArray⟩) ∧ Below W.heap.size W w')
    (hF : ByteArray.mk s.toArray ++ ByteArray.mk #[32] ++ ByteArray.mk (signT K).toArray ++ ByteArray.mk #[32] ++ ByteArray.mk (scT k).toArray = R) :
    Calls Tryz.prog 14 #[.slice (some ⟨g, o, none⟩) m c] w fun e w' => e = .returned (.string R) ∧ Below w.heap.size w w' := by
  obtain ⟨y0, y1, y2, y3, y4, y5, y6, y7, y8, y9, y10⟩ := hT
  have HSC := Lib.hid hS
  have HF := Lib.hid hF
  have hss : (ByteArray.mk s.toArray).size ≤ 100 := by rw [mk_size]; exact hs
  have hcs : (ByteArray.mk (scT k).toArray).size ≤ 2600 := by rw [mk_size]; exact hsc
  have hgs : (ByteArray.mk (signT K).toArray).size ≤ 2 := by
    rw [mk_size]; unfold signT
    repeat' split
    all_goals simp
  have HLT : Hid (∀ W : World, (W.alloc (.cells #[.string ⟨#[61, 61]⟩, .string ⟨#[33, 61]⟩, .string ⟨#[60]⟩, .string ⟨#[60, 61]⟩, .string ⟨#[62]⟩, .string ⟨#[62, 61]⟩] 9)).cell? ⟨W.heap.size, K, none⟩ = some (.string ⟨(signT K).toArray⟩)) := Lib.hid (fun W => by
    have h6 : K = 0 ∨ K = 1 ∨ K = 2 ∨ K = 3 ∨ K = 4 ∨ K = 5 := by omega
    rcases h6 with rfl | rfl | rfl | rfl | rfl | rfl <;> (rw [Lib.cell_of_heap (heap_alloc_new W _)]; rfl))
  obtain ⟨W0, hW0⟩ : ∃ W0, W0 = w.alloc (.cells #[.int .i64 16, .int .i64 many, .string ⟨name.toArray⟩, .string ⟨s.toArray⟩, .int .i64 (K : Nat), .int .i64 k.kind, .int .i64 k.many, .string ⟨k.name.toArray⟩, .string ⟨k.s.toArray⟩, .bool k.neg, .int .i64 k.e] 47) := ⟨_, rfl⟩
  have HB0 : Hid (Below w.heap.size w W0) := Lib.hid (by rw [hW0]; exact (Below.refl _ _).alloc (Nat.le_refl _) _)
  have HTM : Hid (Tm11 W0 w.heap.size 0 ⟨16, many, name, s, (K : Int), k⟩) := Lib.hid (by rw [hW0]; exact tmr_alloc w ⟨16, many, name, s, (K : Int), k⟩)
  have hlt : w.heap.size < W0.heap.size := by rw [hW0]; simp
  have HCL : Hid (∀ W, Below W0.heap.size W0 W → W.cell? ⟨w.heap.size, 3, none⟩ = some (.string ⟨s.toArray⟩) ∧ W.cell? ⟨w.heap.size, 4, none⟩ = some (.int .i64 (K : Nat)) ∧ W.cell? ⟨w.heap.size, 5, none⟩ = some (.int .i64 k.kind) ∧ W.cell? ⟨w.heap.size, 6, none⟩ = some (.int .i64 k.many) ∧ W.cell? ⟨w.heap.size, 7, none⟩ = some (.string ⟨k.name.toArray⟩) ∧ W.cell? ⟨w.heap.size, 8, none⟩ = some (.string ⟨k.s.toArray⟩) ∧ W.cell? ⟨w.heap.size, 9, none⟩ = some (.bool k.neg) ∧ W.cell? ⟨w.heap.size, 10, none⟩ = some (.int .i64 k.e)) := Lib.hid (fun W hW => by
    obtain ⟨-, -, -, z3, z4, z5, z6, z7, z8, z9, z10⟩ := HTM.out.below hlt hW
    simp only [Nat.zero_add] at z3 z4 z5 z6 z7 z8 z9 z10
    exact ⟨z3, z4, z5, z6, z7, z8, z9, z10⟩)
  clear hs hsc hS hF
  generalize ByteArray.mk (scT k).toArray = C at *
  generalize ByteArray.mk (signT K).toArray = G at *
  generalize ByteArray.mk s.toArray = S at *
  go_enter Tryz.func14, Tryz.ntmps14
  go_wp2_with fail
  rw [← hW0]
  clear hW0 y0 y1 y2 y3 y4 y5 y6 y7 y8 y9 y10 HTM
  refine wp_region_held_drew (S := fun w' => Below W0.heap.size W0 w') (by kernel_rfl) ((Below.refl _ _).drew) (fun hH => ?_)
  generalize W0.drew = Wd at hH ⊢
  refine rtk 0 (.pointer (some ⟨w.heap.size, 3, none⟩)) ?_ ?_
  · intro w' hSw; go_simp <;> first | omega | (intro h; exfalso; omega)
  try simp only [List.set_cons_succ, List.set_cons_zero]
  refine rtk 1 (.string S) ?_ ?_
  · intro w' hSw; obtain ⟨x3, x4, x5, x6, x7, x8, x9, x10⟩ := HCL.out w' hSw; go_simp <;> first | omega | (intro h; exfalso; omega)
  try simp only [List.set_cons_succ, List.set_cons_zero]
  refine rtk 2 (.string (S ++ ByteArray.mk #[32])) ?_ ?_
  · intro w' hSw; go_simp <;> first | omega | (intro h; exfalso; omega)
  try simp only [List.set_cons_succ, List.set_cons_zero]
  refine rtk 4 (.pointer (some ⟨w.heap.size, 4, none⟩)) ?_ ?_
  · intro w' hSw; go_simp <;> first | omega | (intro h; exfalso; omega)
  try simp only [List.set_cons_succ, List.set_cons_zero]
  refine rtk 5 (.int .i64 (K : Nat)) ?_ ?_
  · intro w' hSw; obtain ⟨x3, x4, x5, x6, x7, x8, x9, x10⟩ := HCL.out w' hSw; go_simp <;> first | omega | (intro h; exfalso; omega)
  try simp only [List.set_cons_succ, List.set_cons_zero]
  refine rtk 10 (.pointer (some ⟨w.heap.size, 5, none⟩)) ?_ ?_
  · intro w' hSw; go_simp <;> first | omega | (intro h; exfalso; omega)
  try simp only [List.set_cons_succ, List.set_cons_zero]
  refine rtk 11 (nda k) ?_ ?_
  · intro w' hSw; obtain ⟨x3, x4, x5, x6, x7, x8, x9, x10⟩ := HCL.out w' hSw; go_simp <;> first | omega | (intro h; exfalso; omega)
  try simp only [List.set_cons_succ, List.set_cons_zero]
  refine wpAnyH_ready (rs := [3, 12]) (by kernel_rfl) (by simp) ?_
  refine AllReadyH.cons rfl (fun K3 hK3 => ?_) (AllReadyH.cons rfl (fun K12 hK12 => ?_) (AllReadyH.nil))
  · go_simp
    have ha3 := (Below.refl Wd.heap.size Wd).alloc (Nat.le_refl _) (.cells #[.string ⟨#[61, 61]⟩, .string ⟨#[33, 61]⟩, .string ⟨#[60]⟩, .string ⟨#[60, 61]⟩, .string ⟨#[62]⟩, .string ⟨#[62, 61]⟩] 9)
    have hl3 : (Wd.alloc (.cells #[.string ⟨#[61, 61]⟩, .string ⟨#[33, 61]⟩, .string ⟨#[60]⟩, .string ⟨#[60, 61]⟩, .string ⟨#[62]⟩, .string ⟨#[62, 61]⟩] 9)).cell? ⟨Wd.heap.size, K, none⟩ = some (.string G) := HLT.out Wd
    have hz3 : Wd.heap.size < (Wd.alloc (.cells #[.string ⟨#[61, 61]⟩, .string ⟨#[33, 61]⟩, .string ⟨#[60]⟩, .string ⟨#[60, 61]⟩, .string ⟨#[62]⟩, .string ⟨#[62, 61]⟩] 9)).heap.size := by simp
    refine hK3.out _ _ (hH.trans (ha3.mono hH.size)) (fun hH3 => ?_)
    clear hK3 K3
    clear ha3
    generalize Wd.alloc (.cells #[.string ⟨#[61, 61]⟩, .string ⟨#[33, 61]⟩, .string ⟨#[60]⟩, .string ⟨#[60, 61]⟩, .string ⟨#[62]⟩, .string ⟨#[62, 61]⟩] 9) = W1 at hH3 hl3 hz3 ⊢
    try simp only [List.set_cons_succ, List.set_cons_zero]
    refine rtk 6 (.pointer (some ⟨Wd.heap.size, K, none⟩)) ?_ ?_
    · intro w' hSw; go_simp <;> first | omega | (intro h; exfalso; omega)
    try simp only [List.set_cons_succ, List.set_cons_zero]
    refine wpAnyH_ready (rs := [7, 12]) (by kernel_rfl) (by simp) ?_
    refine AllReadyH.cons rfl (fun K7 hK7 => ?_) (AllReadyH.cons rfl (fun K12 hK12 => ?_) (AllReadyH.nil))
    · go_simp
      refine hK7.out _ _ hH3 (fun hH7 => ?_)
      clear hK7 K7
      try simp only [List.set_cons_succ, List.set_cons_zero]
      refine rtk 8 (.string (S ++ ByteArray.mk #[32] ++ G)) ?_ ?_
      · intro w' hSw; go_simp <;> first | omega | (intro h; exfalso; omega)
      try simp only [List.set_cons_succ, List.set_cons_zero]
      refine rtk 9 (.string (S ++ ByteArray.mk #[32] ++ G ++ ByteArray.mk #[32])) ?_ ?_
      · intro w' hSw; go_simp <;> first | omega | (intro h; exfalso; omega)
      try simp only [List.set_cons_succ, List.set_cons_zero]
      refine wpAnyH_ready (rs := [12]) (by kernel_rfl) (by simp) ?_
      refine AllReadyH.cons rfl (fun K12 hK12 => ?_) (AllReadyH.nil)
      go_simp
      go_at_call 40
      refine (HSC.out _).mono ?_
      rintro e w2 ⟨rfl, hb12⟩
      go_wp2_with fail
      refine hK12.out _ _ (hH7.trans (hb12.mono hH7.size)) (fun hH12 => ?_)
      clear hK12 K12
      try simp only [List.set_cons_succ, List.set_cons_zero]
      refine rtk 13 (.string (S ++ ByteArray.mk #[32] ++ G ++ ByteArray.mk #[32] ++ C)) ?_ ?_
      · intro w' hSw; go_simp <;> first | omega | (intro h; exfalso; omega)
      try simp only [List.set_cons_succ, List.set_cons_zero]
      refine rtk 14 (.string (S ++ ByteArray.mk #[32] ++ G ++ ByteArray.mk #[32] ++ C)) ?_ ?_
      · intro w' hSw; go_simp <;> first | omega | (intro h; exfalso; omega)
      try simp only [List.set_cons_succ, List.set_cons_zero]
      refine wpAnyH_done (by kernel_rfl) ?_ _
      go_wp2_with fail
      go_ret
      exact ⟨ret_str HF.out, HB0.out.trans (hH12.mono HB0.out.size)⟩
    · go_simp
      go_at_call 40
      refine (HSC.out _).mono ?_
      rintro e w2 ⟨rfl, hb12⟩
      go_wp2_with fail
      refine hK12.out _ _ (hH3.trans (hb12.mono hH3.size)) (fun hH12 => ?_)
      clear hK12 K12
      try simp only [List.set_cons_succ, List.set_cons_zero]
      refine wpAnyH_ready (rs := [7]) (by kernel_rfl) (by simp) ?_
      refine AllReadyH.cons rfl (fun K7 hK7 => ?_) (AllReadyH.nil)
      have hl4 := (hb12.cell (p := ⟨Wd.heap.size, K, none⟩) hz3).trans hl3
      go_simp
      refine hK7.out _ _ hH12 (fun hH7 => ?_)
      clear hK7 K7
      try simp only [List.set_cons_succ, List.set_cons_zero]
      refine rtk 8 (.string (S ++ ByteArray.mk #[32] ++ G)) ?_ ?_
      · intro w' hSw; go_simp <;> first | omega | (intro h; exfalso; omega)
      try simp only [List.set_cons_succ, List.set_cons_zero]
      refine rtk 9 (.string (S ++ ByteArray.mk #[32] ++ G ++ ByteArray.mk #[32])) ?_ ?_
      · intro w' hSw; go_simp <;> first | omega | (intro h; exfalso; omega)
      try simp only [List.set_cons_succ, List.set_cons_zero]
      refine rtk 13 (.string (S ++ ByteArray.mk #[32] ++ G ++ ByteArray.mk #[32] ++ C)) ?_ ?_
      · intro w' hSw; go_simp <;> first | omega | (intro h; exfalso; omega)
      try simp only [List.set_cons_succ, List.set_cons_zero]
      refine rtk 14 (.string (S ++ ByteArray.mk #[32] ++ G ++ ByteArray.mk #[32] ++ C)) ?_ ?_
      · intro w' hSw; go_simp <;> first | omega | (intro h; exfalso; omega)
      try simp only [List.set_cons_succ, List.set_cons_zero]
      refine wpAnyH_done (by kernel_rfl) ?_ _
      go_wp2_with fail
      go_ret
      exact ⟨ret_str HF.out, HB0.out.trans (hH7.mono HB0.out.size)⟩
  · go_simp
    go_at_call 40
    refine (HSC.out _).mono ?_
    rintro e w2 ⟨rfl, hb12⟩
    go_wp2_with fail
    refine hK12.out _ _ (hH.trans (hb12.mono hH.size)) (fun hH12 => ?_)
    clear hK12 K12
    try simp only [List.set_cons_succ, List.set_cons_zero]
    refine wpAnyH_ready (rs := [3]) (by kernel_rfl) (by simp) ?_
    refine AllReadyH.cons rfl (fun K3 hK3 => ?_) (AllReadyH.nil)
    go_simp
    have ha3 := (Below.refl w2.heap.size w2).alloc (Nat.le_refl _) (.cells #[.string ⟨#[61, 61]⟩, .string ⟨#[33, 61]⟩, .string ⟨#[60]⟩, .string ⟨#[60, 61]⟩, .string ⟨#[62]⟩, .string ⟨#[62, 61]⟩] 9)
    have hl3 : (w2.alloc (.cells #[.string ⟨#[61, 61]⟩, .string ⟨#[33, 61]⟩, .string ⟨#[60]⟩, .string ⟨#[60, 61]⟩, .string ⟨#[62]⟩, .string ⟨#[62, 61]⟩] 9)).cell? ⟨w2.heap.size, K, none⟩ = some (.string G) := HLT.out w2
    have hz3 : w2.heap.size < (w2.alloc (.cells #[.string ⟨#[61, 61]⟩, .string ⟨#[33, 61]⟩, .string ⟨#[60]⟩, .string ⟨#[60, 61]⟩, .string ⟨#[62]⟩, .string ⟨#[62, 61]⟩] 9)).heap.size := by simp
    refine hK3.out _ _ (hH12.trans (ha3.mono hH12.size)) (fun hH3 => ?_)
    clear hK3 K3
    clear ha3
    generalize w2.alloc (.cells #[.string ⟨#[61, 61]⟩, .string ⟨#[33, 61]⟩, .string ⟨#[60]⟩, .string ⟨#[60, 61]⟩, .string ⟨#[62]⟩, .string ⟨#[62, 61]⟩] 9) = W1 at hH3 hl3 hz3 ⊢
    try simp only [List.set_cons_succ, List.set_cons_zero]
    refine rtk 6 (.pointer (some ⟨w2.heap.size, K, none⟩)) ?_ ?_
    · intro w' hSw; go_simp <;> first | omega | (intro h; exfalso; omega)
    try simp only [List.set_cons_succ, List.set_cons_zero]
    refine wpAnyH_ready (rs := [7]) (by kernel_rfl) (by simp) ?_
    refine AllReadyH.cons rfl (fun K7 hK7 => ?_) (AllReadyH.nil)
    go_simp
    refine hK7.out _ _ hH3 (fun hH7 => ?_)
    clear hK7 K7
    try simp only [List.set_cons_succ, List.set_cons_zero]
    refine rtk 8 (.string (S ++ ByteArray.mk #[32] ++ G)) ?_ ?_
    · intro w' hSw; go_simp <;> first | omega | (intro h; exfalso; omega)
    try simp only [List.set_cons_succ, List.set_cons_zero]
    refine rtk 9 (.string (S ++ ByteArray.mk #[32] ++ G ++ ByteArray.mk #[32])) ?_ ?_
    · intro w' hSw; go_simp <;> first | omega | (intro h; exfalso; omega)
    try simp only [List.set_cons_succ, List.set_cons_zero]
    refine rtk 13 (.string (S ++ ByteArray.mk #[32] ++ G ++ ByteArray.mk #[32] ++ C)) ?_ ?_
    · intro w' hSw; go_simp <;> first | omega | (intro h; exfalso; omega)
    try simp only [List.set_cons_succ, List.set_cons_zero]
    refine rtk 14 (.string (S ++ ByteArray.mk #[32] ++ G ++ ByteArray.mk #[32] ++ C)) ?_ ?_
    · intro w' hSw; go_simp <;> first | omega | (intro h; exfalso; omega)
    try simp only [List.set_cons_succ, List.set_cons_zero]
    refine wpAnyH_done (by kernel_rfl) ?_ _
    go_wp2_with fail
    go_ret
    exact ⟨ret_str HF.out, HB0.out.trans (hH7.mono HB0.out.size)⟩
set_option maxRecDepth 100000 in
set_option maxHeartbeats 8000000 in
theorem refText_16 (t : Tr Tm) (ht : SxT t) (hop : t.nd.op = 16) (v : Value) (w : World) (hv : Tms w v (flat t)) :
    Calls Tryz.prog 14 #[v] w fun e w' => e = .returned (.string ⟨(txF t).toArray⟩) ∧ Below w.heap.size w w' := by
  have hpos := flat_pos t
  have hl30 := ht.len
  have hcs := ht.nd.2.2
  have hno := plainT_n16 ht.plain hop
  have hfc := plainT_c16 ht.plain hop
  obtain ⟨hc1, hc2, hc3, hc5, hc6⟩ := constT_sc hfc
  have HSC := Lib.hid (fun W => refScalar_any t.nd.c W hc2 hc3 hc5 hc6 (by omega))
  have hcl : (scT t.nd.c).length ≤ 2600 := by rw [← hc1]; exact constT_len hfc hcs
  have hs1 := ht.nd.1
  obtain ⟨K, hK, hK6⟩ : ∃ K : Nat, t.nd.n = K ∧ K < 6 := ⟨t.nd.n.toNat, by omega, by omega⟩
  have HF : Hid (ByteArray.mk t.nd.s.toArray ++ ByteArray.mk #[32] ++ ByteArray.mk (signT t.nd.n).toArray ++ ByteArray.mk #[32] ++ ByteArray.mk (scT t.nd.c).toArray = ⟨(txF t).toArray⟩) := Lib.hid (by
    rw [txF_leaf (ks_none ht (by omega))]
    unfold aheadT behindT
    rw [hop, ← hc1]
    exact ByteArray.ext (by simp))
  clear hfc hc1 hc2 hc3 hc5 hc6 hcs hno
  obtain ⟨g, o, c, rfl, hc, hcm, hg, hx⟩ := hv.opened (flat_pos t)
  have htm := (hx 0 t.nd (by rw [flat_eq]; rfl)).tm
  rw [Nat.zero_mul, Nat.add_zero] at htm
  obtain ⟨y0, y1, y2, y3, y4, y5, y6, y7, y8, y9, y10⟩ := htm
  rw [hop] at y0
  clear hx hv ht hl30
  generalize (flat t).length = m at *
  generalize ByteArray.mk (txF t).toArray = R at *
  generalize t.nd = d at *
  rw [hK] at HF y4
  exact refCmp_walk d.many d.name d.s K d.c R g o c m w hg hc hcm hpos ⟨y0, y1, y2, y3, y4, y5, y6, y7, y8, y9, y10⟩ hK6 hs1 hcl HSC.out HF.out
end Go.Proofs.YtdgcdemihalefaaGreatDoor
namespace Go.Proofs.YtdgcdemihalefaaGreatDoor
open Go.RowKit Np Rw Vp Up Qp Tp Pw Fw
set_option maxRecDepth 100000 in
set_option maxHeartbeats 8000000 in
theorem refText_19 {n : Nat} (hQ : TxQ n) (t : Tr Tm) (ht : SxT t) (hn : (flat t).length ≤ n + 1) (hop : t.nd.op = 19) (v : Value) (w : World) (hv : Tms w v (flat t)) :
    Calls Tryz.prog 14 #[v] w fun e w' => e = .returned (.string ⟨(txF t).toArray⟩) ∧ Below w.heap.size w w' := by
  have hpos := flat_pos t
  have hl30 := ht.len
  obtain ⟨u, hks⟩ := ks_one ht (by omega)
  have hui : u ∈ t.ks := by rw [hks]; simp
  have HPA := Lib.hid (fun (W : World) (hW : Below w.heap.size w W) => refPartsL_any v t W (hv.below hW) (by omega) ht.ok)
  rw [hks] at HPA
  have hul : (ByteArray.mk (txF u).toArray).size ≤ 100000000 := by rw [mk_size]; have := (ht.kid hui).fit.len; rwa [txF_clr] at this
  have HTX : Hid (∀ (x : Value) (W : World), Tms W x (flat (clrF u)) → Calls Tryz.prog 14 #[x] W fun e w' => e = .returned (.string ⟨(txF u).toArray⟩) ∧ Below W.heap.size W w') := Lib.hid (fun x W hx => by
    have h := hQ (clrF u) (by have := kid_lt hui; rw [flat_clrF_len]; omega) (ht.kid hui) x W hx
    rwa [txF_clr] at h)
  have HF : Hid (ByteArray.mk #[40] ++ ByteArray.mk (txF u).toArray ++ ByteArray.mk #[32, 124, 32, 110, 111, 116, 41] = ⟨(txF t).toArray⟩) := Lib.hid (by
    rw [txF_one hks (by omega)]
    unfold aheadT behindT
    rw [hop]
    exact ByteArray.ext (by simp))
  generalize ByteArray.mk (txF u).toArray = X at *
  clear hks hui
  obtain ⟨g, o, c, rfl, hc, hcm, hg, hx⟩ := hv.opened (flat_pos t)
  have htm := (hx 0 t.nd (by rw [flat_eq]; rfl)).tm
  rw [Nat.zero_mul, Nat.add_zero] at htm
  obtain ⟨y0, y1, y2, y3, y4, y5, y6, y7, y8, y9, y10⟩ := htm
  rw [hop] at y0
  clear hx hv hQ ht hn hl30
  generalize (flat t).length = m at *
  generalize ByteArray.mk (txF t).toArray = R at *
  generalize t.nd = d at *
  go_enter Tryz.func14, Tryz.ntmps14
  go_wp2_with fail
  refine (HPA.out _ ((Below.refl _ _).alloc (Nat.le_refl _) _)).mono ?_
  rintro e w2 ⟨v2, rfl, hfl, hb2⟩
  obtain ⟨us, hul2, hu, hur⟩ := hfl
  have hul1 : us.length = 1 := by simpa using hul2
  obtain ⟨g1, o1, c1, rfl, hc1, hcm1, hg1, hx1⟩ := hu.opened (by omega)
  obtain ⟨z0, hz0⟩ : ∃ z, us[0]? = some z := ⟨_, List.getElem?_eq_getElem (by omega)⟩
  have b0 := (hx1 0 z0 hz0).one
  have hrow := hur 0 z0 (flat (clrF u)) hz0 rfl
  rw [Nat.add_zero] at b0
  obtain ⟨g3, o3, c3, rfl, hc3, hcm3, hg3, -⟩ := hrow.opened (flat_pos _)
  have HROW := Lib.hid hrow
  have HBW : Hid (Below w.heap.size w w2) := Lib.hid (Below.after ((Below.refl _ _).alloc (Nat.le_refl _) _) hb2)
  rw [hul1] at hc1 ⊢
  clear hul2 hu hur hx1 hz0 hrow hul1 hb2
  go_wp2_with fail
  refine (HTX.out _ _ HROW.out).mono ?_
  rintro e w3 ⟨rfl, hb3⟩
  go_wp2_with fail
  go_ret
  exact ⟨ret_str HF.out, Below.after HBW.out hb3⟩
end Go.Proofs.YtdgcdemihalefaaGreatDoor
namespace Go.Proofs.YtdgcdemihalefaaGreatDoor
open Go.RowKit Np Rw Vp Up Qp Tp Pw Fw
theorem fls_two {W : World} {v : Value} {a b : List Tm} (h : Fls W v [a, b]) : ∃ (g o c : Nat) (x y : Value), v = .slice (some ⟨g, o, none⟩) 2 c ∧ 2 ≤ c ∧ c ≤ maxLen ∧ g < W.heap.size ∧ W.cell? ⟨g, o, none⟩ = some x ∧ W.cell? ⟨g, o + 1, none⟩ = some y ∧ Tms W x a ∧ Tms W y b := by
  obtain ⟨us, hul2, hu, hur⟩ := h
  have hul : us.length = 2 := by simpa using hul2
  obtain ⟨g1, o1, c1, rfl, hc1, hcm1, hg1, hx1⟩ := hu.opened (by omega)
  obtain ⟨z0, hz0⟩ : ∃ z, us[0]? = some z := ⟨_, List.getElem?_eq_getElem (by omega)⟩
  obtain ⟨z1, hz1⟩ : ∃ z, us[1]? = some z := ⟨_, List.getElem?_eq_getElem (by omega)⟩
  have b0 := (hx1 0 z0 hz0).one
  have b1 := (hx1 1 z1 hz1).one
  rw [Nat.add_zero] at b0
  exact ⟨g1, o1, c1, z0, z1, by rw [hul], by omega, hcm1, hg1, b0, b1, hur 0 z0 a hz0 rfl, hur 1 z1 b hz1 rfl⟩
set_option maxRecDepth 100000 in
set_option maxHeartbeats 8000000 in
theorem refText_4 {n : Nat} (hQ : TxQ n) (t : Tr Tm) (ht : SxT t) (hn : (flat t).length ≤ n + 1) (hop : t.nd.op = 4) (v : Value) (w : World) (hv : Tms w v (flat t)) :
    Calls Tryz.prog 14 #[v] w fun e w' => e = .returned (.string ⟨(txF t).toArray⟩) ∧ Below w.heap.size w w' := by
  have hpos := flat_pos t
  have hl30 := ht.len
  obtain ⟨k, u, hks⟩ := ks_two ht hop
  have hki : k ∈ t.ks := by rw [hks]; simp
  have hui : u ∈ t.ks := by rw [hks]; simp
  have HPA := Lib.hid (fun (W : World) (hW : Below w.heap.size w W) => refPartsL_any v t W (hv.below hW) (by omega) ht.ok)
  rw [hks] at HPA
  have hkl : (ByteArray.mk (inT k).toArray).size ≤ 100000002 := by rw [mk_size]; have := (ht.kid hki).inLen; rwa [inT_clr] at this
  have hul : (ByteArray.mk (txF u).toArray).size ≤ 100000000 := by rw [mk_size]; have := (ht.kid hui).fit.len; rwa [txF_clr] at this
  have HIN : Hid (∀ (x : Value) (W : World), Tms W x (flat (clrF k)) → Calls Tryz.prog 38 #[x] W fun e w' => e = .returned (.string ⟨(inT k).toArray⟩) ∧ Below W.heap.size W w') := Lib.hid (fun x W hx => by
    have h := refIn_of hQ (clrF k) (ht.kid hki) (by have := kid_lt hki; rw [flat_clrF_len]; omega) x W hx
    rwa [inT_clr] at h)
  have HTX : Hid (∀ (x : Value) (W : World), Tms W x (flat (clrF u)) → Calls Tryz.prog 14 #[x] W fun e w' => e = .returned (.string ⟨(txF u).toArray⟩) ∧ Below W.heap.size W w') := Lib.hid (fun x W hx => by
    have h := hQ (clrF u) (by have := kid_lt hui; rw [flat_clrF_len]; omega) (ht.kid hui) x W hx
    rwa [txF_clr] at h)
  have HF : Hid (ByteArray.mk (inT k).toArray ++ ByteArray.mk #[32, 124, 32] ++ ByteArray.mk (txF u).toArray = ⟨(txF t).toArray⟩) := Lib.hid (by
    rw [txF_bar ht hop hks]
    exact ByteArray.ext (by simp))
  obtain ⟨g, o, c, rfl, hc, hcm, hg, hx⟩ := hv.opened (flat_pos t)
  have htm := (hx 0 t.nd (by rw [flat_eq]; rfl)).tm
  rw [Nat.zero_mul, Nat.add_zero] at htm
  obtain ⟨y0, y1, y2, y3, y4, y5, y6, y7, y8, y9, y10⟩ := htm
  rw [hop] at y0
  clear hx hv hQ ht hn hl30 hks hki hui
  generalize (flat t).length = m at *
  generalize ByteArray.mk (txF t).toArray = R at *
  generalize ByteArray.mk (inT k).toArray = X at *
  generalize ByteArray.mk (txF u).toArray = Y at *
  generalize t.nd = d at *
  go_enter Tryz.func14, Tryz.ntmps14
  go_wp2_with fail
  refine (HPA.out _ ((Below.refl _ _).alloc (Nat.le_refl _) _)).mono ?_
  rintro e w2 ⟨v2, rfl, hfl, hb2⟩
  obtain ⟨g1, o1, c1, z0, z1, rfl, hc1, hcm1, hg1, b0, -, hz0, -⟩ := fls_two hfl
  obtain ⟨g3, o3, c3, rfl, hc3, hcm3, hg3, -⟩ := hz0.opened (flat_pos _)
  have HZ0 := Lib.hid hz0
  have HBW : Hid (Below w.heap.size w w2) := Lib.hid (Below.after ((Below.refl _ _).alloc (Nat.le_refl _) _) hb2)
  clear hfl hz0 hb2
  go_wp2_with fail
  refine (HIN.out _ _ HZ0.out).mono ?_
  rintro e w3 ⟨rfl, hb3⟩
  have HBW3 : Hid (Below w.heap.size w w3) := Lib.hid (Below.after HBW.out hb3)
  clear hb3 b0
  go_wp2_with fail
  refine (HPA.out _ HBW3.out).mono ?_
  rintro e w4 ⟨v4, rfl, hfl, hb4⟩
  obtain ⟨g5, o5, c5, z5, z6, rfl, hc5, hcm5, hg5, -, b6, -, hz6⟩ := fls_two hfl
  obtain ⟨g7, o7, c7, rfl, hc7, hcm7, hg7, -⟩ := hz6.opened (flat_pos _)
  have HZ6 := Lib.hid hz6
  have HBW4 : Hid (Below w.heap.size w w4) := Lib.hid (Below.after HBW3.out hb4)
  clear hfl hz6 hb4
  go_wp2_with fail
  refine (HTX.out _ _ HZ6.out).mono ?_
  rintro e w5 ⟨rfl, hb5⟩
  go_wp2_with fail
  go_ret
  exact ⟨ret_str HF.out, Below.after HBW4.out hb5⟩
theorem refText_of : ∀ n : Nat, TxQ n
  | 0 => fun t hn => absurd (flat_pos t) (by omega)
  | n + 1 => fun t hn ht v w hv => by
    have hQ := refText_of n
    have ho := plainT_op ht.plain
    have hc : t.nd.op = 0 ∨ t.nd.op = 1 ∨ t.nd.op = 2 ∨ t.nd.op = 3 ∨ t.nd.op = 4 ∨ t.nd.op = 5 ∨ t.nd.op = 6 ∨ t.nd.op = 7 ∨ t.nd.op = 8 ∨ t.nd.op = 9 ∨ t.nd.op = 10 ∨ t.nd.op = 11 ∨ t.nd.op = 12 ∨ t.nd.op = 13 ∨ t.nd.op = 14 ∨ t.nd.op = 15 ∨ t.nd.op = 16 ∨ t.nd.op = 17 ∨ t.nd.op = 18 ∨ t.nd.op = 19 := by omega
    rcases hc with h | h | h | h | h | h | h | h | h | h | h | h | h | h | h | h | h | h | h | h
    · exact refText_0 t ht h v w hv
    · exact refText_1 t ht h v w hv
    · exact refText_2 t ht h v w hv
    · exact refText_3 t ht h v w hv
    · exact refText_4 hQ t ht hn h v w hv
    · exact refText_5 hQ t ht hn h v w hv
    · exact refText_6 hQ t ht hn h v w hv
    · exact refText_7 hQ t ht hn h v w hv
    · exact refText_8 hQ t ht hn h v w hv
    · exact refText_9 hQ t ht hn h v w hv
    · exact refText_10 t ht h v w hv
    · exact refText_11 t ht h v w hv
    · exact refText_12 t ht h v w hv
    · exact refText_13 t ht h v w hv
    · exact refText_14 t ht h v w hv
    · exact refText_15 t ht h v w hv
    · exact refText_16 t ht h v w hv
    · exact refText_17 hQ t ht hn h v w hv
    · exact refText_18 hQ t ht hn h v w hv
    · exact refText_19 hQ t ht hn h v w hv
theorem refTextF_any (t : Tr Tm) (ht : SxT t) (v : Value) (w : World) (hv : Tms w v (flat t)) :
    Calls Tryz.prog 14 #[v] w fun e w' => e = .returned (.string ⟨(txF t).toArray⟩) ∧ Below w.heap.size w w' :=
  refText_of _ t (Nat.le_refl _) ht v w hv
end Go.Proofs.YtdgcdemihalefaaGreatDoor
