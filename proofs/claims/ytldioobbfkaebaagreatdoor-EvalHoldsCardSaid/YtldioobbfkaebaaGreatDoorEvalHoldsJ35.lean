/-
  Joined: ErD, ErI.
-/
import Derived.Test.YtldioobbfkaebaaGreatDoorEvalHoldsJ34
import Derived.Test.YtldioobbfkaebaaGreatDoorEvalHoldsJ27
set_option maxHeartbeats 4000000
set_option maxRecDepth 100000
namespace Go.Proofs.YtldioobbfkaebaaGreatDoor
section
open Go.RowKit Np Rw Vp Up Qp Pw Fw Ev Ov
def Sgn (l : List Tm) : Prop := ∀ x ∈ l, x.op = 16 → (0 ≤ x.n ∧ x.n ≤ 5) ∧ x.c.kind < 5
def HoE (t : Tr Tm) (F : Tr Nd → Bool × Int) : Prop := ∀ (fv v : Value) (u : Tr Nd) (w : World), Tms w fv (flat t) → Nds w v (flat u) → (flat u).length ≤ 60000 → Val u →
 Calls Tryz.prog 10 #[fv, v] w fun e w' => e = .returned (.tuple #[.bool (F u).1, .int .i64 (F u).2]) ∧ Below w.heap.size w w'
theorem cnd_bad {t : Tr Tm} {F : Tr Nd → Bool × Int} (h : CndT t F) : ∀ u, (F u).2 ≠ 0 → (F u).1 = false := by
 induction h with
 | cmp t p k _ _ _ _ _ _ =>
  intro u hu
  have hu' : (cndR t.n t.c (ofO (alongE p u))).2 ≠ 0 := hu
  show (cndR t.n t.c (ofO (alongE p u))).1 = false
  cases ha : alongE p u with
  | none => rfl
  | some z => rw [ha] at hu'; exact absurd rfl hu'
 | and t a b F G _ _ _ hF hG =>
  intro u hu
  unfold joinP at hu ⊢
  split at hu
  ·rw [if_pos (by assumption)]; exact hF u hu
  ·rw [if_neg (by assumption)]; exact hG u hu
 | or t a b F G _ _ _ hF hG =>
  intro u hu
  unfold joinP at hu ⊢
  split at hu
  ·rw [if_pos (by assumption)]; exact hF u hu
  ·rw [if_neg (by assumption)]; exact hG u hu
 | not t a F _ _ hF =>
  intro u hu
  unfold notP at hu ⊢
  simp only at hu ⊢
  simp [hu]
theorem refHolds10_not (t : Tm) (a : Tr Tm) (F : Tr Nd → Bool × Int) (hop : t.op = 19) (hl : (flat (Tr.mk t [a])).length ≤ 60000) (ho : okT tmany (.mk t [a])) (hF : HoE (rnF [] a) F) (hbad : ∀ u, (F u).2 ≠ 0 → (F u).1 = false) : HoE (.mk t [a]) (notP F) := by
 intro fv v u w hf hv hul hu
 have HPL : Hid (∀ W, Below w.heap.size w W → Calls Tryz.prog 29 #[fv] W (GivesFs W [flat (rnF [] a)])) := Lib.hid fun W hW => refPartsL_any fv (.mk t [a]) W (hf.below hW) hl ho
 obtain ⟨g, o, c, rfl, hc, hcm, hg, hx⟩ := hf.opened (flat_pos _)
 obtain ⟨a0, a1, a2, a3, a4, a5, a6, a7, a8, a9, a10⟩ := (hx 0 t (by rw [flat_mk]; rfl)).tm
 rw [Nat.zero_mul, Nat.add_zero] at a0 a1 a2 a3 a4 a5 a6 a7 a8 a9 a10
 have HV := Lib.hid hv
 obtain ⟨VA, vc, rfl, -⟩ := hv
 rw [hop] at a0
 have hfl := flat_pos (Tr.mk t [a])
 clear hx hf
 generalize (flat (Tr.mk t [a])).length = q at *
 have HHO : Hid (∀ (A : Option Addr) (n d : Nat) W, Below w.heap.size w W → Tms W (.slice A n d) (flat (rnF [] a)) → Calls Tryz.prog 10 #[.slice A n d, .slice VA (flat u).length vc] W fun e w' => e = .returned (.tuple #[.bool (F u).1, .int .i64 (F u).2]) ∧ Below W.heap.size W w') := Lib.hid fun A n d W hW hT => hF _ _ u W hT (HV.out.below hW) hul hu
 have hbu := hbad u
 obtain ⟨R, hR⟩ : ∃ R, R = (notP F) u := ⟨_, rfl⟩
 rw [← hR]
 have HR : Hid (R = (decide ((F u).2 = 0) && !(F u).1, (F u).2)) := Lib.hid hR
 clear hR hF hbad
 generalize F u = CR at *
 obtain ⟨b1, e1⟩ := CR
 simp only at HHO HR hbu
 generalize (flat u).length = m at *
 have hA0 : Below w.heap.size w (w.alloc (.cells #[.int .i64 19, .int .i64 t.many, .string ⟨t.name.toArray⟩, .string ⟨t.s.toArray⟩, .int .i64 t.n, .int .i64 t.c.kind, .int .i64 t.c.many, .string ⟨t.c.name.toArray⟩, .string ⟨t.c.s.toArray⟩, .bool t.c.neg, .int .i64 t.c.e] 32)) := (Below.refl _ _).alloc (Nat.le_refl _) _
 have hs0 : (w.alloc (.cells #[.int .i64 19, .int .i64 t.many, .string ⟨t.name.toArray⟩, .string ⟨t.s.toArray⟩, .int .i64 t.n, .int .i64 t.c.kind, .int .i64 t.c.many, .string ⟨t.c.name.toArray⟩, .string ⟨t.c.s.toArray⟩, .bool t.c.neg, .int .i64 t.c.e] 32)).heap.size = w.heap.size + 1 := by simp
 have HTC : Hid (∀ W, Below (w.heap.size + 1) (w.alloc (.cells #[.int .i64 19, .int .i64 t.many, .string ⟨t.name.toArray⟩, .string ⟨t.s.toArray⟩, .int .i64 t.n, .int .i64 t.c.kind, .int .i64 t.c.many, .string ⟨t.c.name.toArray⟩, .string ⟨t.c.s.toArray⟩, .bool t.c.neg, .int .i64 t.c.e] 32)) W → W.cell? ⟨w.heap.size, 0, none⟩ = some (.int .i64 19)) := Lib.hid fun W hW => by
  have h := (hW.block w.heap.size (Nat.lt_succ_self _)).trans (heap_alloc_new w (.cells #[.int .i64 19, .int .i64 t.many, .string ⟨t.name.toArray⟩, .string ⟨t.s.toArray⟩, .int .i64 t.n, .int .i64 t.c.kind, .int .i64 t.c.many, .string ⟨t.c.name.toArray⟩, .string ⟨t.c.s.toArray⟩, .bool t.c.neg, .int .i64 t.c.e] 32))
  rw [Lib.cell_of_heap h]; rfl
 go_enter Tryz.func10, Tryz.ntmps10
 go_wp2_with fail
 generalize w.alloc _ = W0 at hA0 HTC hs0 ⊢
 refine (HPL.out W0 hA0).mono ?_
 rintro e W1 ⟨v1, rfl, ⟨us, hul1, hu1, hur⟩, hb1⟩
 have HB1 := Lib.hid (Below.after hA0 hb1)
 rw [hs0] at hb1
 have HT1 := Lib.hid hb1
 have hls : us.length = 1 := hul1
 obtain ⟨g1, o1, c1, rfl, hc1, hcm1, hg1, hx1⟩ := hu1.opened (by omega)
 have y0 := hx1 0 us[0] (List.getElem?_eq_getElem (by omega)) 0 us[0] rfl
 have hN0 := hur 0 us[0] _ (List.getElem?_eq_getElem (by omega)) rfl
 simp only [Nat.zero_mul, Nat.add_zero] at y0
 have HN0 := Lib.hid hN0
 rw [hls] at hc1
 have t0 := HTC.out W1 hb1
 obtain ⟨A2, n2, d2, hv2⟩ : ∃ (A2 : Option Addr) (n2 d2 : Nat), us[0] = .slice A2 n2 d2 := by obtain ⟨A2, d2, h, -⟩ := hN0; exact ⟨A2, _, d2, h⟩
 rw [hv2] at y0 HN0
 clear hb1 hx1 hur hu1 hv2 hN0 hul1 a0 a1 a2 a3 a4 a5 a6 a7 a8 a9 a10 hA0 HPL
 generalize us.length = ul at *
 subst hls
 go_wp2_with fail
 refine (HHO.out _ _ _ W1 HB1.out HN0.out).mono ?_
 rintro e W2 ⟨rfl, hb2⟩
 have HB2 := Lib.hid (Below.after HB1.out hb2)
 have hT2 := HT1.out.trans (hb2.mono (Nat.le_trans (by omega) HT1.out.size))
 have s0 := HTC.out W2 hT2
 clear hb2 hT2 t0 y0
 by_cases he : e1 = 0
 ·subst he
  go_wp2_with fail
  exact bodyPost_ret (v := .tuple #[.bool (!b1), .int .i64 0]) (by simp [results, Tryz.results10, go_sem]) rfl ⟨by rw [HR.out]; simp, HB2.out⟩
 ·have hbf : b1 = false := hbu he
  subst hbf
  have he2 : (e1 == 0) = false := by simpa using he
  go_wp2_with fail
  exact bodyPost_ret (v := .tuple #[.bool false, .int .i64 e1]) (by simp [results, Tryz.results10, go_sem]) rfl ⟨by rw [HR.out]; simp [he], HB2.out⟩
theorem refHolds10_and (t : Tm) (a b : Tr Tm) (F G : Tr Nd → Bool × Int) (hop : t.op = 17) (hl : (flat (Tr.mk t [a, b])).length ≤ 60000) (ho : okT tmany (.mk t [a, b])) (hF : HoE (rnF [] a) F) (hG : HoE (rnF [] b) G) (hbad : ∀ u, (F u).2 ≠ 0 → (F u).1 = false) : HoE (.mk t [a, b]) (joinP false F G) := by
 intro fv v u w hf hv hul hu
 have HPL : Hid (∀ W, Below w.heap.size w W → Calls Tryz.prog 29 #[fv] W (GivesFs W [flat (rnF [] a), flat (rnF [] b)])) := Lib.hid fun W hW => refPartsL_any fv (.mk t [a, b]) W (hf.below hW) hl ho
 obtain ⟨g, o, c, rfl, hc, hcm, hg, hx⟩ := hf.opened (flat_pos _)
 obtain ⟨a0, a1, a2, a3, a4, a5, a6, a7, a8, a9, a10⟩ := (hx 0 t (by rw [flat_mk]; rfl)).tm
 rw [Nat.zero_mul, Nat.add_zero] at a0 a1 a2 a3 a4 a5 a6 a7 a8 a9 a10
 have HV := Lib.hid hv
 obtain ⟨VA, vc, rfl, -⟩ := hv
 rw [hop] at a0
 have hfl := flat_pos (Tr.mk t [a, b])
 clear hx hf
 generalize (flat (Tr.mk t [a, b])).length = q at *
 have HHO : Hid (∀ (A : Option Addr) (n d : Nat) W, Below w.heap.size w W → Tms W (.slice A n d) (flat (rnF [] a)) → Calls Tryz.prog 10 #[.slice A n d, .slice VA (flat u).length vc] W fun e w' => e = .returned (.tuple #[.bool (F u).1, .int .i64 (F u).2]) ∧ Below W.heap.size W w') := Lib.hid fun A n d W hW hT => hF _ _ u W hT (HV.out.below hW) hul hu
 have HHG : Hid (∀ (A : Option Addr) (n d : Nat) W, Below w.heap.size w W → Tms W (.slice A n d) (flat (rnF [] b)) → Calls Tryz.prog 10 #[.slice A n d, .slice VA (flat u).length vc] W fun e w' => e = .returned (.tuple #[.bool (G u).1, .int .i64 (G u).2]) ∧ Below W.heap.size W w') := Lib.hid fun A n d W hW hT => hG _ _ u W hT (HV.out.below hW) hul hu
 have hbu := hbad u
 obtain ⟨R, hR⟩ : ∃ R, R = (joinP false F G) u := ⟨_, rfl⟩
 rw [← hR]
 have HR : Hid (R = if (F u).2 ≠ 0 ∨ (F u).1 = false then F u else G u) := Lib.hid hR
 clear hR hF hG hbad
 generalize F u = CR at *
 generalize G u = CG at *
 obtain ⟨b2, e2⟩ := CG
 obtain ⟨b1, e1⟩ := CR
 simp only at HHO HR hbu HHG
 generalize (flat u).length = m at *
 have hA0 : Below w.heap.size w (w.alloc (.cells #[.int .i64 17, .int .i64 t.many, .string ⟨t.name.toArray⟩, .string ⟨t.s.toArray⟩, .int .i64 t.n, .int .i64 t.c.kind, .int .i64 t.c.many, .string ⟨t.c.name.toArray⟩, .string ⟨t.c.s.toArray⟩, .bool t.c.neg, .int .i64 t.c.e] 32)) := (Below.refl _ _).alloc (Nat.le_refl _) _
 have hs0 : (w.alloc (.cells #[.int .i64 17, .int .i64 t.many, .string ⟨t.name.toArray⟩, .string ⟨t.s.toArray⟩, .int .i64 t.n, .int .i64 t.c.kind, .int .i64 t.c.many, .string ⟨t.c.name.toArray⟩, .string ⟨t.c.s.toArray⟩, .bool t.c.neg, .int .i64 t.c.e] 32)).heap.size = w.heap.size + 1 := by simp
 have HTC : Hid (∀ W, Below (w.heap.size + 1) (w.alloc (.cells #[.int .i64 17, .int .i64 t.many, .string ⟨t.name.toArray⟩, .string ⟨t.s.toArray⟩, .int .i64 t.n, .int .i64 t.c.kind, .int .i64 t.c.many, .string ⟨t.c.name.toArray⟩, .string ⟨t.c.s.toArray⟩, .bool t.c.neg, .int .i64 t.c.e] 32)) W → W.cell? ⟨w.heap.size, 0, none⟩ = some (.int .i64 17)) := Lib.hid fun W hW => by
  have h := (hW.block w.heap.size (Nat.lt_succ_self _)).trans (heap_alloc_new w (.cells #[.int .i64 17, .int .i64 t.many, .string ⟨t.name.toArray⟩, .string ⟨t.s.toArray⟩, .int .i64 t.n, .int .i64 t.c.kind, .int .i64 t.c.many, .string ⟨t.c.name.toArray⟩, .string ⟨t.c.s.toArray⟩, .bool t.c.neg, .int .i64 t.c.e] 32))
  rw [Lib.cell_of_heap h]; rfl
 go_enter Tryz.func10, Tryz.ntmps10
 go_wp2_with fail
 generalize w.alloc _ = W0 at hA0 HTC hs0 ⊢
 refine (HPL.out W0 hA0).mono ?_
 rintro e W1 ⟨v1, rfl, ⟨us, hul1, hu1, hur⟩, hb1⟩
 have HB1 := Lib.hid (Below.after hA0 hb1)
 rw [hs0] at hb1
 have HT1 := Lib.hid hb1
 have hls : us.length = 2 := hul1
 obtain ⟨g1, o1, c1, rfl, hc1, hcm1, hg1, hx1⟩ := hu1.opened (by omega)
 have y0 := hx1 0 us[0] (List.getElem?_eq_getElem (by omega)) 0 us[0] rfl
 have hN0 := hur 0 us[0] _ (List.getElem?_eq_getElem (by omega)) rfl
 have y1 := hx1 1 us[1] (List.getElem?_eq_getElem (by omega)) 0 us[1] rfl
 have hN1 := hur 1 us[1] _ (List.getElem?_eq_getElem (by omega)) rfl
 simp only [Nat.zero_mul, Nat.add_zero] at y0
 have HN0 := Lib.hid hN0
 simp only [Nat.one_mul, Nat.add_zero] at y1
 have HN1 := Lib.hid hN1
 have HY1 := Lib.hid (⟨y1, hg1⟩ : W1.cell? ⟨g1, o1 + 1, none⟩ = some us[1] ∧ g1 < W1.heap.size)
 rw [hls] at hc1
 have t0 := HTC.out W1 hb1
 obtain ⟨A2, n2, d2, hv2⟩ : ∃ (A2 : Option Addr) (n2 d2 : Nat), us[0] = .slice A2 n2 d2 := by obtain ⟨A2, d2, h, -⟩ := hN0; exact ⟨A2, _, d2, h⟩
 rw [hv2] at y0 HN0
 obtain ⟨A3, n3, d3, hv3⟩ : ∃ (A3 : Option Addr) (n3 d3 : Nat), us[1] = .slice A3 n3 d3 := by obtain ⟨A3, d3, h, -⟩ := hN1; exact ⟨A3, _, d3, h⟩
 rw [hv3] at y1 HN1 HY1
 clear hb1 hx1 hur hu1 hv2 hN0 hul1 a0 a1 a2 a3 a4 a5 a6 a7 a8 a9 a10 hA0 HPL hN1 hv3
 generalize us.length = ul at *
 subst hls
 go_wp2_with fail
 refine (HHO.out _ _ _ W1 HB1.out HN0.out).mono ?_
 rintro e W2 ⟨rfl, hb2⟩
 have HB2 := Lib.hid (Below.after HB1.out hb2)
 have hT2 := HT1.out.trans (hb2.mono (Nat.le_trans (by omega) HT1.out.size))
 have s0 := HTC.out W2 hT2
 have HY2 : Hid (W2.cell? ⟨g1, o1 + 1, none⟩ = some (.slice A3 n3 d3)) := Lib.hid ((hb2.cell (p := ⟨g1, o1 + 1, none⟩) HY1.out.2).trans HY1.out.1)
 have HN2 := Lib.hid (Row.below HN1.out hb2)
 have s1 := HY2.out
 clear hb2 hT2 t0 y0 y1
 by_cases he : e1 = 0
 ·subst he
  cases b1 with
  | false =>
   go_wp2_with fail
   exact bodyPost_ret (v := .tuple #[.bool false, .int .i64 0]) (by simp [results, Tryz.results10, go_sem]) rfl ⟨by rw [HR.out]; simp, HB2.out⟩
  | true =>
   go_wp2_with fail
   refine (HHG.out _ _ _ W2 HB2.out HN2.out).mono ?_
   rintro e W3 ⟨rfl, hb3⟩
   have HB3 := Lib.hid (Below.after HB2.out hb3)
   clear hb3 s0 s1
   go_wp2_with fail
   exact bodyPost_ret (v := .tuple #[.bool b2, .int .i64 e2]) (by simp [results, Tryz.results10, go_sem]) rfl ⟨by rw [HR.out]; simp, HB3.out⟩
 ·have hbf : b1 = false := hbu he
  subst hbf
  have he2 : (e1 == 0) = false := by simpa using he
  go_wp2_with fail
  exact bodyPost_ret (v := .tuple #[.bool false, .int .i64 e1]) (by simp [results, Tryz.results10, go_sem]) rfl ⟨by rw [HR.out]; simp [he], HB2.out⟩
theorem refHolds10_or (t : Tm) (a b : Tr Tm) (F G : Tr Nd → Bool × Int) (hop : t.op = 18) (hl : (flat (Tr.mk t [a, b])).length ≤ 60000) (ho : okT tmany (.mk t [a, b])) (hF : HoE (rnF [] a) F) (hG : HoE (rnF [] b) G) (hbad : ∀ u, (F u).2 ≠ 0 → (F u).1 = false) : HoE (.mk t [a, b]) (joinP true F G) := by
 intro fv v u w hf hv hul hu
 have HPL : Hid (∀ W, Below w.heap.size w W → Calls Tryz.prog 29 #[fv] W (GivesFs W [flat (rnF [] a), flat (rnF [] b)])) := Lib.hid fun W hW => refPartsL_any fv (.mk t [a, b]) W (hf.below hW) hl ho
 obtain ⟨g, o, c, rfl, hc, hcm, hg, hx⟩ := hf.opened (flat_pos _)
 obtain ⟨a0, a1, a2, a3, a4, a5, a6, a7, a8, a9, a10⟩ := (hx 0 t (by rw [flat_mk]; rfl)).tm
 rw [Nat.zero_mul, Nat.add_zero] at a0 a1 a2 a3 a4 a5 a6 a7 a8 a9 a10
 have HV := Lib.hid hv
 obtain ⟨VA, vc, rfl, -⟩ := hv
 rw [hop] at a0
 have hfl := flat_pos (Tr.mk t [a, b])
 clear hx hf
 generalize (flat (Tr.mk t [a, b])).length = q at *
 have HHO : Hid (∀ (A : Option Addr) (n d : Nat) W, Below w.heap.size w W → Tms W (.slice A n d) (flat (rnF [] a)) → Calls Tryz.prog 10 #[.slice A n d, .slice VA (flat u).length vc] W fun e w' => e = .returned (.tuple #[.bool (F u).1, .int .i64 (F u).2]) ∧ Below W.heap.size W w') := Lib.hid fun A n d W hW hT => hF _ _ u W hT (HV.out.below hW) hul hu
 have HHG : Hid (∀ (A : Option Addr) (n d : Nat) W, Below w.heap.size w W → Tms W (.slice A n d) (flat (rnF [] b)) → Calls Tryz.prog 10 #[.slice A n d, .slice VA (flat u).length vc] W fun e w' => e = .returned (.tuple #[.bool (G u).1, .int .i64 (G u).2]) ∧ Below W.heap.size W w') := Lib.hid fun A n d W hW hT => hG _ _ u W hT (HV.out.below hW) hul hu
 have hbu := hbad u
 obtain ⟨R, hR⟩ : ∃ R, R = (joinP true F G) u := ⟨_, rfl⟩
 rw [← hR]
 have HR : Hid (R = if (F u).2 ≠ 0 ∨ (F u).1 = true then F u else G u) := Lib.hid hR
 clear hR hF hG hbad
 generalize F u = CR at *
 generalize G u = CG at *
 obtain ⟨b2, e2⟩ := CG
 obtain ⟨b1, e1⟩ := CR
 simp only at HHO HR hbu HHG
 generalize (flat u).length = m at *
 have hA0 : Below w.heap.size w (w.alloc (.cells #[.int .i64 18, .int .i64 t.many, .string ⟨t.name.toArray⟩, .string ⟨t.s.toArray⟩, .int .i64 t.n, .int .i64 t.c.kind, .int .i64 t.c.many, .string ⟨t.c.name.toArray⟩, .string ⟨t.c.s.toArray⟩, .bool t.c.neg, .int .i64 t.c.e] 32)) := (Below.refl _ _).alloc (Nat.le_refl _) _
 have hs0 : (w.alloc (.cells #[.int .i64 18, .int .i64 t.many, .string ⟨t.name.toArray⟩, .string ⟨t.s.toArray⟩, .int .i64 t.n, .int .i64 t.c.kind, .int .i64 t.c.many, .string ⟨t.c.name.toArray⟩, .string ⟨t.c.s.toArray⟩, .bool t.c.neg, .int .i64 t.c.e] 32)).heap.size = w.heap.size + 1 := by simp
 have HTC : Hid (∀ W, Below (w.heap.size + 1) (w.alloc (.cells #[.int .i64 18, .int .i64 t.many, .string ⟨t.name.toArray⟩, .string ⟨t.s.toArray⟩, .int .i64 t.n, .int .i64 t.c.kind, .int .i64 t.c.many, .string ⟨t.c.name.toArray⟩, .string ⟨t.c.s.toArray⟩, .bool t.c.neg, .int .i64 t.c.e] 32)) W → W.cell? ⟨w.heap.size, 0, none⟩ = some (.int .i64 18)) := Lib.hid fun W hW => by
  have h := (hW.block w.heap.size (Nat.lt_succ_self _)).trans (heap_alloc_new w (.cells #[.int .i64 18, .int .i64 t.many, .string ⟨t.name.toArray⟩, .string ⟨t.s.toArray⟩, .int .i64 t.n, .int .i64 t.c.kind, .int .i64 t.c.many, .string ⟨t.c.name.toArray⟩, .string ⟨t.c.s.toArray⟩, .bool t.c.neg, .int .i64 t.c.e] 32))
  rw [Lib.cell_of_heap h]; rfl
 go_enter Tryz.func10, Tryz.ntmps10
 go_wp2_with fail
 generalize w.alloc _ = W0 at hA0 HTC hs0 ⊢
 refine (HPL.out W0 hA0).mono ?_
 rintro e W1 ⟨v1, rfl, ⟨us, hul1, hu1, hur⟩, hb1⟩
 have HB1 := Lib.hid (Below.after hA0 hb1)
 rw [hs0] at hb1
 have HT1 := Lib.hid hb1
 have hls : us.length = 2 := hul1
 obtain ⟨g1, o1, c1, rfl, hc1, hcm1, hg1, hx1⟩ := hu1.opened (by omega)
 have y0 := hx1 0 us[0] (List.getElem?_eq_getElem (by omega)) 0 us[0] rfl
 have hN0 := hur 0 us[0] _ (List.getElem?_eq_getElem (by omega)) rfl
 have y1 := hx1 1 us[1] (List.getElem?_eq_getElem (by omega)) 0 us[1] rfl
 have hN1 := hur 1 us[1] _ (List.getElem?_eq_getElem (by omega)) rfl
 simp only [Nat.zero_mul, Nat.add_zero] at y0
 have HN0 := Lib.hid hN0
 simp only [Nat.one_mul, Nat.add_zero] at y1
 have HN1 := Lib.hid hN1
 have HY1 := Lib.hid (⟨y1, hg1⟩ : W1.cell? ⟨g1, o1 + 1, none⟩ = some us[1] ∧ g1 < W1.heap.size)
 rw [hls] at hc1
 have t0 := HTC.out W1 hb1
 obtain ⟨A2, n2, d2, hv2⟩ : ∃ (A2 : Option Addr) (n2 d2 : Nat), us[0] = .slice A2 n2 d2 := by obtain ⟨A2, d2, h, -⟩ := hN0; exact ⟨A2, _, d2, h⟩
 rw [hv2] at y0 HN0
 obtain ⟨A3, n3, d3, hv3⟩ : ∃ (A3 : Option Addr) (n3 d3 : Nat), us[1] = .slice A3 n3 d3 := by obtain ⟨A3, d3, h, -⟩ := hN1; exact ⟨A3, _, d3, h⟩
 rw [hv3] at y1 HN1 HY1
 clear hb1 hx1 hur hu1 hv2 hN0 hul1 a0 a1 a2 a3 a4 a5 a6 a7 a8 a9 a10 hA0 HPL hN1 hv3
 generalize us.length = ul at *
 subst hls
 go_wp2_with fail
 refine (HHO.out _ _ _ W1 HB1.out HN0.out).mono ?_
 rintro e W2 ⟨rfl, hb2⟩
 have HB2 := Lib.hid (Below.after HB1.out hb2)
 have hT2 := HT1.out.trans (hb2.mono (Nat.le_trans (by omega) HT1.out.size))
 have s0 := HTC.out W2 hT2
 have HY2 : Hid (W2.cell? ⟨g1, o1 + 1, none⟩ = some (.slice A3 n3 d3)) := Lib.hid ((hb2.cell (p := ⟨g1, o1 + 1, none⟩) HY1.out.2).trans HY1.out.1)
 have HN2 := Lib.hid (Row.below HN1.out hb2)
 have s1 := HY2.out
 clear hb2 hT2 t0 y0 y1
 by_cases he : e1 = 0
 ·subst he
  cases b1 with
  | true =>
   go_wp2_with fail
   exact bodyPost_ret (v := .tuple #[.bool true, .int .i64 0]) (by simp [results, Tryz.results10, go_sem]) rfl ⟨by rw [HR.out]; simp, HB2.out⟩
  | false =>
   go_wp2_with fail
   refine (HHG.out _ _ _ W2 HB2.out HN2.out).mono ?_
   rintro e W3 ⟨rfl, hb3⟩
   have HB3 := Lib.hid (Below.after HB2.out hb3)
   clear hb3 s0 s1
   go_wp2_with fail
   exact bodyPost_ret (v := .tuple #[.bool b2, .int .i64 e2]) (by simp [results, Tryz.results10, go_sem]) rfl ⟨by rw [HR.out]; simp, HB3.out⟩
 ·have hbf : b1 = false := hbu he
  subst hbf
  have he2 : (e1 == 0) = false := by simpa using he
  go_wp2_with fail
  exact bodyPost_ret (v := .tuple #[.bool false, .int .i64 e1]) (by simp [results, Tryz.results10, go_sem]) rfl ⟨by rw [HR.out]; simp [he], HB2.out⟩
theorem Sgn.sub {l m : List Tm} (h : Sgn l) (hs : ∀ x ∈ m, x ∈ l) : Sgn m := fun x hx => h x (hs x hx)
theorem refHolds10_any {t : Tr Tm} {F : Tr Nd → Bool × Int} (h : CndT t F) : ∀ nm, (flat t).length ≤ 60000 → okT tmany t → Sgn (flat t) → HoE (rnF nm t) F := by
 induction h with
 | cmp t p k h16 hr hps hsl hcv _ =>
  intro nm hl ho hs fv v u w hf hv hul hu
  have h1 := hs t (by rw [flat_mk]; simp) h16
  refine refHolds10_cmp { t with name := nm } p k h16 hr hps hsl hcv h1.2 h1.1.1 h1.1.2 fv v u w ?_ hv hul hu
  have e : flat (rnF nm (Tr.mk t [])) = [{ t with name := nm }] := by rw [rnF, flat_mk]; rfl
  rwa [e] at hf
 | and t a b F G h17 hA hB ihA ihB =>
  intro nm hl ho hs
  have e : flat (Tr.mk t [a, b]) = t :: (flat a ++ flat b) := by rw [flat_mk, flats_cons, flats_cons, flats_nil, List.append_nil]
  obtain ⟨h1, h2⟩ := okT_mk.1 ho
  have hk := okTs_all.1 h2
  rw [e] at hl hs
  simp at hl
  refine refHolds10_and { t with name := nm } a b F G h17 ?_ (okT_mk.2 ⟨h1, h2⟩) (ihA [] (by omega) (hk a (by simp)) (hs.sub fun x hx => by simp [hx])) (ihB [] (by omega) (hk b (by simp)) (hs.sub fun x hx => by simp [hx])) (cnd_bad hA)
  rw [flat_mk, flats_cons, flats_cons, flats_nil, List.append_nil]
  simp
  omega
 | or t a b F G h18 hA hB ihA ihB =>
  intro nm hl ho hs
  have e : flat (Tr.mk t [a, b]) = t :: (flat a ++ flat b) := by rw [flat_mk, flats_cons, flats_cons, flats_nil, List.append_nil]
  obtain ⟨h1, h2⟩ := okT_mk.1 ho
  have hk := okTs_all.1 h2
  rw [e] at hl hs
  simp at hl
  refine refHolds10_or { t with name := nm } a b F G h18 ?_ (okT_mk.2 ⟨h1, h2⟩) (ihA [] (by omega) (hk a (by simp)) (hs.sub fun x hx => by simp [hx])) (ihB [] (by omega) (hk b (by simp)) (hs.sub fun x hx => by simp [hx])) (cnd_bad hA)
  rw [flat_mk, flats_cons, flats_cons, flats_nil, List.append_nil]
  simp
  omega
 | not t a F h19 hA ihA =>
  intro nm hl ho hs
  have e : flat (Tr.mk t [a]) = t :: flat a := by rw [flat_mk, flats_cons, flats_nil, List.append_nil]
  obtain ⟨h1, h2⟩ := okT_mk.1 ho
  have hk := okTs_all.1 h2
  rw [e] at hl hs
  simp at hl
  refine refHolds10_not { t with name := nm } a F h19 ?_ (okT_mk.2 ⟨h1, h2⟩) (ihA [] (by omega) (hk a (by simp)) (hs.sub fun x hx => by simp [hx])) (cnd_bad hA)
  rw [flat_mk, flats_cons, flats_nil, List.append_nil]
  simp
  omega
end
section
open Go.RowKit Np Rw Vp Up Qp Pw Fw Ev Ov
theorem flats_memT : ∀ {ts : List (Tr Tm)} {x : Tm}, x ∈ flats ts → ∃ k ∈ ts, x ∈ flat k
 | [], x, h => by simp at h
 | t :: ts, x, h => by
  rw [flats_cons] at h
  rcases List.mem_append.1 h with h | h
  ·exact ⟨t, by simp, h⟩
  ·obtain ⟨k, hk, hx⟩ := flats_memT h
   exact ⟨k, by simp [hk], hx⟩
theorem plain_all : ∀ (m : Nat) (t : Tr Tm), (flat t).length ≤ m → okT tmany t → rightTF t = true → ∀ x ∈ flat t, plainT x = true
 | 0, t, hm, _, _ => by rw [flat_eq] at hm; simp at hm
 | m + 1, .mk d ks, hm, ho, hr => by
  have hk := flt_kids ho hr
  simp only [Tr.ks_mk, Tr.nd_mk] at hk
  rw [rightTF_mk, Bool.and_eq_true] at hr
  intro x hx
  rw [flat_mk] at hx hm
  rcases List.mem_cons.1 hx with rfl | hx
  ·exact hr.1
  ·obtain ⟨k, hkm, hxk⟩ := flats_memT hx
   obtain ⟨h1, h2, -⟩ := hk k hkm
   obtain ⟨A, B, e⟩ := flats_split hkm
   exact plain_all m k (by rw [e] at hm; simp at hm; omega) h1 h2 x hxk
theorem sgn_of_right {t : Tr Tm} (ho : okT tmany t) (hr : rightTF t = true) : Sgn (flat t) := by
 intro x hx h16
 have hp := plain_all _ t (Nat.le_refl _) ho hr x hx
 unfold plainT at hp
 simp only [Bool.and_eq_true, decide_eq_true_eq] at hp
 obtain ⟨⟨-, h4⟩, h5⟩ := hp
 rw [h16] at h4 h5
 simp [nOk] at h4
 simp [cOk, flatN] at h5
 refine ⟨h4, ?_⟩
 obtain ⟨h6, h7⟩ := h5
 have hv := (leafE_of h6).rt
 rw [rightT_mk, Bool.and_eq_true] at hv
 have h8 := hv.1
 unfold plainN at h8
 unfold cont at h7
 simp at h7
 split at h8
 ·omega
 ·repeat' split at h8
  all_goals first | omega | cases h8
end
end Go.Proofs.YtldioobbfkaebaaGreatDoor
