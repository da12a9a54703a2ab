/-
  Joined: Ow5.
-/
import Derived.Test.YtbffeffplabaeaaOrderTotalJ13

/-
  What (*pair).value and order.Cmp answer.
-/
namespace Go.Proofs.Ytbffeffplabaeaa
open Go.RowKit Np Rw Vp Ov

theorem drop_flat (t : Tr Nd) (r : List Nd) : (flat t ++ r).tail = flats t.ks ++ r := by rw [flat_eq]; rfl
theorem nxt_flat (t : Tr Nd) (r : List Nd) : nxtN (flat t ++ r) = t.nd := by rw [flat_eq]; rfl
/-- What value asks of a value: its nodes are right. -/
structure Ok9 (t : Tr Nd) : Prop where
  ok : okT many t
  rt : rightT t = true
theorem Ok9.kids {t : Tr Nd} (h : Ok9 t) : ∀ u ∈ t.ks, Ok9 u := fun u hu => ⟨((Val.clr h.ok h.rt).parts u hu).1, ((Val.clr h.ok h.rt).parts u hu).2⟩
theorem Ok9.plain {t : Tr Nd} (h : Ok9 t) : plainN t.nd = true := (Val.clr h.ok h.rt).plain
theorem Ok9.many {t : Tr Nd} (h : Ok9 t) : t.nd.many = t.ks.length := (okT_eq.1 h.ok).1
theorem Ok9.kinds {t : Tr Nd} (h : Ok9 t) : t.nd.kind = 0 ∨ t.nd.kind = 1 ∨ t.nd.kind = 2 ∨ t.nd.kind = 3 ∨ t.nd.kind = 4 ∨ t.nd.kind = 5 ∨ t.nd.kind = 6 := by
  have := h.plain
  unfold plainN at this
  split at this
  · omega
  · split at this
    · omega
    · split at this
      · omega
      · split at this
        · omega
        · cases this
theorem Ok9.leaf {t : Tr Nd} (h : Ok9 t) (h5 : t.nd.kind ≠ 5) (h6 : t.nd.kind ≠ 6) : t.ks = [] := (Val.clr h.ok h.rt).leaf h5 h6

set_option maxRecDepth 100000 in
set_option maxHeartbeats 4000000 in
theorem value_of {t u : Tr Nd} (ht : Ok9 t) (hu : Ok9 u) (H : ∀ a ∈ t.ks, ∀ b ∈ u.ks, ValueQ a b) : ValueQ t u := by
  intro rb ra rc k w hp hla hlb hk
  have hk2 : k + 1 + (flats t.ks).length ≤ 100000 := by rw [flat_eq, List.length_cons] at hk; omega
  have HN := Lib.hid (node_any rb _ _ k w hp)
  rw [drop_flat, drop_flat, nxt_flat, nxt_flat] at HN
  have hlt := hp.lt
  have hla' : (flats t.ks ++ ra).length ≤ 100000 := by rw [List.length_append] at hla ⊢; rw [flat_eq, List.length_cons] at hla; omega
  have hlb' : (flats u.ks ++ rc).length ≤ 100000 := by rw [List.length_append] at hlb ⊢; rw [flat_eq, List.length_cons] at hlb; omega
  have HL : Hid (∀ w1, Prs rb (flats t.ks ++ ra) (flats u.ks ++ rc) k w1 → Calls Try.prog 48 #[.pointer (some ⟨rb, 0, none⟩), .int .i64 t.ks.length, .int .i64 u.ks.length] w1 fun e w' => e = .returned (.int .i64 (cmpTs t.ks u.ks)) ∧ Prx rb (0 < k ∨ cmpTs t.ks u.ks = 0) ra rc k w' ∧ Kb w1.heap.size rb w1 w') :=
    Lib.hid fun w1 h1 => lists_of H (okT_eq.1 ht.ok).2 (okT_eq.1 hu.ok).2 rb ra rc k w1 h1 hla' hlb' (by omega)
  have HO : Hid (∀ w1, Prs rb (flats t.ks ++ ra) (flats u.ks ++ rc) k w1 → Calls Try.prog 49 #[.pointer (some ⟨rb, 0, none⟩), .int .i64 t.ks.length, .int .i64 u.ks.length] w1 fun e w' => e = .returned (.int .i64 (orI (cmpNm (nms t.ks) (nms u.ks)) (cmpTs t.ks u.ks))) ∧ Prx rb (0 < k ∨ orI (cmpNm (nms t.ks) (nms u.ks)) (cmpTs t.ks u.ks) = 0) ra rc k w' ∧ Kb w1.heap.size rb w1 w') :=
    Lib.hid fun w1 h1 => objects_of H (okT_eq.1 ht.ok).2 (okT_eq.1 hu.ok).2 rb ra rc k w1 h1 hla' hlb' (by omega)
  have HV : Hid (∀ w1, Prs rb (flats t.ks ++ ra) (flats u.ks ++ rc) k w1 → Calls Try.prog 45 #[.pointer (some ⟨rb, 0, none⟩), .int .i64 t.ks.length, .int .i64 u.ks.length] w1 fun e w' => e = .returned (.tuple #[]) ∧ Prx rb (0 < k ∨ (True ∧ t.ks.length = 0 ∧ u.ks.length = 0)) ra rc k w' ∧ Kb w1.heap.size rb w1 w') :=
    Lib.hid fun w1 h1 => leave_any (okT_eq.1 ht.ok).2 (okT_eq.1 hu.ok).2 rb True ra rc k w1 _ _ rfl rfl h1.x (fun _ => trivial) hla' hlb'
  have HRn := Lib.hid (fun h => cmpT_kind (t := t) (u := u) h)
  have HRs := Lib.hid (fun h => cmpT_same (t := t) (u := u) h)
  have hm := ht.many
  have hn := hu.many
  have HPx := Lib.hid ht.plain
  have HPy := Lib.hid hu.plain
  have HKx := Lib.hid ht.kinds
  have HLx := Lib.hid (fun a b => ht.leaf a b)
  have HLy := Lib.hid (fun a b => hu.leaf a b)
  have g1 := flats_len t.ks
  have g2 := flats_len u.ks
  have e1 : (flats t.ks ++ ra).length = (flats t.ks).length + ra.length := List.length_append
  have e2 : (flats u.ks ++ rc).length = (flats u.ks).length + rc.length := List.length_append
  generalize cmpT t u = R at *
  generalize t.nd = x at *
  generalize u.nd = y at *
  obtain ⟨kx, mx, nx, sx, gx, ex⟩ := x
  obtain ⟨ky, my, ny, sy, gy, ey⟩ := y
  simp only at hm hn HRn HRs HKx HLx HLy
  subst hm hn
  dsimp only [nda] at HN
  clear hp H hla hlb ht hu
  go_enter Try.func27, Try.ntmps27
  go_wp2_with fail
  go_at_call 43
  refine HN.out.mono ?_
  rintro e w1 ⟨rfl, hx1, hk1⟩
  have HX1 := Lib.hid hx1
  have HK1 := Lib.hid hk1
  obtain ⟨va, vb, hp1, ha1, hb1⟩ := hx1
  have hsz1 := hk1.size
  have hrb : rb < w1.heap.size := hp1.lt
  have hrb1 : ¬ rb = w1.heap.size := by omega
  have hrb2 : ¬ rb = w1.heap.size + 1 := by omega
  have c0 := hp1.c0
  have c1 := hp1.c1
  obtain ⟨A, c, rfl, -⟩ := ha1
  obtain ⟨B, d, rfl, -⟩ := hb1
  have HT : Hid (t.ks.length = 0 → t.ks = []) := Lib.hid List.eq_nil_of_length_eq_zero
  generalize (flats t.ks ++ ra).length = na at *
  generalize (flats u.ks ++ rc).length = nb at *
  have hmA : t.ks.length ≤ na := by omega
  have hmB : u.ks.length ≤ nb := by omega
  clear hk1 hp1 g1 g2 e1 e2 HN
  have HM : Hid (∃ m n, m = t.ks.length ∧ n = u.ks.length) := Lib.hid ⟨_, _, rfl, rfl⟩
  generalize hm : t.ks.length = m at *
  generalize hn : u.ks.length = n at *
  have HM1 := Lib.hid hm
  have HM2 := Lib.hid hn
  clear hm hn
  go_wp2_with fail
  have hmin1 : min (m : Int) (na : Int) = m := by omega
  have hmin2 : min (n : Int) (nb : Int) = n := by omega
  go_quiet (fail)
  go_wp2_with fail
  go_at_call 44
  refine (Try.cmp_Compare_int _ _ _).mono ?_
  rintro e w2 ⟨rfl, rfl⟩
  have HB2 : Hid (∀ a b q, Prs rb (flats t.ks ++ ra) (flats u.ks ++ rc) k (((w1.alloc a).alloc b).drewN q) ∧ Kb w.heap.size rb w (((w1.alloc a).alloc b).drewN q)) := Lib.hid fun a b q => by
    have hb : Below w1.heap.size w1 (((w1.alloc a).alloc b).drewN q) := drewN_below (((Below.refl _ w1).alloc (Nat.le_refl _) _).alloc (by simp) _) q
    exact ⟨HX1.out.below hb, HK1.out.trans (Kb.of (hb.mono HK1.out.size))⟩
  by_cases hk3 : kx = ky
  · subst hk3
    have hR := HRs.out rfl
    have hc0 : Lib.compareInt kx kx = 0 := (cmpI_eq _ _).2 rfl
    rw [hc0]
    rcases HKx.out with rfl | rfl | rfl | rfl | rfl | rfl | rfl
    · have HC : Hid (R = 0) := Lib.hid (by simpa using hR)
      have hks1 := HLx.out (by decide) (by decide)
      have hks2 := HLy.out (by decide) (by decide)
      clear hR
      go_wp2_with fail
      go_ret
      refine ⟨ret_i64 HC.out.symm, (HB2.out _ _ _).1.x.mono (fun _ => trivial) (fun _ => by rw [hks1]; rfl) (fun _ => by rw [hks2]; rfl), (HB2.out _ _ _).2⟩
    · have HC : Hid (R = 0) := Lib.hid (by simpa using hR)
      have hks1 := HLx.out (by decide) (by decide)
      have hks2 := HLy.out (by decide) (by decide)
      clear hR
      go_wp2_with fail
      go_ret
      refine ⟨ret_i64 HC.out.symm, (HB2.out _ _ _).1.x.mono (fun _ => trivial) (fun _ => by rw [hks1]; rfl) (fun _ => by rw [hks2]; rfl), (HB2.out _ _ _).2⟩
    · have HC : Hid (R = 0) := Lib.hid (by simpa using hR)
      have hks1 := HLx.out (by decide) (by decide)
      have hks2 := HLy.out (by decide) (by decide)
      clear hR
      go_wp2_with fail
      go_ret
      refine ⟨ret_i64 HC.out.symm, (HB2.out _ _ _).1.x.mono (fun _ => trivial) (fun _ => by rw [hks1]; rfl) (fun _ => by rw [hks2]; rfl), (HB2.out _ _ _).2⟩
    · have HC : Hid (R = cmpN sx gx ex sy gy ey) := Lib.hid (by simpa using hR)
      have hks1 := HLx.out (by decide) (by decide)
      have hks2 := HLy.out (by decide) (by decide)
      have q1 : right ⟨3, m, [], sx, gx, ex⟩ = true := HPx.out
      have q2 : right ⟨3, n, [], sy, gy, ey⟩ = true := HPy.out
      obtain ⟨b1, b2, b3⟩ := right_bounds q1
      obtain ⟨b4, b5, b6⟩ := right_bounds q2
      simp only at b1 b2 b3 b4 b5 b6
      clear hR q1 q2
      have HB3 : Hid (∀ a b q v1 v2, Prs rb (flats t.ks ++ ra) (flats u.ks ++ rc) k (((((w1.alloc a).alloc b).drewN q).setCell ⟨w1.heap.size, 2, none⟩ v1).setCell ⟨w1.heap.size + 1, 2, none⟩ v2) ∧ Kb w.heap.size rb w (((((w1.alloc a).alloc b).drewN q).setCell ⟨w1.heap.size, 2, none⟩ v1).setCell ⟨w1.heap.size + 1, 2, none⟩ v2)) := Lib.hid fun a b q v1 v2 => by
        have hb : Below w1.heap.size w1 (((((w1.alloc a).alloc b).drewN q).setCell ⟨w1.heap.size, 2, none⟩ v1).setCell ⟨w1.heap.size + 1, 2, none⟩ v2) := ((drewN_below (((Below.refl _ w1).alloc (Nat.le_refl _) _).alloc (by simp) _) q).setCell (by simp) _).setCell (by simp) _
        exact ⟨HX1.out.below hb, HK1.out.trans (Kb.of (hb.mono HK1.out.size))⟩
      go_wp2_with fail
      go_at_call 46
      refine (cmp_any 3 m ⟨#[]⟩ ⟨sx.toArray⟩ gx ex 3 n ⟨#[]⟩ ⟨sy.toArray⟩ gy ey _ (by rw [mk_size]; omega) (by rw [mk_size]; omega) (by omega) (by omega) (by omega) (by omega)).mono ?_
      rintro e w3 ⟨rfl, hb3⟩
      go_wp2_with fail
      go_ret
      refine ⟨ret_i64 (by rw [HC.out]), ((HB3.out _ _ _ _ _).1.below hb3).x.mono (fun _ => trivial) (fun _ => by rw [hks1]; rfl) (fun _ => by rw [hks2]; rfl), (HB3.out _ _ _ _ _).2.trans (Kb.of (hb3.mono (HB3.out _ _ _ _ _).2.size))⟩
    · have HC : Hid (R = cmpB sx sy) := Lib.hid (by simpa using hR)
      have hks1 := HLx.out (by decide) (by decide)
      have hks2 := HLy.out (by decide) (by decide)
      clear hR
      go_wp2_with fail
      go_at_call 47
      refine (cmpStr_below _ _ _).mono ?_
      rintro e w3 ⟨rfl, hb3⟩
      go_wp2_with fail
      go_ret
      refine ⟨ret_i64 (by rw [HC.out]), ((HB2.out _ _ _).1.below hb3).x.mono (fun _ => trivial) (fun _ => by rw [hks1]; rfl) (fun _ => by rw [hks2]; rfl), (HB2.out _ _ _).2.trans (Kb.of (hb3.mono (HB2.out _ _ _).2.size))⟩
    · have HC : Hid (R = cmpTs t.ks u.ks) := Lib.hid hR
      clear hR
      go_wp2_with fail
      go_at_call 48
      refine (HL.out _ (HB2.out _ _ _).1).mono ?_
      rintro e w3 ⟨rfl, hx3, hk3⟩
      have HX3 := Lib.hid hx3
      have HK3 := Lib.hid ((HB2.out _ _ _).2.trans (hk3.mono (HB2.out _ _ _).2.size))
      clear hx3 hk3
      go_wp2_with fail
      go_ret
      rw [HC.out]
      exact ⟨rfl, HX3.out, HK3.out⟩
    · have HC : Hid (R = orI (cmpNm (nms t.ks) (nms u.ks)) (cmpTs t.ks u.ks)) := Lib.hid hR
      clear hR
      go_wp2_with fail
      go_at_call 49
      refine (HO.out _ (HB2.out _ _ _).1).mono ?_
      rintro e w3 ⟨rfl, hx3, hk3⟩
      have HX3 := Lib.hid hx3
      have HK3 := Lib.hid ((HB2.out _ _ _).2.trans (hk3.mono (HB2.out _ _ _).2.size))
      clear hx3 hk3
      go_wp2_with fail
      go_ret
      rw [HC.out]
      exact ⟨rfl, HX3.out, HK3.out⟩
  · have hc0 : ¬ Lib.compareInt kx ky = 0 := fun h => hk3 ((cmpI_eq _ _).1 h)
    have HC : Hid (R = Lib.compareInt kx ky) := Lib.hid (HRn.out hk3)
    generalize Lib.compareInt kx ky = cc at *
    have hcc : ((cc != 0) : Bool) = true := by simpa using hc0
    go_wp2_with fail
    go_at_call 45
    refine (HV.out _ (HB2.out _ _ _).1).mono ?_
    rintro e w3 ⟨rfl, hx3, hk3⟩
    have HX3 := Lib.hid hx3
    have HK3 := Lib.hid ((HB2.out _ _ _).2.trans (hk3.mono (HB2.out _ _ _).2.size))
    clear hx3 hk3
    go_wp2_with fail
    go_ret
    exact ⟨ret_i64 HC.out.symm, HX3.out.mono (fun h => h.imp id fun h => absurd (HC.out.symm.trans h) hc0) (fun _ => rfl) (fun _ => rfl), HK3.out⟩

/-- What value answers, whatever stands behind. -/
theorem value_any : ∀ (n : Nat) (t u : Tr Nd), (flat t).length ≤ n → Ok9 t → Ok9 u → ValueQ t u := by
  intro n
  induction n with
  | zero => intro t u h; have := flat_pos t; omega
  | succ n ih =>
    intro t u h ht hu
    refine value_of ht hu fun a ha b hb => ih a b ?_ (ht.kids a ha) (hu.kids b hb)
    rw [flat_eq, List.length_cons] at h
    have : (flat a).length ≤ (flats t.ks).length := by
      obtain ⟨x, y, hxy⟩ := List.append_of_mem ha
      rw [hxy, flats_append, flats_cons, List.length_append, List.length_append]; omega
    omega
end Go.Proofs.Ytbffeffplabaeaa
