/-
  Joined: ORef4.
-/
import Derived.Test.YtbhgmfddjnkglaaGreatDoorAtomTellsJ17
import Derived.Test.YtbhgmfddjnkglaaGreatDoorAtomTellsJ19

/-
  What the document's own Cmp is.
-/
namespace Go.Proofs.YtbhgmfddjnkglaaGreatDoor
open Go.RowKit Np Rw Vp Ov

theorem refSign_quiet (l s : Bool) (w : World) : Calls Tryz.prog 34 #[.bool l, .bool s] w fun e w' => e = .returned (.int .i64 (sgB l s)) ∧ ∃ m, w' = w.drewN m :=
  (refSign_any l s w).mono fun _ _ ⟨he, hw⟩ => ⟨he, 0, hw⟩
theorem cmpTs_nmd : ∀ ts us : List (Tr Nd), cmpTs (ts.map (nmd [])) (us.map (nmd [])) = cmpTs ts us
  | [], [] => rfl
  | [], u :: us => by simp
  | t :: ts, [] => by simp
  | t :: ts, u :: us => by simp only [List.map_cons]; rw [cmpTs_cons, cmpTs_cons, cmpT_nmd, cmpTs_nmd ts us]

theorem ks_le (t : Tr Nd) : t.ks.length ≤ (flat t).length := by
  have := flats_len t.ks
  rw [flat_eq, List.length_cons]; omega
theorem names_le (t : Tr Nd) : (namesT t).length ≤ (flat t).length := by
  have := ks_le t
  unfold namesT
  split
  · rw [List.length_map]; exact this
  · simp
theorem num_right {t : Tr Nd} (ht : Val t) (h : t.nd.kind = 3) : right ⟨3, t.nd.many, [], t.nd.s, t.nd.neg, t.nd.e⟩ = true := by
  have h1 := ht.plain
  unfold plainN at h1
  rw [if_neg (by omega), if_pos h] at h1
  rw [← h]
  exact h1
theorem NodeAt.unname {B : Nat} {n : Nd} {w : World} (h : NodeAt B n w) : NodeAt B { n with name := [] } (w.setCell ⟨B, 2, none⟩ (.string ⟨#[]⟩)) := by
  unfold NodeAt at *; simp [World.setCell, Array.getElem?_modify, h]
theorem two_new (W : World) (n : Nat) (hn : W.heap.size = n) (x y : Nd) : NodeAt n x (fillN (n + 1) y (fillN n x ((W.alloc (.cells #[.int .i64 0, .int .i64 0, .string ⟨#[]⟩, .string ⟨#[]⟩, .bool false, .int .i64 0] 24)).alloc (.cells #[.int .i64 0, .int .i64 0, .string ⟨#[]⟩, .string ⟨#[]⟩, .bool false, .int .i64 0] 24))))
    ∧ NodeAt (n + 1) y (fillN (n + 1) y (fillN n x ((W.alloc (.cells #[.int .i64 0, .int .i64 0, .string ⟨#[]⟩, .string ⟨#[]⟩, .bool false, .int .i64 0] 24)).alloc (.cells #[.int .i64 0, .int .i64 0, .string ⟨#[]⟩, .string ⟨#[]⟩, .bool false, .int .i64 0] 24))))
    ∧ NodeAt (n + 1) x (fillN n y (fillN (n + 1) x ((W.alloc (.cells #[.int .i64 0, .int .i64 0, .string ⟨#[]⟩, .string ⟨#[]⟩, .bool false, .int .i64 0] 24)).alloc (.cells #[.int .i64 0, .int .i64 0, .string ⟨#[]⟩, .string ⟨#[]⟩, .bool false, .int .i64 0] 24))))
    ∧ NodeAt n y (fillN n y (fillN (n + 1) x ((W.alloc (.cells #[.int .i64 0, .int .i64 0, .string ⟨#[]⟩, .string ⟨#[]⟩, .bool false, .int .i64 0] 24)).alloc (.cells #[.int .i64 0, .int .i64 0, .string ⟨#[]⟩, .string ⟨#[]⟩, .bool false, .int .i64 0] 24)))) := by
  subst hn
  have X0 : NodeAt W.heap.size zeroN ((W.alloc (.cells #[.int .i64 0, .int .i64 0, .string ⟨#[]⟩, .string ⟨#[]⟩, .bool false, .int .i64 0] 24)).alloc (.cells #[.int .i64 0, .int .i64 0, .string ⟨#[]⟩, .string ⟨#[]⟩, .bool false, .int .i64 0] 24)) := (Below.heap_alloc _ _ _ (by simp)).trans (alloc_at _ _ rfl)
  have Y0 : NodeAt (W.heap.size + 1) zeroN ((W.alloc (.cells #[.int .i64 0, .int .i64 0, .string ⟨#[]⟩, .string ⟨#[]⟩, .bool false, .int .i64 0] 24)).alloc (.cells #[.int .i64 0, .int .i64 0, .string ⟨#[]⟩, .string ⟨#[]⟩, .bool false, .int .i64 0] 24)) := alloc_at _ _ (by simp)
  exact ⟨(X0.fill x).fillO (by omega) y, (Y0.fillO (by omega) x).fill y, (Y0.fill x).fillO (by omega) y, (X0.fillO (by omega) x).fill y⟩
theorem fill_below {D C : Nat} {a w : World} (h : Below D a w) (hp : D ≤ C) (m : Nd) : Below D a (fillN C m w) := (((((h.setCell hp _).setCell hp _).setCell hp _).setCell hp _).setCell hp _).setCell hp _
set_option maxRecDepth 100000 in
set_option maxHeartbeats 4000000 in
theorem refCmpV_of {t u : Tr Nd} (ht : Val t) (hu : Val u) (h1 : (flat t).length ≤ 60000) (h2 : (flat u).length ≤ 60000) (H : ∀ a ∈ t.ks, ∀ b ∈ u.ks, RefQ (nmd [] a) (nmd [] b)) : RefQ t u := by
  intro va vb w ha hb
  have HKS : Hid (∀ x ∈ t.ks.map (nmd []), ∀ y ∈ u.ks.map (nmd []), RefQ x y) := Lib.hid fun x hx y hy => by
    obtain ⟨a, ha, rfl⟩ := List.mem_map.1 hx
    obtain ⟨b, hb, rfl⟩ := List.mem_map.1 hy
    exact H a ha b hb
  have HLN : Hid ((t.ks.map (nmd [])).length ≤ 100000) := Lib.hid (by have := ks_le t; rw [List.length_map]; omega)
  have HLM : Hid ((namesT t).length ≤ 100000 ∧ (namesT u).length ≤ 100000) := Lib.hid (by have := names_le t; have := names_le u; omega)
  have HPa := Lib.hid (fun W hb => refParts_any va t W (ha.below hb) (by omega) ht)
  have HPb := Lib.hid (fun W hb1 => refParts_any vb u W (hb.below hb1) (by omega) hu)
  have HNa := Lib.hid (fun W hb => refNames_any va t W (ha.below hb) (by omega) ht)
  have HNb := Lib.hid (fun W hb1 => refNames_any vb u W (hb.below hb1) (by omega) hu)
  obtain ⟨g, o, c, rfl, hc, hcm, hg, hx⟩ := ha.opened (flat_pos t)
  obtain ⟨g2, o2, c2, rfl, hc2, hcm2, hg2, hx2⟩ := hb.opened (flat_pos u)
  obtain ⟨a0, a1, a2, a3, a4, a5⟩ := (hx 0 t.nd (by rw [flat_eq]; rfl)).nd
  obtain ⟨b0, b1, b2, b3, b4, b5⟩ := (hx2 0 u.nd (by rw [flat_eq]; rfl)).nd
  rw [Nat.zero_mul, Nat.add_zero] at a0 a1 a2 a3 a4 a5 b0 b1 b2 b3 b4 b5
  have hp1 := flat_pos t
  have hp2 := flat_pos u
  have HRn := Lib.hid (fun h => cmpT_kind (t := t) (u := u) h)
  have HRs := Lib.hid (fun h => cmpT_same (t := t) (u := u) h)
  have HK := Lib.hid ht.ok9.kinds
  generalize (flat t).length = N1 at *
  generalize (flat u).length = N2 at *
  go_enter Tryz.func23, Tryz.ntmps23
  go_wp2_with fail
  go_quiet (fail)
  by_cases hk : t.nd.kind = u.nd.kind
  · have hR := HRs.out hk
    rw [← hk] at b0 ⊢
    rcases HK.out with h | h | h | h | h | h | h
    · have HC : Hid (cmpT t u = 0) := Lib.hid (by rw [hR]; simp [h])
      rw [h] at a0 b0 ⊢
      go_wp2_with fail
      go_ret
      exact ⟨ret_i64 HC.out.symm, below_quiet ⟨nq, rfl⟩⟩
    · have HC : Hid (cmpT t u = 0) := Lib.hid (by rw [hR]; simp [h])
      rw [h] at a0 b0 ⊢
      go_wp2_with fail
      go_ret
      exact ⟨ret_i64 HC.out.symm, below_quiet ⟨nq, rfl⟩⟩
    · have HC : Hid (cmpT t u = 0) := Lib.hid (by rw [hR]; simp [h])
      rw [h] at a0 b0 ⊢
      go_wp2_with fail
      go_ret
      exact ⟨ret_i64 HC.out.symm, below_quiet ⟨nq, rfl⟩⟩
    · have HC : Hid (cmpT t u = cmpN t.nd.s t.nd.neg t.nd.e u.nd.s u.nd.neg u.nd.e) := Lib.hid (by rw [hR, if_pos h])
      have HRT := Lib.hid (num_right ht h)
      have HRU := Lib.hid (num_right hu (hk ▸ h))
      rw [h] at a0 b0 ⊢
      clear HRn HRs hR h hk
      generalize t.nd.many = xm at *
      generalize t.nd.name = xn at *
      generalize t.nd.s = xs at *
      generalize t.nd.neg = xg at *
      generalize t.nd.e = xe at *
      generalize u.nd.many = ym at *
      generalize u.nd.name = yn at *
      generalize u.nd.s = ys at *
      generalize u.nd.neg = yg at *
      generalize u.nd.e = ye at *
      go_upto_region 6 with fail
      have HKP : Hid (∀ W, Below w.heap.size w W → W.cell? ⟨g, o, none⟩ = some (.int .i64 3) ∧ W.cell? ⟨g, o + 1, none⟩ = some (.int .i64 xm) ∧ W.cell? ⟨g, o + 2, none⟩ = some (.string ⟨xn.toArray⟩) ∧ W.cell? ⟨g, o + 3, none⟩ = some (.string ⟨xs.toArray⟩) ∧ W.cell? ⟨g, o + 4, none⟩ = some (.bool xg) ∧ W.cell? ⟨g, o + 5, none⟩ = some (.int .i64 xe) ∧ W.cell? ⟨g2, o2, none⟩ = some (.int .i64 3) ∧ W.cell? ⟨g2, o2 + 1, none⟩ = some (.int .i64 ym) ∧ W.cell? ⟨g2, o2 + 2, none⟩ = some (.string ⟨yn.toArray⟩) ∧ W.cell? ⟨g2, o2 + 3, none⟩ = some (.string ⟨ys.toArray⟩) ∧ W.cell? ⟨g2, o2 + 4, none⟩ = some (.bool yg) ∧ W.cell? ⟨g2, o2 + 5, none⟩ = some (.int .i64 ye) ∧ Below w.heap.size w W) := Lib.hid fun W hb => ⟨(hb.cell (p := ⟨g, o, none⟩) hg).trans a0, (hb.cell (p := ⟨g, o + 1, none⟩) hg).trans a1, (hb.cell (p := ⟨g, o + 2, none⟩) hg).trans a2, (hb.cell (p := ⟨g, o + 3, none⟩) hg).trans a3, (hb.cell (p := ⟨g, o + 4, none⟩) hg).trans a4, (hb.cell (p := ⟨g, o + 5, none⟩) hg).trans a5, (hb.cell (p := ⟨g2, o2, none⟩) hg2).trans b0, (hb.cell (p := ⟨g2, o2 + 1, none⟩) hg2).trans b1, (hb.cell (p := ⟨g2, o2 + 2, none⟩) hg2).trans b2, (hb.cell (p := ⟨g2, o2 + 3, none⟩) hg2).trans b3, (hb.cell (p := ⟨g2, o2 + 4, none⟩) hg2).trans b4, (hb.cell (p := ⟨g2, o2 + 5, none⟩) hg2).trans b5, hb⟩
      have HBd : Hid (Below w.heap.size w (w.drewN nq)) := Lib.hid (below_quiet ⟨nq, rfl⟩)
      go_cut [7, 8] (fun s7 s8 wx => ∃ B C, s7 = .pointer (some ⟨B, 0, none⟩) ∧ s8 = .pointer (some ⟨C, 0, none⟩) ∧ w.heap.size ≤ B ∧ w.heap.size ≤ C ∧ B ≠ C ∧ Hid (NodeAt B ⟨3, xm, xn, xs, xg, xe⟩ wx ∧ NodeAt C ⟨3, ym, yn, ys, yg, ye⟩ wx ∧ Below w.heap.size w wx))
      case first =>
        refine wp_region_held_drew (S := (fun W => W.cell? ⟨g, o, none⟩ = some (.int .i64 3) ∧ W.cell? ⟨g, o + 1, none⟩ = some (.int .i64 xm) ∧ W.cell? ⟨g, o + 2, none⟩ = some (.string ⟨xn.toArray⟩) ∧ W.cell? ⟨g, o + 3, none⟩ = some (.string ⟨xs.toArray⟩) ∧ W.cell? ⟨g, o + 4, none⟩ = some (.bool xg) ∧ W.cell? ⟨g, o + 5, none⟩ = some (.int .i64 xe) ∧ W.cell? ⟨g2, o2, none⟩ = some (.int .i64 3) ∧ W.cell? ⟨g2, o2 + 1, none⟩ = some (.int .i64 ym) ∧ W.cell? ⟨g2, o2 + 2, none⟩ = some (.string ⟨yn.toArray⟩) ∧ W.cell? ⟨g2, o2 + 3, none⟩ = some (.string ⟨ys.toArray⟩) ∧ W.cell? ⟨g2, o2 + 4, none⟩ = some (.bool yg) ∧ W.cell? ⟨g2, o2 + 5, none⟩ = some (.int .i64 ye) ∧ Below w.heap.size w W)) (by kernel_rfl) (HKP.out _ HBd.out.drew) (fun hH => ?_)
        refine wpAnyH_take (i := 0) (v := .slice (some ⟨g, o, none⟩) N1 c) rfl (by kernel_rfl) (by kernel_rfl) (by kernel_rfl) (fun _ _ _ h => h) (Or.inl ⟨by kernel_rfl, ?_⟩) (by assumption) ?_
        · intro w' hSw; (try dsimp only at hSw); go_simp
        try simp only [Act.put, List.getElem_toArray, List.getElem_cons_zero, List.setIfInBounds_toArray, List.set_cons_zero, List.set_cons_succ]
        refine wpAnyH_take (i := 1) (v := .pointer (some ⟨g, o, none⟩)) rfl (by kernel_rfl) (by kernel_rfl) (by kernel_rfl) (fun _ _ _ h => h) (Or.inl ⟨by kernel_rfl, ?_⟩) (by assumption) ?_
        · intro w' hSw; (try dsimp only at hSw); go_simp
        try simp only [Act.put, List.getElem_toArray, List.getElem_cons_succ, List.getElem_cons_zero, List.setIfInBounds_toArray, List.set_cons_zero, List.set_cons_succ]
        refine wpAnyH_take (i := 2) (v := .agg #[.int .i64 3, .int .i64 xm, .string ⟨xn.toArray⟩, .string ⟨xs.toArray⟩, .bool xg, .int .i64 xe]) rfl (by kernel_rfl) (by kernel_rfl) (by kernel_rfl) (fun _ _ _ h => h) (Or.inl ⟨by kernel_rfl, ?_⟩) (by assumption) ?_
        · intro w' hSw; (try dsimp only at hSw); go_simp
        try simp only [Act.put, List.getElem_toArray, List.getElem_cons_succ, List.getElem_cons_zero, List.setIfInBounds_toArray, List.set_cons_zero, List.set_cons_succ]
        refine wpAnyH_take (i := 3) (v := .slice (some ⟨g2, o2, none⟩) N2 c2) rfl (by kernel_rfl) (by kernel_rfl) (by kernel_rfl) (fun _ _ _ h => h) (Or.inl ⟨by kernel_rfl, ?_⟩) (by assumption) ?_
        · intro w' hSw; (try dsimp only at hSw); go_simp
        try simp only [Act.put, List.getElem_toArray, List.getElem_cons_succ, List.getElem_cons_zero, List.setIfInBounds_toArray, List.set_cons_zero, List.set_cons_succ]
        refine wpAnyH_take (i := 4) (v := .pointer (some ⟨g2, o2, none⟩)) rfl (by kernel_rfl) (by kernel_rfl) (by kernel_rfl) (fun _ _ _ h => h) (Or.inl ⟨by kernel_rfl, ?_⟩) (by assumption) ?_
        · intro w' hSw; (try dsimp only at hSw); go_simp
        try simp only [Act.put, List.getElem_toArray, List.getElem_cons_succ, List.getElem_cons_zero, List.setIfInBounds_toArray, List.set_cons_zero, List.set_cons_succ]
        refine wpAnyH_take (i := 5) (v := .agg #[.int .i64 3, .int .i64 ym, .string ⟨yn.toArray⟩, .string ⟨ys.toArray⟩, .bool yg, .int .i64 ye]) rfl (by kernel_rfl) (by kernel_rfl) (by kernel_rfl) (fun _ _ _ h => h) (Or.inl ⟨by kernel_rfl, ?_⟩) (by assumption) ?_
        · intro w' hSw; (try dsimp only at hSw); go_simp
        try simp only [Act.put, List.getElem_toArray, List.getElem_cons_succ, List.getElem_cons_zero, List.setIfInBounds_toArray, List.set_cons_zero, List.set_cons_succ]
        have hA1 : Hid (Below w.heap.size w ((w.drewN (nq + 1)).alloc (.cells #[.int .i64 0, .int .i64 0, .string ⟨#[]⟩, .string ⟨#[]⟩, .bool false, .int .i64 0] 24))) := Lib.hid (HBd.out.drew.alloc (Nat.le_refl _) _)
        have hA2 : Hid (Below w.heap.size w (((w.drewN (nq + 1)).alloc (.cells #[.int .i64 0, .int .i64 0, .string ⟨#[]⟩, .string ⟨#[]⟩, .bool false, .int .i64 0] 24)).alloc (.cells #[.int .i64 0, .int .i64 0, .string ⟨#[]⟩, .string ⟨#[]⟩, .bool false, .int .i64 0] 24))) := Lib.hid (hA1.out.alloc (by simp) _)
        have zA : Hid (NodeAt w.heap.size zeroN (((w.drewN (nq + 1)).alloc (.cells #[.int .i64 0, .int .i64 0, .string ⟨#[]⟩, .string ⟨#[]⟩, .bool false, .int .i64 0] 24)).alloc (.cells #[.int .i64 0, .int .i64 0, .string ⟨#[]⟩, .string ⟨#[]⟩, .bool false, .int .i64 0] 24))) := Lib.hid ((Below.heap_alloc _ _ _ (by simp)).trans (alloc_at _ _ rfl))
        have zB : Hid (NodeAt (w.heap.size + 1) zeroN (((w.drewN (nq + 1)).alloc (.cells #[.int .i64 0, .int .i64 0, .string ⟨#[]⟩, .string ⟨#[]⟩, .bool false, .int .i64 0] 24)).alloc (.cells #[.int .i64 0, .int .i64 0, .string ⟨#[]⟩, .string ⟨#[]⟩, .bool false, .int .i64 0] 24))) := Lib.hid (alloc_at _ _ (by simp))
        refine wpAnyH_ready (rs := [6, 7]) (by kernel_rfl) (by simp) ?_
        refine AllReadyH.cons rfl (fun K hK => ?_) (AllReadyH.cons rfl (fun K hK => ?_) AllReadyH.nil)
        · go_simp
          refine hK.out _ _ (HKP.out _ hA1.out) (fun hHeld1 => ?_)
          clear hK K
          try simp only [Act.put, List.getElem_toArray, List.getElem_cons_succ, List.getElem_cons_zero, List.setIfInBounds_toArray, List.set_cons_zero, List.set_cons_succ]
          refine wpAnyH_ready (rs := [7]) (by kernel_rfl) (by simp) ?_
          refine AllReadyH.cons rfl (fun K hK => ?_) AllReadyH.nil
          go_simp
          refine hK.out _ _ (HKP.out _ hA2.out) (fun hHeld2 => ?_)
          clear hK K
          try simp only [Act.put, List.getElem_toArray, List.getElem_cons_succ, List.getElem_cons_zero, List.setIfInBounds_toArray, List.set_cons_zero, List.set_cons_succ]
          clear hHeld1 hHeld2 hA1
          generalize ((w.drewN (nq + 1)).alloc (.cells #[.int .i64 0, .int .i64 0, .string ⟨#[]⟩, .string ⟨#[]⟩, .bool false, .int .i64 0] 24)).alloc (.cells #[.int .i64 0, .int .i64 0, .string ⟨#[]⟩, .string ⟨#[]⟩, .bool false, .int .i64 0] 24) = W2 at *
          have zX : NodeAt w.heap.size zeroN W2 := zA.out
          have zY : NodeAt (w.heap.size + 1) zeroN W2 := zB.out
          obtain ⟨x0, x1, x2, x3, x4, x5⟩ := zX.nd
          simp only [Nat.zero_add] at x1 x2 x3 x4 x5
          have fx := zX.fz
          have zX2 := zX.fill ⟨3, xm, xn, xs, xg, xe⟩
          have zY2 := zY.fillO (C := w.heap.size) (by omega) ⟨3, xm, xn, xs, xg, xe⟩
          have hb2 := fill_below hA2.out (C := w.heap.size) (by omega) ⟨3, xm, xn, xs, xg, xe⟩
          unfold fillN at zX2 zY2 hb2
          refine wpAnyH_ready (rs := [8]) (by kernel_rfl) (by simp) ?_
          refine AllReadyH.cons rfl (fun K hK => ?_) AllReadyH.nil
          go_simp
          refine hK.out _ _ (HKP.out _ hb2) (fun hHeld3 => ?_)
          clear hK K hHeld3 x0 x1 x2 x3 x4 x5 fx zX zY zA zB hA2
          try simp only [Act.put, List.getElem_toArray, List.getElem_cons_succ, List.getElem_cons_zero, List.setIfInBounds_toArray, List.set_cons_zero, List.set_cons_succ]
          generalize (((((World.setCell _ ⟨w.heap.size, 0, none⟩ _).setCell _ _).setCell _ _).setCell _ _).setCell _ _).setCell _ _ = W3 at *
          obtain ⟨x0, x1, x2, x3, x4, x5⟩ := zY2.nd
          simp only [Nat.zero_add] at x1 x2 x3 x4 x5
          have fx := zY2.fz
          have zX3 := zX2.fillO (C := (w.heap.size + 1)) (by omega) ⟨3, ym, yn, ys, yg, ye⟩
          have zY3 := zY2.fill ⟨3, ym, yn, ys, yg, ye⟩
          have hb3 := fill_below hb2 (C := (w.heap.size + 1)) (by omega) ⟨3, ym, yn, ys, yg, ye⟩
          unfold fillN at zX3 zY3 hb3
          refine wpAnyH_ready (rs := [9]) (by kernel_rfl) (by simp) ?_
          refine AllReadyH.cons rfl (fun K hK => ?_) AllReadyH.nil
          go_simp
          refine hK.out _ _ (HKP.out _ hb3) (fun hHeld4 => ?_)
          clear hK K hHeld4 x0 x1 x2 x3 x4 x5 fx
          try simp only [Act.put, List.getElem_toArray, List.getElem_cons_succ, List.getElem_cons_zero, List.setIfInBounds_toArray, List.set_cons_zero, List.set_cons_succ]
          generalize (((((World.setCell _ ⟨(w.heap.size + 1), 0, none⟩ _).setCell _ _).setCell _ _).setCell _ _).setCell _ _).setCell _ _ = W4 at *
          refine wpAnyH_done (by kernel_rfl) ?_ _
          go_wp2_with fail
          go_meet
          exact ⟨w.heap.size, (w.heap.size + 1), rfl, rfl, by omega, by omega, by omega, Lib.hid ⟨zX3, zY3, hb3⟩⟩
        · go_simp
          refine hK.out _ _ (HKP.out _ hA1.out) (fun hHeld1 => ?_)
          clear hK K
          try simp only [Act.put, List.getElem_toArray, List.getElem_cons_succ, List.getElem_cons_zero, List.setIfInBounds_toArray, List.set_cons_zero, List.set_cons_succ]
          refine wpAnyH_ready (rs := [6]) (by kernel_rfl) (by simp) ?_
          refine AllReadyH.cons rfl (fun K hK => ?_) AllReadyH.nil
          go_simp
          refine hK.out _ _ (HKP.out _ hA2.out) (fun hHeld2 => ?_)
          clear hK K
          try simp only [Act.put, List.getElem_toArray, List.getElem_cons_succ, List.getElem_cons_zero, List.setIfInBounds_toArray, List.set_cons_zero, List.set_cons_succ]
          clear hHeld1 hHeld2 hA1
          generalize ((w.drewN (nq + 1)).alloc (.cells #[.int .i64 0, .int .i64 0, .string ⟨#[]⟩, .string ⟨#[]⟩, .bool false, .int .i64 0] 24)).alloc (.cells #[.int .i64 0, .int .i64 0, .string ⟨#[]⟩, .string ⟨#[]⟩, .bool false, .int .i64 0] 24) = W2 at *
          have zX : NodeAt (w.heap.size + 1) zeroN W2 := zB.out
          have zY : NodeAt w.heap.size zeroN W2 := zA.out
          obtain ⟨x0, x1, x2, x3, x4, x5⟩ := zX.nd
          simp only [Nat.zero_add] at x1 x2 x3 x4 x5
          have fx := zX.fz
          have zX2 := zX.fill ⟨3, xm, xn, xs, xg, xe⟩
          have zY2 := zY.fillO (C := (w.heap.size + 1)) (by omega) ⟨3, xm, xn, xs, xg, xe⟩
          have hb2 := fill_below hA2.out (C := (w.heap.size + 1)) (by omega) ⟨3, xm, xn, xs, xg, xe⟩
          unfold fillN at zX2 zY2 hb2
          refine wpAnyH_ready (rs := [8]) (by kernel_rfl) (by simp) ?_
          refine AllReadyH.cons rfl (fun K hK => ?_) AllReadyH.nil
          go_simp
          refine hK.out _ _ (HKP.out _ hb2) (fun hHeld3 => ?_)
          clear hK K hHeld3 x0 x1 x2 x3 x4 x5 fx zX zY zA zB hA2
          try simp only [Act.put, List.getElem_toArray, List.getElem_cons_succ, List.getElem_cons_zero, List.setIfInBounds_toArray, List.set_cons_zero, List.set_cons_succ]
          generalize (((((World.setCell _ ⟨(w.heap.size + 1), 0, none⟩ _).setCell _ _).setCell _ _).setCell _ _).setCell _ _).setCell _ _ = W3 at *
          obtain ⟨x0, x1, x2, x3, x4, x5⟩ := zY2.nd
          simp only [Nat.zero_add] at x1 x2 x3 x4 x5
          have fx := zY2.fz
          have zX3 := zX2.fillO (C := w.heap.size) (by omega) ⟨3, ym, yn, ys, yg, ye⟩
          have zY3 := zY2.fill ⟨3, ym, yn, ys, yg, ye⟩
          have hb3 := fill_below hb2 (C := w.heap.size) (by omega) ⟨3, ym, yn, ys, yg, ye⟩
          unfold fillN at zX3 zY3 hb3
          refine wpAnyH_ready (rs := [9]) (by kernel_rfl) (by simp) ?_
          refine AllReadyH.cons rfl (fun K hK => ?_) AllReadyH.nil
          go_simp
          refine hK.out _ _ (HKP.out _ hb3) (fun hHeld4 => ?_)
          clear hK K hHeld4 x0 x1 x2 x3 x4 x5 fx
          try simp only [Act.put, List.getElem_toArray, List.getElem_cons_succ, List.getElem_cons_zero, List.setIfInBounds_toArray, List.set_cons_zero, List.set_cons_succ]
          generalize (((((World.setCell _ ⟨w.heap.size, 0, none⟩ _).setCell _ _).setCell _ _).setCell _ _).setCell _ _).setCell _ _ = W4 at *
          refine wpAnyH_done (by kernel_rfl) ?_ _
          go_wp2_with fail
          go_meet
          exact ⟨(w.heap.size + 1), w.heap.size, rfl, rfl, by omega, by omega, by omega, Lib.hid ⟨zX3, zY3, hb3⟩⟩
      case rest =>
        obtain ⟨B, C, rfl, rfl, hB, hC, hne, HN⟩ := hcut
        have fB := HN.out.1.fz 2
        have fC := HN.out.2.1.fz 2
        have hcb := HN.out.1.nd.c2
        have hcc := HN.out.2.1.nd.c2
        rw [Nat.zero_add] at hcb hcc
        have hne2 : ¬ C = B := fun e => hne e.symm
        have n1 := HN.out.1.unname.other (p := ⟨C, 2, none⟩) hne2 (.string ⟨#[]⟩)
        have n2 := (HN.out.2.1.other (p := ⟨B, 2, none⟩) hne (.string ⟨#[]⟩)).unname
        have n3 : Below w.heap.size w ((wc.setCell ⟨B, 2, none⟩ (.string ⟨#[]⟩)).setCell ⟨C, 2, none⟩ (.string ⟨#[]⟩)) := (HN.out.2.2.setCell hB _).setCell hC _
        go_upto_region 9 with fail
        clear fB fC hcb hcc
        generalize (wc.setCell ⟨B, 2, none⟩ (.string ⟨#[]⟩)).setCell ⟨C, 2, none⟩ (.string ⟨#[]⟩) = W9 at n1 n2 n3 ⊢
        have HN3 := Lib.hid n3
        obtain ⟨x0, x1, x2, x3, x4, x5⟩ := n1.nd
        obtain ⟨y0, y1, y2, y3, y4, y5⟩ := n2.nd
        clear n1 n2 n3
        go_wp2_with fail
        refine (refCmp_any 3 xm ⟨#[]⟩ ⟨xs.toArray⟩ xg xe 3 ym ⟨#[]⟩ ⟨ys.toArray⟩ yg ye W9 HRT.out HRU.out).mono ?_
        rintro e w3 ⟨rfl, hb3⟩
        have HB3 : Hid (Below w.heap.size w w3) := Lib.hid (HN3.out.trans (hb3.mono HN3.out.size))
        clear hb3 x0 x1 x2 x3 x4 x5 y0 y1 y2 y3 y4 y5
        go_wp2_with fail
        go_ret
        exact ⟨ret_i64 HC.out.symm, HB3.out⟩
    · have HC : Hid (cmpT t u = sgB (Op.bytesLess t.nd.s u.nd.s) (t.nd.s == u.nd.s)) := Lib.hid (by
        rw [hR, if_neg (by omega), if_pos h, ← sgB_bytes, bytesLess_eq]
        congr 1
        rw [Bool.eq_iff_iff]; simp)
      rw [h] at a0 b0 ⊢
      clear a0 a1 a2 a4 a5 b0 b1 b2 b4 b5 HRn HRs hR h hk
      go_upto_region 11 with fail
      have HBd : Hid (Below w.heap.size w (w.drewN nq)) := Lib.hid (below_quiet ⟨nq, rfl⟩)
      go_region_held3 (fun w' => w'.cell? ⟨g, o + 3, none⟩ = some (.string ⟨t.nd.s.toArray⟩) ∧ w'.cell? ⟨g2, o2 + 3, none⟩ = some (.string ⟨u.nd.s.toArray⟩) ∧ Below w.heap.size w w')
        (first | exact ⟨a3, b3, HBd.out.drew⟩ | go_keep)
        ((go_at_call 34; have HBW : Hid (Below w.heap.size w _) := Lib.hid (by assumption); refine (refSign_any _ _ _).mono ?_; rintro e w3 ⟨rfl, rfl⟩))
      all_goals go_wp2_with fail
      all_goals go_ret
      all_goals exact ⟨ret_i64 HC.out.symm, below_quiet ⟨_, rfl⟩⟩
    · have HC : Hid (cmpT t u = cmpTs (t.ks.map (nmd [])) (u.ks.map (nmd []))) := Lib.hid (by rw [cmpTs_nmd, hR, if_neg (by omega), if_neg (by omega), if_pos h])
      rw [h] at a0 b0 ⊢
      clear a0 a1 a2 a3 a4 a5 b0 b1 b2 b3 b4 b5 HRn HRs hR h hk
      go_wp2_with fail
      refine (HPa.out _ (below_quiet ⟨nq, rfl⟩)).mono ?_
      rintro e w1 ⟨p1, rfl, hp1, hb1⟩
      have HB1 : Hid (Below w.heap.size w w1) := Lib.hid ((below_quiet ⟨nq, rfl⟩ : Below w.heap.size w (w.drewN nq)).trans hb1)
      have HP1 : Hid (Vls w1 p1 ((t.ks.map (nmd [])).map flat)) := Lib.hid (by rw [List.map_map]; exact hp1)
      clear hp1 hb1
      go_wp2_with fail
      refine (HPb.out _ HB1.out).mono ?_
      rintro e w2 ⟨p2, rfl, hp2, hb2⟩
      have HB2 : Hid (Below w.heap.size w w2) := Lib.hid (Below.after HB1.out hb2)
      have HP2 : Hid (Vls w2 p2 ((u.ks.map (nmd [])).map flat)) := Lib.hid (by rw [List.map_map]; exact hp2)
      have HP1' := Lib.hid (HP1.out.below hb2)
      clear hp2 hb2 HP1
      go_wp2_with fail
      refine (refRows_of HKS.out p1 p2 w2 HP1'.out HP2.out HLN.out).mono ?_
      rintro e w3 ⟨rfl, hb3⟩
      have HB3 := Lib.hid (Below.after HB2.out hb3)
      clear hb3
      go_wp2_with fail
      go_ret
      exact ⟨ret_i64 HC.out.symm, HB3.out⟩
    · have HC : Hid (cmpT t u = orI (cmpNm (namesT t) (namesT u)) (cmpTs (t.ks.map (nmd [])) (u.ks.map (nmd [])))) := Lib.hid (by rw [cmpTs_nmd, hR, if_neg (by omega), if_neg (by omega), if_neg (by omega), if_pos h, namesT, namesT, if_pos h, if_pos (hk ▸ h)])
      rw [h] at a0 b0 ⊢
      clear a0 a1 a2 a3 a4 a5 b0 b1 b2 b3 b4 b5 HRn HRs hR h hk
      go_wp2_with fail
      refine (HNa.out _ (below_quiet ⟨nq, rfl⟩)).mono ?_
      rintro e w1 ⟨p1, rfl, hp1, hb1⟩
      have HB1 : Hid (Below w.heap.size w w1) := Lib.hid ((below_quiet ⟨nq, rfl⟩ : Below w.heap.size w (w.drewN nq)).trans hb1)
      have HP1 := Lib.hid hp1
      clear hp1 hb1
      go_wp2_with fail
      refine (HNb.out _ HB1.out).mono ?_
      rintro e w2 ⟨p2, rfl, hp2, hb2⟩
      have HB2 : Hid (Below w.heap.size w w2) := Lib.hid (Below.after HB1.out hb2)
      have HP2 := Lib.hid hp2
      have HP1' := Lib.hid (HP1.out.below hb2)
      clear hp2 hb2 HP1
      go_wp2_with fail
      refine (refNamesCmp_any p1 p2 _ _ w2 HP1'.out HP2.out HLM.out.1 HLM.out.2).mono ?_
      rintro e w3 ⟨rfl, hb3⟩
      have HB3 := Lib.hid (Below.after HB2.out hb3)
      clear hb3
      generalize cmpNm (namesT t) (namesT u) = q at *
      by_cases hq : q = 0
      · subst hq
        rw [orI_z] at HC
        go_wp2_with fail
        refine (HPa.out _ HB3.out).mono ?_
        rintro e w4 ⟨p4, rfl, hp4, hb4⟩
        have HB4 : Hid (Below w.heap.size w w4) := Lib.hid (Below.after HB3.out hb4)
        have HP4 : Hid (Vls w4 p4 ((t.ks.map (nmd [])).map flat)) := Lib.hid (by rw [List.map_map]; exact hp4)
        clear hp4 hb4
        go_wp2_with fail
        refine (HPb.out _ HB4.out).mono ?_
        rintro e w5 ⟨p5, rfl, hp5, hb5⟩
        have HB5 : Hid (Below w.heap.size w w5) := Lib.hid (Below.after HB4.out hb5)
        have HP5 : Hid (Vls w5 p5 ((u.ks.map (nmd [])).map flat)) := Lib.hid (by rw [List.map_map]; exact hp5)
        have HP4' := Lib.hid (HP4.out.below hb5)
        clear hp5 hb5 HP4
        go_wp2_with fail
        refine (refRows_of HKS.out p4 p5 w5 HP4'.out HP5.out HLN.out).mono ?_
        rintro e w6 ⟨rfl, hb6⟩
        have HB6 := Lib.hid (Below.after HB5.out hb6)
        clear hb6
        go_wp2_with fail
        go_ret
        exact ⟨ret_i64 HC.out.symm, HB6.out⟩
      · rw [orI_ne hq] at HC
        have hq2 : (!q == 0) = true := by simpa using hq
        go_wp2_with fail
        go_ret
        exact ⟨ret_i64 HC.out.symm, HB3.out⟩
  · have hR : cmpT t u = sgB (decide (t.nd.kind < u.nd.kind)) false := by
      rw [HRn.out hk, ← sgB_int, decide_eq_false hk]
    have HC := Lib.hid hR
    generalize t.nd.kind = k1 at *
    generalize u.nd.kind = k2 at *
    have hk1 : (k1 == k2) = false := by simpa using hk
    go_wp2_with fail
    go_at_call 34
    refine (refSign_any _ _ _).mono ?_
    rintro e w1 ⟨rfl, rfl⟩
    go_wp2_with fail
    go_ret
    exact ⟨ret_i64 HC.out.symm, below_quiet ⟨nq, rfl⟩⟩
end Go.Proofs.YtbhgmfddjnkglaaGreatDoor
