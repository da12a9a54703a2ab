/-
  Joined: ORef4, ORef5, ErC.
-/
import Derived.Test.YtldioobbfkaebaaGreatDoorEvalHoldsJ31
import Derived.Test.YtldioobbfkaebaaGreatDoorEvalHoldsJ33
import Derived.Test.YtldioobbfkaebaaGreatDoorEvalHoldsJ30
import Derived.Test.YtldioobbfkaebaaGreatDoorEvalHoldsJ27
import Derived.Test.YtldioobbfkaebaaGreatDoorEvalHoldsJ16
import Derived.Test.YtldioobbfkaebaaGreatDoorEvalHoldsJ19
set_option maxHeartbeats 4000000
set_option maxRecDepth 100000
namespace Go.Proofs.YtldioobbfkaebaaGreatDoor
section
open Go.RowKit Np Rw Vp Ov
theorem cmpTs_nmd : ∀ ts us : List (Tr Nd), cmpTs (ts.map (nmd [])) (us.map (nmd [])) = cmpTs ts us
 | [], [] => rfl
 | [], u :: us => by simp
 | t :: ts, [] => by simp
 | t :: ts, u :: us => by simp only [List.map_cons]; rw [cmpTs_cons, cmpTs_cons, cmpT_nmd, cmpTs_nmd ts us]
theorem ks_le (t : Tr Nd) : t.ks.length ≤ (flat t).length := by
 have := flats_len t.ks
 rw [flat_eq, List.length_cons]; omega
theorem names_le (t : Tr Nd) : (namesT t).length ≤ (flat t).length := by
 have := ks_le t
 unfold namesT
 split
 ·rw [List.length_map]; exact this
 ·simp
theorem num_right {t : Tr Nd} (ht : Val t) (h : t.nd.kind = 3) : right ⟨3, t.nd.many, [], t.nd.s, t.nd.neg, t.nd.e⟩ = true := by
 have h1 := ht.plain
 unfold plainN at h1
 rw [if_neg (by omega), if_pos h] at h1
 rw [← h]
 exact h1
theorem NodeAt.unname {B : Nat} {n : Nd} {w : World} (h : NodeAt B n w) : NodeAt B { n with name := [] } (w.setCell ⟨B, 2, none⟩ (.string ⟨#[]⟩)) := by
 unfold NodeAt at *; simp [World.setCell, Array.getElem?_modify, h]
theorem fill_below {D C : Nat} {a w : World} (h : Below D a w) (hp : D ≤ C) (m : Nd) : Below D a (fillN C m w) := (((((h.setCell hp _).setCell hp _).setCell hp _).setCell hp _).setCell hp _).setCell hp _
theorem refCmpV_of {t u : Tr Nd} (ht : Val t) (hu : Val u) (h1 : (flat t).length ≤ 60000) (h2 : (flat u).length ≤ 60000) (H : ∀ a ∈ t.ks, ∀ b ∈ u.ks, RefQ (nmd [] a) (nmd [] b)) : RefQ t u := by
 intro va vb w ha hb
 have HKS : Hid (∀ x ∈ t.ks.map (nmd []), ∀ y ∈ u.ks.map (nmd []), RefQ x y) := Lib.hid fun x hx y hy => by
  obtain ⟨a, ha, rfl⟩ := List.mem_map.1 hx
  obtain ⟨b, hb, rfl⟩ := List.mem_map.1 hy
  exact H a ha b hb
 have HLN : Hid ((t.ks.map (nmd [])).length ≤ 100000) := Lib.hid (by have := ks_le t; rw [List.length_map]; omega)
 have HLM : Hid ((namesT t).length ≤ 100000 ∧ (namesT u).length ≤ 100000) := Lib.hid (by have := names_le t; have := names_le u; omega)
 have HPa := Lib.hid (fun W hb => refParts_any va t W (ha.below hb) (by omega) ht)
 have HPb := Lib.hid (fun W hb1 => refParts_any vb u W (hb.below hb1) (by omega) hu)
 have HNa := Lib.hid (fun W hb => refNames_any va t W (ha.below hb) (by omega) ht)
 have HNb := Lib.hid (fun W hb1 => refNames_any vb u W (hb.below hb1) (by omega) hu)
 obtain ⟨g, o, c, rfl, hc, hcm, hg, hx⟩ := ha.opened (flat_pos t)
 obtain ⟨g2, o2, c2, rfl, hc2, hcm2, hg2, hx2⟩ := hb.opened (flat_pos u)
 obtain ⟨a0, a1, a2, a3, a4, a5⟩ := (hx 0 t.nd (by rw [flat_eq]; rfl)).nd
 obtain ⟨b0, b1, b2, b3, b4, b5⟩ := (hx2 0 u.nd (by rw [flat_eq]; rfl)).nd
 rw [Nat.zero_mul, Nat.add_zero] at a0 a1 a2 a3 a4 a5 b0 b1 b2 b3 b4 b5
 have hp1 := flat_pos t
 have hp2 := flat_pos u
 have HRn := Lib.hid (fun h => cmpT_kind (t := t) (u := u) h)
 have HRs := Lib.hid (fun h => cmpT_same (t := t) (u := u) h)
 have HK := Lib.hid ht.ok9.kinds
 generalize (flat t).length = N1 at *
 generalize (flat u).length = N2 at *
 go_enter Tryz.func28, Tryz.ntmps28
 go_wp2_with fail
 go_quiet (fail)
 by_cases hk : t.nd.kind = u.nd.kind
 ·have hR := HRs.out hk
  rw [← hk] at b0 ⊢
  rcases HK.out with h | h | h | h | h | h | h
  ·have HC : Hid (cmpT t u = 0) := Lib.hid (by rw [hR]; simp [h])
   rw [h] at a0 b0 ⊢
   go_wp2_with fail
   go_ret
   exact ⟨ret_i64 HC.out.symm, below_quiet ⟨nq, rfl⟩⟩
  ·have HC : Hid (cmpT t u = 0) := Lib.hid (by rw [hR]; simp [h])
   rw [h] at a0 b0 ⊢
   go_wp2_with fail
   go_ret
   exact ⟨ret_i64 HC.out.symm, below_quiet ⟨nq, rfl⟩⟩
  ·have HC : Hid (cmpT t u = 0) := Lib.hid (by rw [hR]; simp [h])
   rw [h] at a0 b0 ⊢
   go_wp2_with fail
   go_ret
   exact ⟨ret_i64 HC.out.symm, below_quiet ⟨nq, rfl⟩⟩
  ·have HC : Hid (cmpT t u = cmpN t.nd.s t.nd.neg t.nd.e u.nd.s u.nd.neg u.nd.e) := Lib.hid (by rw [hR, if_pos h])
   have HRT := Lib.hid (num_right ht h)
   have HRU := Lib.hid (num_right hu (hk ▸ h))
   rw [h] at a0 b0 ⊢
   clear HRn HRs hR h hk
   generalize t.nd.many = xm at *
   generalize t.nd.name = xn at *
   generalize t.nd.s = xs at *
   generalize t.nd.neg = xg at *
   generalize t.nd.e = xe at *
   generalize u.nd.many = ym at *
   generalize u.nd.name = yn at *
   generalize u.nd.s = ys at *
   generalize u.nd.neg = yg at *
   generalize u.nd.e = ye at *
   go_upto_region 6 with fail
   have HKP : Hid (∀ W, Below w.heap.size w W → W.cell? ⟨g, o, none⟩ = some (.int .i64 3) ∧ W.cell? ⟨g, o + 1, none⟩ = some (.int .i64 xm) ∧ W.cell? ⟨g, o + 2, none⟩ = some (.string ⟨xn.toArray⟩) ∧ W.cell? ⟨g, o + 3, none⟩ = some (.string ⟨xs.toArray⟩) ∧ W.cell? ⟨g, o + 4, none⟩ = some (.bool xg) ∧ W.cell? ⟨g, o + 5, none⟩ = some (.int .i64 xe) ∧ W.cell? ⟨g2, o2, none⟩ = some (.int .i64 3) ∧ W.cell? ⟨g2, o2 + 1, none⟩ = some (.int .i64 ym) ∧ W.cell? ⟨g2, o2 + 2, none⟩ = some (.string ⟨yn.toArray⟩) ∧ W.cell? ⟨g2, o2 + 3, none⟩ = some (.string ⟨ys.toArray⟩) ∧ W.cell? ⟨g2, o2 + 4, none⟩ = some (.bool yg) ∧ W.cell? ⟨g2, o2 + 5, none⟩ = some (.int .i64 ye) ∧ Below w.heap.size w W) := Lib.hid fun W hb => ⟨(hb.cell (p := ⟨g, o, none⟩) hg).trans a0, (hb.cell (p := ⟨g, o + 1, none⟩) hg).trans a1, (hb.cell (p := ⟨g, o + 2, none⟩) hg).trans a2, (hb.cell (p := ⟨g, o + 3, none⟩) hg).trans a3, (hb.cell (p := ⟨g, o + 4, none⟩) hg).trans a4, (hb.cell (p := ⟨g, o + 5, none⟩) hg).trans a5, (hb.cell (p := ⟨g2, o2, none⟩) hg2).trans b0, (hb.cell (p := ⟨g2, o2 + 1, none⟩) hg2).trans b1, (hb.cell (p := ⟨g2, o2 + 2, none⟩) hg2).trans b2, (hb.cell (p := ⟨g2, o2 + 3, none⟩) hg2).trans b3, (hb.cell (p := ⟨g2, o2 + 4, none⟩) hg2).trans b4, (hb.cell (p := ⟨g2, o2 + 5, none⟩) hg2).trans b5, hb⟩
   have HBd : Hid (Below w.heap.size w (w.drewN nq)) := Lib.hid (below_quiet ⟨nq, rfl⟩)
   go_cut [7, 8] (fun s7 s8 wx => ∃ B C, s7 = .pointer (some ⟨B, 0, none⟩) ∧ s8 = .pointer (some ⟨C, 0, none⟩) ∧ w.heap.size ≤ B ∧ w.heap.size ≤ C ∧ B ≠ C ∧ Hid (NodeAt B ⟨3, xm, xn, xs, xg, xe⟩ wx ∧ NodeAt C ⟨3, ym, yn, ys, yg, ye⟩ wx ∧ Below w.heap.size w wx))
   case first =>
    refine wp_region_held_drew (S := (fun W => W.cell? ⟨g, o, none⟩ = some (.int .i64 3) ∧ W.cell? ⟨g, o + 1, none⟩ = some (.int .i64 xm) ∧ W.cell? ⟨g, o + 2, none⟩ = some (.string ⟨xn.toArray⟩) ∧ W.cell? ⟨g, o + 3, none⟩ = some (.string ⟨xs.toArray⟩) ∧ W.cell? ⟨g, o + 4, none⟩ = some (.bool xg) ∧ W.cell? ⟨g, o + 5, none⟩ = some (.int .i64 xe) ∧ W.cell? ⟨g2, o2, none⟩ = some (.int .i64 3) ∧ W.cell? ⟨g2, o2 + 1, none⟩ = some (.int .i64 ym) ∧ W.cell? ⟨g2, o2 + 2, none⟩ = some (.string ⟨yn.toArray⟩) ∧ W.cell? ⟨g2, o2 + 3, none⟩ = some (.string ⟨ys.toArray⟩) ∧ W.cell? ⟨g2, o2 + 4, none⟩ = some (.bool yg) ∧ W.cell? ⟨g2, o2 + 5, none⟩ = some (.int .i64 ye) ∧ Below w.heap.size w W)) (by kernel_rfl) (HKP.out _ HBd.out.drew) (fun hH => ?_)
    refine wpAnyH_take (i := 0) (v := .slice (some ⟨g, o, none⟩) N1 c) rfl (by kernel_rfl) (by kernel_rfl) (by kernel_rfl) (fun _ _ _ h => h) (Or.inl ⟨by kernel_rfl, ?_⟩) (by assumption) ?_
    ·intro w' hSw; (try dsimp only at hSw); go_simp
    try simp only [Act.put, List.getElem_toArray, List.getElem_cons_zero, List.setIfInBounds_toArray, List.set_cons_zero, List.set_cons_succ]
    refine wpAnyH_take (i := 1) (v := .pointer (some ⟨g, o, none⟩)) rfl (by kernel_rfl) (by kernel_rfl) (by kernel_rfl) (fun _ _ _ h => h) (Or.inl ⟨by kernel_rfl, ?_⟩) (by assumption) ?_
    ·intro w' hSw; (try dsimp only at hSw); go_simp
    try simp only [Act.put, List.getElem_toArray, List.getElem_cons_succ, List.getElem_cons_zero, List.setIfInBounds_toArray, List.set_cons_zero, List.set_cons_succ]
    refine wpAnyH_take (i := 2) (v := .agg #[.int .i64 3, .int .i64 xm, .string ⟨xn.toArray⟩, .string ⟨xs.toArray⟩, .bool xg, .int .i64 xe]) rfl (by kernel_rfl) (by kernel_rfl) (by kernel_rfl) (fun _ _ _ h => h) (Or.inl ⟨by kernel_rfl, ?_⟩) (by assumption) ?_
    ·intro w' hSw; (try dsimp only at hSw); go_simp
    try simp only [Act.put, List.getElem_toArray, List.getElem_cons_succ, List.getElem_cons_zero, List.setIfInBounds_toArray, List.set_cons_zero, List.set_cons_succ]
    refine wpAnyH_take (i := 3) (v := .slice (some ⟨g2, o2, none⟩) N2 c2) rfl (by kernel_rfl) (by kernel_rfl) (by kernel_rfl) (fun _ _ _ h => h) (Or.inl ⟨by kernel_rfl, ?_⟩) (by assumption) ?_
    ·intro w' hSw; (try dsimp only at hSw); go_simp
    try simp only [Act.put, List.getElem_toArray, List.getElem_cons_succ, List.getElem_cons_zero, List.setIfInBounds_toArray, List.set_cons_zero, List.set_cons_succ]
    refine wpAnyH_take (i := 4) (v := .pointer (some ⟨g2, o2, none⟩)) rfl (by kernel_rfl) (by kernel_rfl) (by kernel_rfl) (fun _ _ _ h => h) (Or.inl ⟨by kernel_rfl, ?_⟩) (by assumption) ?_
    ·intro w' hSw; (try dsimp only at hSw); go_simp
    try simp only [Act.put, List.getElem_toArray, List.getElem_cons_succ, List.getElem_cons_zero, List.setIfInBounds_toArray, List.set_cons_zero, List.set_cons_succ]
    refine wpAnyH_take (i := 5) (v := .agg #[.int .i64 3, .int .i64 ym, .string ⟨yn.toArray⟩, .string ⟨ys.toArray⟩, .bool yg, .int .i64 ye]) rfl (by kernel_rfl) (by kernel_rfl) (by kernel_rfl) (fun _ _ _ h => h) (Or.inl ⟨by kernel_rfl, ?_⟩) (by assumption) ?_
    ·intro w' hSw; (try dsimp only at hSw); go_simp
    try simp only [Act.put, List.getElem_toArray, List.getElem_cons_succ, List.getElem_cons_zero, List.setIfInBounds_toArray, List.set_cons_zero, List.set_cons_succ]
    have hA1 : Hid (Below w.heap.size w ((w.drewN (nq + 1)).alloc (.cells #[.int .i64 0, .int .i64 0, .string ⟨#[]⟩, .string ⟨#[]⟩, .bool false, .int .i64 0] 30))) := Lib.hid (HBd.out.drew.alloc (Nat.le_refl _) _)
    have hA2 : Hid (Below w.heap.size w (((w.drewN (nq + 1)).alloc (.cells #[.int .i64 0, .int .i64 0, .string ⟨#[]⟩, .string ⟨#[]⟩, .bool false, .int .i64 0] 30)).alloc (.cells #[.int .i64 0, .int .i64 0, .string ⟨#[]⟩, .string ⟨#[]⟩, .bool false, .int .i64 0] 30))) := Lib.hid (hA1.out.alloc (by simp) _)
    have zA : Hid (NodeAt w.heap.size zeroN (((w.drewN (nq + 1)).alloc (.cells #[.int .i64 0, .int .i64 0, .string ⟨#[]⟩, .string ⟨#[]⟩, .bool false, .int .i64 0] 30)).alloc (.cells #[.int .i64 0, .int .i64 0, .string ⟨#[]⟩, .string ⟨#[]⟩, .bool false, .int .i64 0] 30))) := Lib.hid ((Below.heap_alloc _ _ _ (by simp)).trans (alloc_at _ _ rfl))
    have zB : Hid (NodeAt (w.heap.size + 1) zeroN (((w.drewN (nq + 1)).alloc (.cells #[.int .i64 0, .int .i64 0, .string ⟨#[]⟩, .string ⟨#[]⟩, .bool false, .int .i64 0] 30)).alloc (.cells #[.int .i64 0, .int .i64 0, .string ⟨#[]⟩, .string ⟨#[]⟩, .bool false, .int .i64 0] 30))) := Lib.hid (alloc_at _ _ (by simp))
    refine wpAnyH_ready (rs := [6, 7]) (by kernel_rfl) (by simp) ?_
    refine AllReadyH.cons rfl (fun K hK => ?_) (AllReadyH.cons rfl (fun K hK => ?_) AllReadyH.nil)
    ·go_simp
     refine hK.out _ _ (HKP.out _ hA1.out) (fun hHeld1 => ?_)
     clear hK K
     try simp only [Act.put, List.getElem_toArray, List.getElem_cons_succ, List.getElem_cons_zero, List.setIfInBounds_toArray, List.set_cons_zero, List.set_cons_succ]
     refine wpAnyH_ready (rs := [7]) (by kernel_rfl) (by simp) ?_
     refine AllReadyH.cons rfl (fun K hK => ?_) AllReadyH.nil
     go_simp
     refine hK.out _ _ (HKP.out _ hA2.out) (fun hHeld2 => ?_)
     clear hK K
     try simp only [Act.put, List.getElem_toArray, List.getElem_cons_succ, List.getElem_cons_zero, List.setIfInBounds_toArray, List.set_cons_zero, List.set_cons_succ]
     clear hHeld1 hHeld2 hA1
     generalize ((w.drewN (nq + 1)).alloc (.cells #[.int .i64 0, .int .i64 0, .string ⟨#[]⟩, .string ⟨#[]⟩, .bool false, .int .i64 0] 30)).alloc (.cells #[.int .i64 0, .int .i64 0, .string ⟨#[]⟩, .string ⟨#[]⟩, .bool false, .int .i64 0] 30) = W2 at *
     have zX : NodeAt w.heap.size zeroN W2 := zA.out
     have zY : NodeAt (w.heap.size + 1) zeroN W2 := zB.out
     obtain ⟨x0, x1, x2, x3, x4, x5⟩ := zX.nd
     simp only [Nat.zero_add] at x1 x2 x3 x4 x5
     have fx := zX.fz
     have zX2 := zX.fill ⟨3, xm, xn, xs, xg, xe⟩
     have zY2 := zY.fillO (C := w.heap.size) (by omega) ⟨3, xm, xn, xs, xg, xe⟩
     have hb2 := fill_below hA2.out (C := w.heap.size) (by omega) ⟨3, xm, xn, xs, xg, xe⟩
     unfold fillN at zX2 zY2 hb2
     refine wpAnyH_ready (rs := [8]) (by kernel_rfl) (by simp) ?_
     refine AllReadyH.cons rfl (fun K hK => ?_) AllReadyH.nil
     go_simp
     refine hK.out _ _ (HKP.out _ hb2) (fun hHeld3 => ?_)
     clear hK K hHeld3 x0 x1 x2 x3 x4 x5 fx zX zY zA zB hA2
     try simp only [Act.put, List.getElem_toArray, List.getElem_cons_succ, List.getElem_cons_zero, List.setIfInBounds_toArray, List.set_cons_zero, List.set_cons_succ]
     generalize (((((World.setCell _ ⟨w.heap.size, 0, none⟩ _).setCell _ _).setCell _ _).setCell _ _).setCell _ _).setCell _ _ = W3 at *
     obtain ⟨x0, x1, x2, x3, x4, x5⟩ := zY2.nd
     simp only [Nat.zero_add] at x1 x2 x3 x4 x5
     have fx := zY2.fz
     have zX3 := zX2.fillO (C := (w.heap.size + 1)) (by omega) ⟨3, ym, yn, ys, yg, ye⟩
     have zY3 := zY2.fill ⟨3, ym, yn, ys, yg, ye⟩
     have hb3 := fill_below hb2 (C := (w.heap.size + 1)) (by omega) ⟨3, ym, yn, ys, yg, ye⟩
     unfold fillN at zX3 zY3 hb3
     refine wpAnyH_ready (rs := [9]) (by kernel_rfl) (by simp) ?_
     refine AllReadyH.cons rfl (fun K hK => ?_) AllReadyH.nil
     go_simp
     refine hK.out _ _ (HKP.out _ hb3) (fun hHeld4 => ?_)
     clear hK K hHeld4 x0 x1 x2 x3 x4 x5 fx
     try simp only [Act.put, List.getElem_toArray, List.getElem_cons_succ, List.getElem_cons_zero, List.setIfInBounds_toArray, List.set_cons_zero, List.set_cons_succ]
     generalize (((((World.setCell _ ⟨(w.heap.size + 1), 0, none⟩ _).setCell _ _).setCell _ _).setCell _ _).setCell _ _).setCell _ _ = W4 at *
     refine wpAnyH_done (by kernel_rfl) ?_ _
     go_wp2_with fail
     go_meet
     exact ⟨w.heap.size, (w.heap.size + 1), rfl, rfl, by omega, by omega, by omega, Lib.hid ⟨zX3, zY3, hb3⟩⟩
    ·go_simp
     refine hK.out _ _ (HKP.out _ hA1.out) (fun hHeld1 => ?_)
     clear hK K
     try simp only [Act.put, List.getElem_toArray, List.getElem_cons_succ, List.getElem_cons_zero, List.setIfInBounds_toArray, List.set_cons_zero, List.set_cons_succ]
     refine wpAnyH_ready (rs := [6]) (by kernel_rfl) (by simp) ?_
     refine AllReadyH.cons rfl (fun K hK => ?_) AllReadyH.nil
     go_simp
     refine hK.out _ _ (HKP.out _ hA2.out) (fun hHeld2 => ?_)
     clear hK K
     try simp only [Act.put, List.getElem_toArray, List.getElem_cons_succ, List.getElem_cons_zero, List.setIfInBounds_toArray, List.set_cons_zero, List.set_cons_succ]
     clear hHeld1 hHeld2 hA1
     generalize ((w.drewN (nq + 1)).alloc (.cells #[.int .i64 0, .int .i64 0, .string ⟨#[]⟩, .string ⟨#[]⟩, .bool false, .int .i64 0] 30)).alloc (.cells #[.int .i64 0, .int .i64 0, .string ⟨#[]⟩, .string ⟨#[]⟩, .bool false, .int .i64 0] 30) = W2 at *
     have zX : NodeAt (w.heap.size + 1) zeroN W2 := zB.out
     have zY : NodeAt w.heap.size zeroN W2 := zA.out
     obtain ⟨x0, x1, x2, x3, x4, x5⟩ := zX.nd
     simp only [Nat.zero_add] at x1 x2 x3 x4 x5
     have fx := zX.fz
     have zX2 := zX.fill ⟨3, xm, xn, xs, xg, xe⟩
     have zY2 := zY.fillO (C := (w.heap.size + 1)) (by omega) ⟨3, xm, xn, xs, xg, xe⟩
     have hb2 := fill_below hA2.out (C := (w.heap.size + 1)) (by omega) ⟨3, xm, xn, xs, xg, xe⟩
     unfold fillN at zX2 zY2 hb2
     refine wpAnyH_ready (rs := [8]) (by kernel_rfl) (by simp) ?_
     refine AllReadyH.cons rfl (fun K hK => ?_) AllReadyH.nil
     go_simp
     refine hK.out _ _ (HKP.out _ hb2) (fun hHeld3 => ?_)
     clear hK K hHeld3 x0 x1 x2 x3 x4 x5 fx zX zY zA zB hA2
     try simp only [Act.put, List.getElem_toArray, List.getElem_cons_succ, List.getElem_cons_zero, List.setIfInBounds_toArray, List.set_cons_zero, List.set_cons_succ]
     generalize (((((World.setCell _ ⟨(w.heap.size + 1), 0, none⟩ _).setCell _ _).setCell _ _).setCell _ _).setCell _ _).setCell _ _ = W3 at *
     obtain ⟨x0, x1, x2, x3, x4, x5⟩ := zY2.nd
     simp only [Nat.zero_add] at x1 x2 x3 x4 x5
     have fx := zY2.fz
     have zX3 := zX2.fillO (C := w.heap.size) (by omega) ⟨3, ym, yn, ys, yg, ye⟩
     have zY3 := zY2.fill ⟨3, ym, yn, ys, yg, ye⟩
     have hb3 := fill_below hb2 (C := w.heap.size) (by omega) ⟨3, ym, yn, ys, yg, ye⟩
     unfold fillN at zX3 zY3 hb3
     refine wpAnyH_ready (rs := [9]) (by kernel_rfl) (by simp) ?_
     refine AllReadyH.cons rfl (fun K hK => ?_) AllReadyH.nil
     go_simp
     refine hK.out _ _ (HKP.out _ hb3) (fun hHeld4 => ?_)
     clear hK K hHeld4 x0 x1 x2 x3 x4 x5 fx
     try simp only [Act.put, List.getElem_toArray, List.getElem_cons_succ, List.getElem_cons_zero, List.setIfInBounds_toArray, List.set_cons_zero, List.set_cons_succ]
     generalize (((((World.setCell _ ⟨w.heap.size, 0, none⟩ _).setCell _ _).setCell _ _).setCell _ _).setCell _ _).setCell _ _ = W4 at *
     refine wpAnyH_done (by kernel_rfl) ?_ _
     go_wp2_with fail
     go_meet
     exact ⟨(w.heap.size + 1), w.heap.size, rfl, rfl, by omega, by omega, by omega, Lib.hid ⟨zX3, zY3, hb3⟩⟩
   case rest =>
    obtain ⟨B, C, rfl, rfl, hB, hC, hne, HN⟩ := hcut
    have fB := HN.out.1.fz 2
    have fC := HN.out.2.1.fz 2
    have hcb := HN.out.1.nd.c2
    have hcc := HN.out.2.1.nd.c2
    rw [Nat.zero_add] at hcb hcc
    have hne2 : ¬ C = B := fun e => hne e.symm
    have n1 := HN.out.1.unname.other (p := ⟨C, 2, none⟩) hne2 (.string ⟨#[]⟩)
    have n2 := (HN.out.2.1.other (p := ⟨B, 2, none⟩) hne (.string ⟨#[]⟩)).unname
    have n3 : Below w.heap.size w ((wc.setCell ⟨B, 2, none⟩ (.string ⟨#[]⟩)).setCell ⟨C, 2, none⟩ (.string ⟨#[]⟩)) := (HN.out.2.2.setCell hB _).setCell hC _
    go_upto_region 9 with fail
    clear fB fC hcb hcc
    generalize (wc.setCell ⟨B, 2, none⟩ (.string ⟨#[]⟩)).setCell ⟨C, 2, none⟩ (.string ⟨#[]⟩) = W9 at n1 n2 n3 ⊢
    have HN3 := Lib.hid n3
    obtain ⟨x0, x1, x2, x3, x4, x5⟩ := n1.nd
    obtain ⟨y0, y1, y2, y3, y4, y5⟩ := n2.nd
    clear n1 n2 n3
    go_wp2_with fail
    refine (refCmp_any 3 xm ⟨#[]⟩ ⟨xs.toArray⟩ xg xe 3 ym ⟨#[]⟩ ⟨ys.toArray⟩ yg ye W9 HRT.out HRU.out).mono ?_
    rintro e w3 ⟨rfl, hb3⟩
    have HB3 : Hid (Below w.heap.size w w3) := Lib.hid (HN3.out.trans (hb3.mono HN3.out.size))
    clear hb3 x0 x1 x2 x3 x4 x5 y0 y1 y2 y3 y4 y5
    go_wp2_with fail
    go_ret
    exact ⟨ret_i64 HC.out.symm, HB3.out⟩
  ·have HC : Hid (cmpT t u = sgB (Op.bytesLess t.nd.s u.nd.s) (t.nd.s == u.nd.s)) := Lib.hid (by
    rw [hR, if_neg (by omega), if_pos h, ← sgB_bytes, bytesLess_eq]
    congr 1
    rw [Bool.eq_iff_iff]; simp)
   rw [h] at a0 b0 ⊢
   clear a0 a1 a2 a4 a5 b0 b1 b2 b4 b5 HRn HRs hR h hk
   go_upto_region 11 with fail
   have HBd : Hid (Below w.heap.size w (w.drewN nq)) := Lib.hid (below_quiet ⟨nq, rfl⟩)
   go_region_held3 (fun w' => w'.cell? ⟨g, o + 3, none⟩ = some (.string ⟨t.nd.s.toArray⟩) ∧ w'.cell? ⟨g2, o2 + 3, none⟩ = some (.string ⟨u.nd.s.toArray⟩) ∧ Below w.heap.size w w')
    (first | exact ⟨a3, b3, HBd.out.drew⟩ | go_keep)
    ((go_at_call 56; have HBW : Hid (Below w.heap.size w _) := Lib.hid (by assumption); refine (refSign_any _ _ _).mono ?_; rintro e w3 ⟨rfl, rfl⟩))
   all_goals go_wp2_with fail
   all_goals go_ret
   all_goals exact ⟨ret_i64 HC.out.symm, below_quiet ⟨_, rfl⟩⟩
  ·have HC : Hid (cmpT t u = cmpTs (t.ks.map (nmd [])) (u.ks.map (nmd []))) := Lib.hid (by rw [cmpTs_nmd, hR, if_neg (by omega), if_neg (by omega), if_pos h])
   rw [h] at a0 b0 ⊢
   clear a0 a1 a2 a3 a4 a5 b0 b1 b2 b3 b4 b5 HRn HRs hR h hk
   go_wp2_with fail
   refine (HPa.out _ (below_quiet ⟨nq, rfl⟩)).mono ?_
   rintro e w1 ⟨p1, rfl, hp1, hb1⟩
   have HB1 : Hid (Below w.heap.size w w1) := Lib.hid ((below_quiet ⟨nq, rfl⟩ : Below w.heap.size w (w.drewN nq)).trans hb1)
   have HP1 : Hid (Vls w1 p1 ((t.ks.map (nmd [])).map flat)) := Lib.hid (by rw [List.map_map]; exact hp1)
   clear hp1 hb1
   go_wp2_with fail
   refine (HPb.out _ HB1.out).mono ?_
   rintro e w2 ⟨p2, rfl, hp2, hb2⟩
   have HB2 : Hid (Below w.heap.size w w2) := Lib.hid (Below.after HB1.out hb2)
   have HP2 : Hid (Vls w2 p2 ((u.ks.map (nmd [])).map flat)) := Lib.hid (by rw [List.map_map]; exact hp2)
   have HP1' := Lib.hid (HP1.out.below hb2)
   clear hp2 hb2 HP1
   go_wp2_with fail
   refine (refRows_of HKS.out p1 p2 w2 HP1'.out HP2.out HLN.out).mono ?_
   rintro e w3 ⟨rfl, hb3⟩
   have HB3 := Lib.hid (Below.after HB2.out hb3)
   clear hb3
   go_wp2_with fail
   go_ret
   exact ⟨ret_i64 HC.out.symm, HB3.out⟩
  ·have HC : Hid (cmpT t u = orI (cmpNm (namesT t) (namesT u)) (cmpTs (t.ks.map (nmd [])) (u.ks.map (nmd [])))) := Lib.hid (by rw [cmpTs_nmd, hR, if_neg (by omega), if_neg (by omega), if_neg (by omega), if_pos h, namesT, namesT, if_pos h, if_pos (hk ▸ h)])
   rw [h] at a0 b0 ⊢
   clear a0 a1 a2 a3 a4 a5 b0 b1 b2 b3 b4 b5 HRn HRs hR h hk
   go_wp2_with fail
   refine (HNa.out _ (below_quiet ⟨nq, rfl⟩)).mono ?_
   rintro e w1 ⟨p1, rfl, hp1, hb1⟩
   have HB1 : Hid (Below w.heap.size w w1) := Lib.hid ((below_quiet ⟨nq, rfl⟩ : Below w.heap.size w (w.drewN nq)).trans hb1)
   have HP1 := Lib.hid hp1
   clear hp1 hb1
   go_wp2_with fail
   refine (HNb.out _ HB1.out).mono ?_
   rintro e w2 ⟨p2, rfl, hp2, hb2⟩
   have HB2 : Hid (Below w.heap.size w w2) := Lib.hid (Below.after HB1.out hb2)
   have HP2 := Lib.hid hp2
   have HP1' := Lib.hid (HP1.out.below hb2)
   clear hp2 hb2 HP1
   go_wp2_with fail
   refine (refNamesCmp_any p1 p2 _ _ w2 HP1'.out HP2.out HLM.out.1 HLM.out.2).mono ?_
   rintro e w3 ⟨rfl, hb3⟩
   have HB3 := Lib.hid (Below.after HB2.out hb3)
   clear hb3
   generalize cmpNm (namesT t) (namesT u) = q at *
   by_cases hq : q = 0
   ·subst hq
    rw [orI_z] at HC
    go_wp2_with fail
    refine (HPa.out _ HB3.out).mono ?_
    rintro e w4 ⟨p4, rfl, hp4, hb4⟩
    have HB4 : Hid (Below w.heap.size w w4) := Lib.hid (Below.after HB3.out hb4)
    have HP4 : Hid (Vls w4 p4 ((t.ks.map (nmd [])).map flat)) := Lib.hid (by rw [List.map_map]; exact hp4)
    clear hp4 hb4
    go_wp2_with fail
    refine (HPb.out _ HB4.out).mono ?_
    rintro e w5 ⟨p5, rfl, hp5, hb5⟩
    have HB5 : Hid (Below w.heap.size w w5) := Lib.hid (Below.after HB4.out hb5)
    have HP5 : Hid (Vls w5 p5 ((u.ks.map (nmd [])).map flat)) := Lib.hid (by rw [List.map_map]; exact hp5)
    have HP4' := Lib.hid (HP4.out.below hb5)
    clear hp5 hb5 HP4
    go_wp2_with fail
    refine (refRows_of HKS.out p4 p5 w5 HP4'.out HP5.out HLN.out).mono ?_
    rintro e w6 ⟨rfl, hb6⟩
    have HB6 := Lib.hid (Below.after HB5.out hb6)
    clear hb6
    go_wp2_with fail
    go_ret
    exact ⟨ret_i64 HC.out.symm, HB6.out⟩
   ·rw [orI_ne hq] at HC
    have hq2 : (!q == 0) = true := by simpa using hq
    go_wp2_with fail
    go_ret
    exact ⟨ret_i64 HC.out.symm, HB3.out⟩
 ·have hR : cmpT t u = sgB (decide (t.nd.kind < u.nd.kind)) false := by
   rw [HRn.out hk, ← sgB_int, decide_eq_false hk]
  have HC := Lib.hid hR
  generalize t.nd.kind = k1 at *
  generalize u.nd.kind = k2 at *
  have hk1 : (k1 == k2) = false := by simpa using hk
  go_wp2_with fail
  go_at_call 56
  refine (refSign_any _ _ _).mono ?_
  rintro e w1 ⟨rfl, rfl⟩
  go_wp2_with fail
  go_ret
  exact ⟨ret_i64 HC.out.symm, below_quiet ⟨nq, rfl⟩⟩
end
section
open Go.RowKit Np Rw Vp Ov
theorem flat_le_flats {a : Tr Nd} {ts : List (Tr Nd)} (h : a ∈ ts) : (flat a).length ≤ (flats ts).length := by
 induction ts with
 | nil => cases h
 | cons b ts ih =>
  rw [flats_cons, List.length_append]
  rcases List.mem_cons.1 h with rfl | h
  ·omega
  ·have := ih h; omega
theorem part_val {t a : Tr Nd} (h : Val t) (ha : a ∈ t.ks) : Val (nmd [] a) := by
 obtain ⟨h1, h2⟩ := h.parts a ha
 exact ⟨okT_nmd h1, by rw [rightT_nmd]; exact h2, nmd_name _ _⟩
theorem part_len {t a : Tr Nd} (ha : a ∈ t.ks) : (flat (nmd [] a)).length + 1 ≤ (flat t).length := by
 have h1 := flat_le_flats ha
 rw [flat_nmd_len, flat_eq t, List.length_cons]
 omega
theorem refCmpV_upto : ∀ (n : Nat) (t u : Tr Nd), (flat t).length ≤ n → (flat t).length ≤ 60000 → (flat u).length ≤ 60000 → Val t → Val u → RefQ t u := by
 intro n
 induction n with
 | zero => intro t u h; have := flat_pos t; omega
 | succ n ih =>
  intro t u h h1 h2 ht hu
  refine refCmpV_of ht hu h1 h2 fun a ha b hb => ?_
  have l1 := part_len ha
  have l2 := part_len hb
  exact ih _ _ (by omega) (by omega) (by omega) (part_val ht ha) (part_val hu hb)
theorem refCmpV_any {t u : Tr Nd} (h1 : (flat t).length ≤ 60000) (h2 : (flat u).length ≤ 60000) (ht : Val t) (hu : Val u) : RefQ t u := refCmpV_upto _ t u (Nat.le_refl _) h1 h2 ht hu
end
section
open Go.RowKit Np Rw Vp Up Qp Pw Fw Ev Ov
theorem refSays10_any (n told : Int) (w : World) (h0 : 0 ≤ n) (h5 : n ≤ 5) : Calls Tryz.prog 27 #[.int .i64 n, .int .i64 told] w fun e w' => e = .returned (.bool (soP n told)) ∧ w' = w := by
 have h : n = 0 ∨ n = 1 ∨ n = 2 ∨ n = 3 ∨ n = 4 ∨ n = 5 := by omega
 rcases h with rfl | rfl | rfl | rfl | rfl | rfl
 all_goals
  go_enter Tryz.func27, Tryz.ntmps27
  go_wp2_with fail
  go_ret
  exact ⟨ret_bool (by simp [soP]), rfl⟩
theorem refPath10_any (s : List UInt8) (p : List St) (k : Nat) (w : World) (hs : s.length ≤ 1000000) (hr : readP s = (p, k, 0)) :
  Calls Tryz.prog 26 #[.string ⟨s.toArray⟩] w fun e w' => ∃ (A : Option Addr) (c : Nat), e = .returned (.slice A p.length c) ∧ Sps w' (.slice A p.length c) p ∧ Below w.heap.size w w' := by
 have HR := Lib.hid (refReadP_any ⟨s.toArray⟩ w hs)
 simp only [hr] at HR
 go_enter Tryz.func26, Tryz.ntmps26
 go_wp2_with fail
 refine HR.out.mono ?_
 rintro e w1 ⟨A, n, c, rfl, hp, hb⟩
 obtain ⟨A', c', hv, -⟩ := id hp
 injection hv with e1 e2 e3
 subst e1 e2 e3
 have HP := Lib.hid hp
 have HB := Lib.hid hb
 clear hp hb
 go_wp2_with fail
 exact bodyPost_ret (v := .slice A p.length c) (by simp [results, Tryz.results26, go_sem]) rfl ⟨A, c, rfl, HP.out, HB.out⟩
def rnF (nm : List UInt8) (t : Tr Tm) : Tr Tm := .mk { t.nd with name := nm } t.ks
theorem clrF_rn (t : Tr Tm) : clrF t = rnF [] t := rfl
theorem cmp_flat (c : Nd) (hk : c.kind < 5) : ∀ z : Tr Nd, cmpT (flatT z) (.mk c []) = cmpT z (.mk c [])
 | .mk x xs => by
  show cmpT (.mk { x with many := 0 } []) (.mk c []) = _
  rw [cmpT_mk, cmpT_mk]
  by_cases h : x.kind = c.kind
  ·have h5 : ¬ x.kind = 5 := by omega
   have h6 : ¬ x.kind = 6 := by omega
   simp only [h5, h6, if_false]
  ·have h1 : Lib.compareInt x.kind c.kind ≠ 0 := by unfold Lib.compareInt; (repeat' split) <;> omega
   simp only [orI, h1, if_false]
theorem cnd_ok (n : Int) (c : Nd) (z : Tr Nd) (hk : c.kind < 5) : cndR n c (ofO (some z)) = (soP n (cmpT z (.mk c [])), 0) := by
 show (soP n (cmpT (flatT z) (.mk c [])), (0 : Int)) = _
 rw [cmp_flat c hk]
theorem refHolds10_cmp (t : Tm) (p : List St) (k : Nat) (h16 : t.op = 16) (hr : readP t.s = (p, k, 0)) (hps : ∀ x ∈ p, rightS x = true) (hsl : t.s.length ≤ 1000000) (hcv : Val (.mk t.c [])) (hck : t.c.kind < 5) (hn0 : 0 ≤ t.n) (hn5 : t.n ≤ 5)
  (fv v : Value) (u : Tr Nd) (w : World) (hf : Tms w fv [t]) (hv : Nds w v (flat u)) (hl : (flat u).length ≤ 60000) (hu : Val u) :
  Calls Tryz.prog 10 #[fv, v] w fun e w' => e = .returned (.tuple #[.bool (cndR t.n t.c (ofO (alongE p u))).1, .int .i64 (cndR t.n t.c (ofO (alongE p u))).2]) ∧ Below w.heap.size w w' := by
 obtain ⟨g, o, c, rfl, hc, hcm, hg, hx⟩ := hf.opened (by simp)
 obtain ⟨a0, a1, a2, a3, a4, a5, a6, a7, a8, a9, a10⟩ := (hx 0 t rfl).tm
 rw [Nat.zero_mul, Nat.add_zero] at a0 a1 a2 a3 a4 a5 a6 a7 a8 a9 a10
 have HV := Lib.hid hv
 obtain ⟨VA, vc, rfl, -⟩ := hv
 have HPA := Lib.hid (fun W => refPath10_any t.s p k W hsl hr)
 have HFO := Lib.hid (fun (pv : Value) (W : World) (hW : Below w.heap.size w W) (hp : Sps W pv p) => refFollow10_any p pv _ u W hp (HV.out.below hW) hl hu hps)
 have HSA := Lib.hid (fun told W => refSays10_any t.n told W hn0 hn5)
 have HCM : Hid (∀ z, alongE p u = some z → RefQ z (.mk t.c [])) := Lib.hid fun z hz => refCmpV_any (by have := along_len p hz; omega) (by rw [flat_mk]; simp) (along_val p hu hz) hcv
 rw [h16] at a0
 have HCK := Lib.hid hck
 clear hx hf hr hps hcv hck
 generalize hm : (flat u).length = m at *
 obtain ⟨CR, hcr⟩ : ∃ CR, CR = cndR t.n t.c (ofO (alongE p u)) := ⟨_, rfl⟩
 rw [← hcr]
 have HC0 := Lib.hid hcr
 clear hcr
 go_enter Tryz.func10, Tryz.ntmps10
 have HTC : Hid (∀ W, Below (w.heap.size + 1) (w.alloc (.cells #[.int .i64 16, .int .i64 t.many, .string ⟨t.name.toArray⟩, .string ⟨t.s.toArray⟩, .int .i64 t.n, .int .i64 t.c.kind, .int .i64 t.c.many, .string ⟨t.c.name.toArray⟩, .string ⟨t.c.s.toArray⟩, .bool t.c.neg, .int .i64 t.c.e] 32)) W → W.cell? ⟨w.heap.size, 0, none⟩ = some (.int .i64 16) ∧ W.cell? ⟨w.heap.size, 1, none⟩ = some (.int .i64 t.many) ∧ W.cell? ⟨w.heap.size, 2, none⟩ = some (.string ⟨t.name.toArray⟩) ∧ W.cell? ⟨w.heap.size, 3, none⟩ = some (.string ⟨t.s.toArray⟩) ∧ W.cell? ⟨w.heap.size, 4, none⟩ = some (.int .i64 t.n) ∧ W.cell? ⟨w.heap.size, 5, none⟩ = some (.int .i64 t.c.kind) ∧ W.cell? ⟨w.heap.size, 6, none⟩ = some (.int .i64 t.c.many) ∧ W.cell? ⟨w.heap.size, 7, none⟩ = some (.string ⟨t.c.name.toArray⟩) ∧ W.cell? ⟨w.heap.size, 8, none⟩ = some (.string ⟨t.c.s.toArray⟩) ∧ W.cell? ⟨w.heap.size, 9, none⟩ = some (.bool t.c.neg) ∧ W.cell? ⟨w.heap.size, 10, none⟩ = some (.int .i64 t.c.e)) := Lib.hid fun W hW => by
  have h := (hW.block w.heap.size (Nat.lt_succ_self _)).trans (heap_alloc_new w (.cells #[.int .i64 16, .int .i64 t.many, .string ⟨t.name.toArray⟩, .string ⟨t.s.toArray⟩, .int .i64 t.n, .int .i64 t.c.kind, .int .i64 t.c.many, .string ⟨t.c.name.toArray⟩, .string ⟨t.c.s.toArray⟩, .bool t.c.neg, .int .i64 t.c.e] 32))
  refine ⟨?_, ?_, ?_, ?_, ?_, ?_, ?_, ?_, ?_, ?_, ?_⟩ <;> (rw [Lib.cell_of_heap h]; rfl)
 have hA0 : Below w.heap.size w (w.alloc (.cells #[.int .i64 16, .int .i64 t.many, .string ⟨t.name.toArray⟩, .string ⟨t.s.toArray⟩, .int .i64 t.n, .int .i64 t.c.kind, .int .i64 t.c.many, .string ⟨t.c.name.toArray⟩, .string ⟨t.c.s.toArray⟩, .bool t.c.neg, .int .i64 t.c.e] 32)) := (Below.refl _ _).alloc (Nat.le_refl _) _
 have hs0 : (w.alloc (.cells #[.int .i64 16, .int .i64 t.many, .string ⟨t.name.toArray⟩, .string ⟨t.s.toArray⟩, .int .i64 t.n, .int .i64 t.c.kind, .int .i64 t.c.many, .string ⟨t.c.name.toArray⟩, .string ⟨t.c.s.toArray⟩, .bool t.c.neg, .int .i64 t.c.e] 32)).heap.size = w.heap.size + 1 := by simp
 go_wp2_with fail
 generalize w.alloc _ = W0 at hA0 HTC hs0 ⊢
 refine (HPA.out W0).mono ?_
 rintro e W1 ⟨A, pc, rfl, hp1, hb1⟩
 have HB1 := Lib.hid (Below.after hA0 hb1)
 rw [hs0] at hb1
 have HT1 := Lib.hid hb1
 have HP1 := Lib.hid hp1
 obtain ⟨t0, t1, t2, t3, t4, t5, t6, t7, t8, t9, t10⟩ := HTC.out W1 hb1
 clear hb1 hp1 a0 a1 a2 a3 a4 a5 a6 a7 a8 a9 a10 hA0
 cases hal : alongE p u with
 | none =>
  rw [hal] at HFO HC0
  have HR : Hid (CR = (false, 5)) := Lib.hid HC0.out
  clear HC0
  go_wp2_with fail
  refine (HFO.out _ W1 HB1.out HP1.out).mono ?_
  rintro e W2 ⟨rfl, hb2⟩
  have HB2 := Lib.hid (Below.after HB1.out hb2)
  clear hb2
  go_wp2_with fail
  exact bodyPost_ret (v := .tuple #[.bool false, .int .i64 5]) (by simp [results, Tryz.results10, go_sem]) rfl ⟨by rw [HR.out], HB2.out⟩
 | some z =>
  have HCZ := Lib.hid (HCM.out z hal)
  rw [hal] at HFO HC0
  have HR : Hid (CR = (soP t.n (cmpT z (.mk t.c [])), 0)) := Lib.hid (HC0.out.trans (cnd_ok _ _ z HCK.out))
  clear HCM hal HC0
  go_wp2_with fail
  refine (HFO.out _ W1 HB1.out HP1.out).mono ?_
  rintro e W2 h2
  obtain ⟨A2, c2, rfl, hz2, hb2⟩ := OutV.yes h2
  have HB2 := Lib.hid (Below.after HB1.out hb2)
  have HT2 := Lib.hid (HT1.out.trans (hb2.mono (Nat.le_trans (by omega) HT1.out.size)))
  have HZ2 := Lib.hid hz2
  clear h2 hb2 hz2 t0 t1 t2 t3 t4 t5 t6 t7 t8 t9 t10
  obtain ⟨t0, t1, t2, t3, t4, t5, t6, t7, t8, t9, t10⟩ := HTC.out W2 HT2.out
  go_wp2_with fail
  have hsz2 : w.heap.size + 1 ≤ W2.heap.size := Nat.le_trans (by omega) HT2.out.size
  have HROW : Hid (∀ W : World, Nds (W.alloc (.cells #[.int .i64 t.c.kind, .int .i64 t.c.many, .string ⟨t.c.name.toArray⟩, .string ⟨t.c.s.toArray⟩, .bool t.c.neg, .int .i64 t.c.e] 30)) (.slice (some ⟨W.heap.size, 0, none⟩) 1 1) (flat (.mk t.c []))) := Lib.hid (fun W => by
   rw [flat_mk, flats_nil]
   exact Row.lit ndc_len W 30 _ [t.c] (by show 1 ≤ maxLen; decide) rfl)
  clear t0 t1 t2 t3 t4 t5 t6 t7 t8 t9 t10
  refine wp_region_held_drew (S := fun w' => Below W2.heap.size W2 w') (by kernel_rfl) ((Below.refl _ _).drew) (fun hH => ?_)
  generalize W2.drew = Wd at hH ⊢
  refine rtk 0 (.pointer (some ⟨w.heap.size, 4, none⟩)) ?_ ?_
  ·intro w' hSw; go_simp; try decide
  try simp only [ls1, ls0]
  refine rtk 1 (.int .i64 t.n) ?_ ?_
  ·intro w' hSw; obtain ⟨t0, t1, t2, t3, t4, t5, t6, t7, t8, t9, t10⟩ := HTC.out w' (HT2.out.trans (hSw.mono (Nat.le_trans (by omega) HT2.out.size))); go_simp; try decide
  try simp only [ls1, ls0]
  refine rtk 2 (.slice A2 (flat z).length c2) ?_ ?_
  ·intro w' hSw; go_simp; try decide
  try simp only [ls1, ls0]
  refine rtk 3 (.pointer (some ⟨w.heap.size, 5, none⟩)) ?_ ?_
  ·intro w' hSw; go_simp; try decide
  try simp only [ls1, ls0]
  refine rtk 4 (nda t.c) ?_ ?_
  ·intro w' hSw; obtain ⟨t0, t1, t2, t3, t4, t5, t6, t7, t8, t9, t10⟩ := HTC.out w' (HT2.out.trans (hSw.mono (Nat.le_trans (by omega) HT2.out.size))); go_simp; try decide
  try simp only [ls1, ls0]
  refine wpAnyH_ready (rs := [5]) (by kernel_rfl) (by simp) ?_
  refine AllReadyH.cons rfl (fun K5 hK5 => ?_) AllReadyH.nil
  go_simp
  have ha4 := (Below.refl Wd.heap.size Wd).alloc (Nat.le_refl _) (.cells #[.int .i64 t.c.kind, .int .i64 t.c.many, .string ⟨t.c.name.toArray⟩, .string ⟨t.c.s.toArray⟩, .bool t.c.neg, .int .i64 t.c.e] 30)
  have hr4 := HROW.out Wd
  refine hK5.out _ _ (hH.trans (ha4.mono hH.size)) (fun hH4 => ?_)
  clear hK5 K5
  generalize Wd.alloc (.cells #[.int .i64 t.c.kind, .int .i64 t.c.many, .string ⟨t.c.name.toArray⟩, .string ⟨t.c.s.toArray⟩, .bool t.c.neg, .int .i64 t.c.e] 30) = W4 at hH4 hr4 ha4 ⊢
  try simp only [ls1, ls0]
  refine wpAnyH_ready (rs := [6]) (by kernel_rfl) (by simp) ?_
  refine AllReadyH.cons rfl (fun K6 hK6 => ?_) AllReadyH.nil
  go_simp
  go_at_call 28
  refine (HCZ.out _ _ W4 (Row.below HZ2.out hH4) hr4).mono ?_
  rintro e w5 ⟨rfl, hb5⟩
  go_wp2_with fail
  refine hK6.out _ _ (hH4.trans (hb5.mono hH4.size)) (fun hH5 => ?_)
  clear hK6 K6
  try simp only [ls1, ls0]
  refine wpAnyH_ready (rs := [7]) (by kernel_rfl) (by simp) ?_
  refine AllReadyH.cons rfl (fun K7 hK7 => ?_) AllReadyH.nil
  go_simp
  go_at_call 27
  refine (HSA.out _ _).mono ?_
  rintro e w6 ⟨rfl, rfl⟩
  go_wp2_with fail
  refine hK7.out _ _ hH5 (fun hH6 => ?_)
  clear hK7 K7
  try simp only [ls1, ls0]
  refine rtk 8 (.bool (soP t.n (cmpT z (.mk t.c [])))) ?_ ?_
  ·intro w' hSw; go_simp; try decide
  try simp only [ls1, ls0]
  refine rtk 9 (.int .i64 0) ?_ ?_
  ·intro w' hSw; go_simp; try decide
  try simp only [ls1, ls0]
  refine wpAnyH_done (by kernel_rfl) ?_ _
  have HB6 := Lib.hid (Below.after HB2.out hH6)
  go_wp2_with fail
  exact bodyPost_ret (v := .tuple #[.bool (soP t.n (cmpT z (.mk t.c []))), .int .i64 0]) (by simp [results, Tryz.results10, go_sem]) rfl ⟨by rw [HR.out], HB6.out⟩
end
end Go.Proofs.YtldioobbfkaebaaGreatDoor
