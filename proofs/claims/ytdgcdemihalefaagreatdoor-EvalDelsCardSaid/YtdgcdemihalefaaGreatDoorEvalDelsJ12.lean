/-
  Joined: EvG.
-/
import Derived.Test.YtdgcdemihalefaaGreatDoorEvalDelsJ11

/-
  Whether a comparison holds: the reader's condition; Holds.
-/
namespace Go.Proofs.YtdgcdemihalefaaGreatDoor
open Go.RowKit Go.Shelf Np Rw Vp Pw Fw Ev Ov

set_option maxRecDepth 100000 in
set_option maxHeartbeats 2000000 in
theorem evCond_cmp (rb : Nat) (t : Tm) (p : List St) (k : Nat) (w : World) (h : Rdr w rb t) (h1 : t.op = 16) (hr : readP t.s = (p, k, 0)) (hp : ∀ x ∈ p, rightS x = true) (hs : t.s.length ≤ 1000000) (hc : Val (.mk t.c [])) (hrT : ∀ W, Below rb w W → Pv W)
    (hok : ∀ t, Val t → (flat t).length ≤ 60000 → ∀ u, ofO (alongE p t) = .ok u → Val (flatT u)) :
    Calls Tryz.prog 77 #[.pointer (some ⟨rb, 0, none⟩)] w fun e w' => ∃ K cap, e = .returned (.func (.func K) #[] cap) ∧ GivesC 60000 w' (.func (.func K) #[] cap) (fun u => cndR t.n t.c (ofO (alongE p u))) ∧ Below rb w w' := by
  have HTK := Lib.hid (evTake_any rb t w h)
  have hl := h.l
  have HBP := Lib.hid (fun (W : World) (hW : Below rb w W) => byPath_along t.s p k W hr hp hs (hrT W hW))
  have HCP := Lib.hid (fun (W : World) (give : Value) (hG : Gives 60000 W give fun t => ofO (alongE p t)) => compared_any 60000 give t.n t.c (fun t => ofO (alongE p t)) W hG hok (fun y e he => by
    cases hy : alongE p y with
    | none => rw [hy] at he; injection he with he; subst he; decide
    | some z => rw [hy] at he; cases he) hc)
  clear h hs hp hr hc hrT hok
  obtain ⟨op, many, name, s, n, c⟩ := t
  simp only at *
  subst h1
  go_enter Tryz.func77, Tryz.ntmps77
  go_wp2_with fail
  refine HTK.out.mono ?_
  rintro e w1 ⟨rfl, hb1⟩
  have HB1 := Lib.hid hb1
  have hl1 : rb < w1.heap.size := Nat.lt_of_lt_of_le hl hb1.size
  clear hb1 HTK
  obtain ⟨W0, hW0⟩ : ∃ W0, W0 = w1.alloc (.cells #[.int .i64 16, .int .i64 many, .string ⟨name.toArray⟩, .string ⟨s.toArray⟩, .int .i64 n, .int .i64 c.kind, .int .i64 c.many, .string ⟨c.name.toArray⟩, .string ⟨c.s.toArray⟩, .bool c.neg, .int .i64 c.e] 47) := ⟨_, rfl⟩
  have HB0 : Hid (Below rb w W0) := Lib.hid (by rw [hW0]; exact HB1.out.alloc (by omega) _)
  have hlt : w1.heap.size < W0.heap.size := by rw [hW0]; simp
  have HTM : Tm11 W0 w1.heap.size 0 ⟨16, many, name, s, n, c⟩ := by
    have h := heap_alloc_new w1 (.cells #[.int .i64 16, .int .i64 many, .string ⟨name.toArray⟩, .string ⟨s.toArray⟩, .int .i64 n, .int .i64 c.kind, .int .i64 c.many, .string ⟨c.name.toArray⟩, .string ⟨c.s.toArray⟩, .bool c.neg, .int .i64 c.e] 47)
    rw [← hW0] at h
    constructor <;> (rw [Lib.cell_of_heap h]; rfl)
  have HCL : Hid (∀ W, Below W0.heap.size W0 W → W.cell? ⟨w1.heap.size, 3, none⟩ = some (.string ⟨s.toArray⟩) ∧ W.cell? ⟨w1.heap.size, 4, none⟩ = some (.int .i64 n) ∧ W.cell? ⟨w1.heap.size, 5, none⟩ = some (.int .i64 c.kind) ∧ W.cell? ⟨w1.heap.size, 6, none⟩ = some (.int .i64 c.many) ∧ W.cell? ⟨w1.heap.size, 7, none⟩ = some (.string ⟨c.name.toArray⟩) ∧ W.cell? ⟨w1.heap.size, 8, none⟩ = some (.string ⟨c.s.toArray⟩) ∧ W.cell? ⟨w1.heap.size, 9, none⟩ = some (.bool c.neg) ∧ W.cell? ⟨w1.heap.size, 10, none⟩ = some (.int .i64 c.e)) := Lib.hid (fun W hW => by
    obtain ⟨-, -, -, z3, z4, z5, z6, z7, z8, z9, z10⟩ := HTM.below hlt hW
    simp only [Nat.zero_add] at z3 z4 z5 z6 z7 z8 z9 z10
    exact ⟨z3, z4, z5, z6, z7, z8, z9, z10⟩)
  clear HTM
  go_wp2_with fail
  rw [← hW0]
  clear hW0
  refine wp_region_held_drew (S := fun w' => Below W0.heap.size W0 w') (by kernel_rfl) ((Below.refl _ _).drew) (fun hH => ?_)
  generalize W0.drew = Wd at hH ⊢
  refine rtk 0 (.pointer (some ⟨w1.heap.size, 3, none⟩)) ?_ ?_
  · intro w' hSw; go_simp
  try simp only [List.set_cons_succ, List.set_cons_zero]
  refine rtk 1 (.string ⟨s.toArray⟩) ?_ ?_
  · intro w' hSw; obtain ⟨x3, x4, x5, x6, x7, x8, x9, x10⟩ := HCL.out w' hSw; go_simp
  try simp only [List.set_cons_succ, List.set_cons_zero]
  refine rtk 3 (.pointer (some ⟨w1.heap.size, 4, none⟩)) ?_ ?_
  · intro w' hSw; go_simp
  try simp only [List.set_cons_succ, List.set_cons_zero]
  refine rtk 4 (.int .i64 n) ?_ ?_
  · intro w' hSw; obtain ⟨x3, x4, x5, x6, x7, x8, x9, x10⟩ := HCL.out w' hSw; go_simp
  try simp only [List.set_cons_succ, List.set_cons_zero]
  refine rtk 5 (.pointer (some ⟨w1.heap.size, 5, none⟩)) ?_ ?_
  · intro w' hSw; go_simp
  try simp only [List.set_cons_succ, List.set_cons_zero]
  refine rtk 6 (nda c) ?_ ?_
  · intro w' hSw; obtain ⟨x3, x4, x5, x6, x7, x8, x9, x10⟩ := HCL.out w' hSw; go_simp
  try simp only [List.set_cons_succ, List.set_cons_zero]
  refine wpAnyH_ready (rs := [2]) (by kernel_rfl) (by simp) ?_
  refine AllReadyH.cons rfl (fun K2 hK2 => ?_) AllReadyH.nil
  go_simp
  go_at_call 116
  refine (HBP.out Wd (HB0.out.trans (hH.mono (by omega)))).mono ?_
  rintro e w2 ⟨K, cap, rfl, hg2, hb2⟩
  have HG2 := Lib.hid hg2
  clear hg2
  go_wp2_with fail
  refine hK2.out _ _ (hH.trans (hb2.mono hH.size)) (fun hH2 => ?_)
  clear hK2 K2
  try simp only [List.set_cons_succ, List.set_cons_zero]
  refine wpAnyH_ready (rs := [7]) (by kernel_rfl) (by simp) ?_
  refine AllReadyH.cons rfl (fun K7 hK7 => ?_) AllReadyH.nil
  go_simp
  go_at_call 121
  refine (HCP.out w2 _ HG2.out).mono ?_
  rintro e w3 ⟨K3, cap3, rfl, hg3, hb3⟩
  have HG3 := Lib.hid hg3
  clear hg3
  go_wp2_with fail
  refine hK7.out _ _ (hH2.trans (hb3.mono hH2.size)) (fun hH7 => ?_)
  clear hK7 K7
  try simp only [List.set_cons_succ, List.set_cons_zero]
  refine rtk 8 (.func (.func K3) #[] cap3) ?_ ?_
  · intro w' hSw; go_simp
  try simp only [List.set_cons_succ, List.set_cons_zero]
  refine wpAnyH_done (by kernel_rfl) ?_ _
  go_wp2_with fail
  go_ret
  exact ⟨K3, cap3, rfl, HG3.out, HB0.out.trans (hH7.mono (by omega))⟩
set_option maxRecDepth 100000 in
set_option maxHeartbeats 2000000 in
theorem evHolds_cmp (fv v : Value) (t : Tm) (p : List St) (k : Nat) (u : Tr Nd) (w : World) (hf : ∃ g o : Nat, g < w.heap.size ∧ fv = .slice (some ⟨g, o, none⟩) 1 1 ∧ Tm11 w g o t) (h1 : t.op = 16) (hr : readP t.s = (p, k, 0)) (hp : ∀ x ∈ p, rightS x = true) (hs : t.s.length ≤ 1000000) (hc : Val (.mk t.c []))
    (hv : Nds w v (flat u)) (hu : Val u) (hl : (flat u).length ≤ 60000) (hT : Pv w) (hok : ∀ t, Val t → (flat t).length ≤ 60000 → ∀ u, ofO (alongE p t) = .ok u → Val (flatT u)) :
    Calls Tryz.prog 46 #[fv, v] w fun e w' => e = .returned (.tuple #[.bool (cndR t.n t.c (ofO (alongE p u))).1, .int .i64 (cndR t.n t.c (ofO (alongE p u))).2]) ∧ Below w.heap.size w w' := by
  obtain ⟨g, o, hg, rfl, ht⟩ := hf
  have HB0 : Hid (Below w.heap.size w (w.alloc (.cells #[.slice (some ⟨g, o, none⟩) 1 1] 117))) := Lib.hid ((Below.refl _ w).alloc (Nat.le_refl _) _)
  have HFI := Lib.hid (evCond_cmp w.heap.size t p k (w.alloc (.cells #[.slice (some ⟨g, o, none⟩) 1 1] 117)) ⟨⟨g, o, by simp; omega, by simp [World.cell?_alloc_new], ht.below hg HB0.out⟩, by simp [World.frozen?_alloc_new], by simp⟩ h1 hr hp hs hc (fun W hW => hT.below (HB0.out.trans hW)) hok)
  have HG := Lib.hid (fun (W : World) (hW : Below w.heap.size w W) => evGrow_any u v W hu.ok (hv.below hW) (by omega))
  have HU := Lib.hid hu
  obtain ⟨A2, c2, rfl, -⟩ := hv
  clear hu ht hp hr hs hc hT hok
  generalize hRR : cndR t.n t.c (ofO (alongE p u)) = RR at *
  have HRR := Lib.hid hRR
  clear hRR
  go_enter Tryz.func46, Tryz.ntmps46
  go_wp2_with fail
  refine HFI.out.mono ?_
  rintro e w1 ⟨K, cap, rfl, hg1, hb1⟩
  have HB1 : Hid (Below w.heap.size w w1) := Lib.hid (HB0.out.trans hb1)
  obtain ⟨K', cap', hv', eK, hC⟩ := hg1
  injection hv' with e1 _ e3
  injection e1 with e1
  subst e1 e3
  have HC := Lib.hid hC
  clear hC hb1 HFI
  go_wp2_with fail
  refine (HG.out w1 HB1.out).mono ?_
  rintro e w2 ⟨gu, rfl, htu, hb2⟩
  have HB2 := Lib.hid (Below.after HB1.out hb2)
  have HCL := Lib.hid (HC.out w2 _ u _ hb2 htu HU.out hl)
  rw [HRR.out] at HCL
  clear htu hb2 HC
  go_wp2_with fail
  refine HCL.out.mono ?_
  rintro e w3 ⟨rfl, hb3⟩
  go_wp2_with fail
  go_ret2
  exact ⟨rfl, Below.after HB2.out hb3⟩
end Go.Proofs.YtdgcdemihalefaaGreatDoor
