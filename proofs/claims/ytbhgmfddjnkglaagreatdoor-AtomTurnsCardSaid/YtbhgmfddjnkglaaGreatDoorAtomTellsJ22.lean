/-
  Joined: AtW3.
-/
import Derived.Test.YtbhgmfddjnkglaaGreatDoorAtomTellsJ5
import Derived.Test.YtbhgmfddjnkglaaGreatDoorAtomTellsJ13
import Derived.Test.YtbhgmfddjnkglaaGreatDoorAtomTellsJ21
import Derived.Test.YtbhgmfddjnkglaaGreatDoorAtomTellsJ8

/-
  Which atoms are right, and whether they hold: the program's and the document's.
-/
namespace Go.Proofs.YtbhgmfddjnkglaaGreatDoor
open Go.RowKit Np Rw Vp Ov Ap

/-- What each way to compare lets be told, as the package lays it. -/
structure Lts (w : World) : Prop where
  c0 : w.cell? ⟨0, 0, none⟩ = some (.int .i64 2)
  c1 : w.cell? ⟨0, 1, none⟩ = some (.int .i64 5)
  c2 : w.cell? ⟨0, 2, none⟩ = some (.int .i64 1)
  c3 : w.cell? ⟨0, 3, none⟩ = some (.int .i64 3)
  c4 : w.cell? ⟨0, 4, none⟩ = some (.int .i64 4)
  c5 : w.cell? ⟨0, 5, none⟩ = some (.int .i64 6)
theorem Lts.below {w w' : World} (h : Lts w) (hb : Below w.heap.size w w') : Lts w' := by
  have hlt := World.block_lt_of_cell? _ _ h.c0
  exact ⟨(hb.cell (p := ⟨0, 0, none⟩) hlt).trans h.c0, (hb.cell (p := ⟨0, 1, none⟩) hlt).trans h.c1, (hb.cell (p := ⟨0, 2, none⟩) hlt).trans h.c2, (hb.cell (p := ⟨0, 3, none⟩) hlt).trans h.c3, (hb.cell (p := ⟨0, 4, none⟩) hlt).trans h.c4, (hb.cell (p := ⟨0, 5, none⟩) hlt).trans h.c5⟩

/-- An atom in memory, and a node behind it. -/
structure Holds2 (b : Nat) (a : Atm) (n : Nd) (w : World) : Prop where
  a7 : At7 w b 0 a
  n6 : Nd6 w (b + 1) 0 n
theorem Holds2.below {b : Nat} {a : Atm} {n : Nd} {w w' : World} (h : Holds2 b a n w) (hb : Below w.heap.size w w') : Holds2 b a n w' :=
  ⟨h.a7.below (World.block_lt_of_cell? _ _ h.a7.c0) hb, h.n6.below (World.block_lt_of_cell? _ _ h.n6.c0) hb⟩
theorem Holds2.new (w : World) (a : Atm) (n : Nd) : Holds2 w.heap.size a n ((w.alloc (.cells (atc a).toArray 27)).alloc (.cells (nds n) 24)) := by
  refine ⟨(hN7 w a).below (by simp) ((Below.refl _ _).alloc (Nat.le_refl _) _), ?_⟩
  constructor <;> simp
theorem Holds2.cells {b : Nat} {a : Atm} {n : Nd} {w : World} (h : Holds2 b a n w) : w.cell? ⟨b, 0, none⟩ = some (.int .i64 a.n) ∧ (w.cell? ⟨b, 1, none⟩ = some (.int .i64 a.c.kind) ∧ w.cell? ⟨b, 2, none⟩ = some (.int .i64 a.c.many) ∧ w.cell? ⟨b, 3, none⟩ = some (.string ⟨a.c.name.toArray⟩) ∧ w.cell? ⟨b, 4, none⟩ = some (.string ⟨a.c.s.toArray⟩) ∧ w.cell? ⟨b, 5, none⟩ = some (.bool a.c.neg) ∧ w.cell? ⟨b, 6, none⟩ = some (.int .i64 a.c.e)) ∧ (w.cell? ⟨b + 1, 0, none⟩ = some (.int .i64 n.kind) ∧ w.cell? ⟨b + 1, 1, none⟩ = some (.int .i64 n.many) ∧ w.cell? ⟨b + 1, 2, none⟩ = some (.string ⟨n.name.toArray⟩) ∧ w.cell? ⟨b + 1, 3, none⟩ = some (.string ⟨n.s.toArray⟩) ∧ w.cell? ⟨b + 1, 4, none⟩ = some (.bool n.neg) ∧ w.cell? ⟨b + 1, 5, none⟩ = some (.int .i64 n.e)) := by
  obtain ⟨⟨c0, c1, c2, c3, c4, c5, c6⟩, d0, d1, d2, d3, d4, d5⟩ := h
  simp only [Nat.zero_add] at c1 c2 c3 c4 c5 c6 d1 d2 d3 d4 d5
  exact ⟨c0, ⟨c1, c2, c3, c4, c5, c6⟩, d0, d1, d2, d3, d4, d5⟩
/-- What a table's number, moved so far, tells. -/
def Shr (L R : Int) (say : Bool) : Prop := ∃ V : Int, (∀ w', Sem.run Tryz.prog (Op.shift BinOp.shr IntKind.i64 L IntKind.i64 (R + 1)) w' = Result.ok (.int .i64 V) w') ∧ (bits BinOp.and IntKind.i64 V 1 == 1) = say
theorem lets_say {h : Int} (hh : h = 0 ∨ h = 1 ∨ h = 2 ∨ h = 3 ∨ h = 4 ∨ h = 5) : ∃ L : Int, (∀ w, Lts w → w.cell? ⟨0, h.toNat, none⟩ = some (.int .i64 L)) ∧ ∀ R : Int, R = -1 ∨ R = 0 ∨ R = 1 → Shr L R (sayP h R) := by
  rcases hh with rfl | rfl | rfl | rfl | rfl | rfl
  · refine ⟨2, fun w hw => hw.c0, fun R hR => ?_⟩
    rcases hR with rfl | rfl | rfl
    · exact ⟨2, fun _ => rfl, by decide⟩
    · exact ⟨1, fun _ => rfl, by decide⟩
    · exact ⟨0, fun _ => rfl, by decide⟩
  · refine ⟨5, fun w hw => hw.c1, fun R hR => ?_⟩
    rcases hR with rfl | rfl | rfl
    · exact ⟨5, fun _ => rfl, by decide⟩
    · exact ⟨2, fun _ => rfl, by decide⟩
    · exact ⟨1, fun _ => rfl, by decide⟩
  · refine ⟨1, fun w hw => hw.c2, fun R hR => ?_⟩
    rcases hR with rfl | rfl | rfl
    · exact ⟨1, fun _ => rfl, by decide⟩
    · exact ⟨0, fun _ => rfl, by decide⟩
    · exact ⟨0, fun _ => rfl, by decide⟩
  · refine ⟨3, fun w hw => hw.c3, fun R hR => ?_⟩
    rcases hR with rfl | rfl | rfl
    · exact ⟨3, fun _ => rfl, by decide⟩
    · exact ⟨1, fun _ => rfl, by decide⟩
    · exact ⟨0, fun _ => rfl, by decide⟩
  · refine ⟨4, fun w hw => hw.c4, fun R hR => ?_⟩
    rcases hR with rfl | rfl | rfl
    · exact ⟨4, fun _ => rfl, by decide⟩
    · exact ⟨2, fun _ => rfl, by decide⟩
    · exact ⟨1, fun _ => rfl, by decide⟩
  · refine ⟨6, fun w hw => hw.c5, fun R hR => ?_⟩
    rcases hR with rfl | rfl | rfl
    · exact ⟨6, fun _ => rfl, by decide⟩
    · exact ⟨3, fun _ => rfl, by decide⟩
    · exact ⟨1, fun _ => rfl, by decide⟩
set_option maxRecDepth 100000 in
set_option maxHeartbeats 1000000 in
theorem compareA_any (a b : Nd) (w : World) (ha : Val (leaf a)) (hb : Val (leaf b)) : Calls Tryz.prog 21 #[nda a, nda b] w fun e w' => e = .returned (.int .i64 (cmpT (leaf a) (leaf b))) ∧ Below w.heap.size w w' := by
  have HC : Hid (∀ W B C, W.heap.size = B → B + 1 = C → Calls Tryz.prog 33 #[.slice (some ⟨B, 0, none⟩) 1 1, .slice (some ⟨C, 0, none⟩) 1 1] ((W.alloc (.cells (nds a) 24)).alloc (.cells (nds b) 24)) fun e w' => e = .returned (.int .i64 (cmpT (leaf a) (leaf b))) ∧ Below W.heap.size W w') := Lib.hid fun W B C hB hC => by
    subst hB hC
    have h1 : Below W.heap.size W (W.alloc (.cells (nds a) 24)) := (Below.refl _ _).alloc (Nat.le_refl _) _
    have h2 := h1.alloc (by simp) (.cells (nds b) 24)
    have r1 := (one_row a W).below ((Below.refl _ _).alloc (Nat.le_refl _) (.cells (nds b) 24))
    have r2 := one_row b (W.alloc (.cells (nds a) 24))
    rw [World.size_alloc] at r2
    refine (ordCmp_any _ _ (leaf a) (leaf b) _ (by rw [flat_leaf]; exact r1) (by rw [flat_leaf]; exact r2) ha hb (flat_leaf_len a) (flat_leaf_len b)).mono ?_
    rintro e w' ⟨rfl, hb⟩
    exact ⟨rfl, h2.trans (hb.mono h2.size)⟩
  have hB0 : Below w.heap.size w ((w.alloc (.cells (nds a) 24)).alloc (.cells (nds b) 24)) := ((Below.refl _ _).alloc (Nat.le_refl _) _).alloc (by simp) _
  clear ha hb
  generalize cmpT (leaf a) (leaf b) = R at *
  go_enter Tryz.func21, Tryz.ntmps21
  go_wp2_with fail
  refine (HC.out _ _ _ (by simp) rfl).mono ?_
  rintro e w1 ⟨rfl, hb1⟩
  have HB1 := Lib.hid (hB0.trans (hb1.mono hB0.size))
  clear hb1 hB0 HC
  go_wp2_with fail
  go_ret
  exact ⟨rfl, HB1.out⟩
set_option maxRecDepth 100000 in
set_option maxHeartbeats 1000000 in
theorem refHoldsA_any (a : Atm) (n : Nd) (w : World) (ha : Val (leaf a.c)) (hn : Val (leaf n)) : Calls Tryz.prog 11 #[ata a, nda n] w fun e w' => e = .returned (.bool (holdsA n a)) ∧ Below w.heap.size w w' := by
  have HC : Hid (∀ W va vb, Nds W va [n] → Nds W vb [a.c] → Calls Tryz.prog 23 #[va, vb] W fun e w' => e = .returned (.int .i64 (cmpT (leaf n) (leaf a.c))) ∧ Below W.heap.size W w') := Lib.hid fun W va vb r1 r2 =>
    refCmpV_any (by rw [flat_leaf]; simp) (by rw [flat_leaf]; simp) hn ha _ _ _ (by rw [flat_leaf]; exact r1) (by rw [flat_leaf]; exact r2)
  have HO1 : Hid (∀ W : World, Nds (W.alloc (.cells (nds n) 24)) (.slice (some ⟨W.heap.size, 0, none⟩) 1 1) [n]) := Lib.hid fun W => one_row n W
  have HO2 : Hid (∀ W : World, Nds (W.alloc (.cells (nds a.c) 24)) (.slice (some ⟨W.heap.size, 0, none⟩) 1 1) [a.c]) := Lib.hid fun W => one_row a.c W
  have hA : Holds2 w.heap.size a n ((w.alloc (.cells (atc a).toArray 27)).alloc (.cells (nds n) 24)) := Holds2.new w a n
  have hB0 : Below w.heap.size w ((w.alloc (.cells (atc a).toArray 27)).alloc (.cells (nds n) 24)) := ((Below.refl _ _).alloc (Nat.le_refl _) _).alloc (by simp) _
  have HV : Hid (holdsA n a = sayP a.n (cmpT (leaf n) (leaf a.c))) := Lib.hid rfl
  clear ha hn
  generalize holdsA n a = Q at *
  generalize cmpT (leaf n) (leaf a.c) = R at *
  obtain ⟨h, k, m, nm, s, g, x⟩ := a
  simp only [atc] at HC HV hB0 hA HO2
  go_enter Tryz.func11, Tryz.ntmps11
  go_wp2_with fail
  generalize ((w.alloc _).alloc _) = W0 at hA hB0 ⊢
  have HX : Hid (∀ w', Below W0.heap.size W0 w' → w'.cell? ⟨w.heap.size, 0, none⟩ = some (.int .i64 h) ∧ (w'.cell? ⟨w.heap.size, 1, none⟩ = some (.int .i64 k) ∧ w'.cell? ⟨w.heap.size, 2, none⟩ = some (.int .i64 m) ∧ w'.cell? ⟨w.heap.size, 3, none⟩ = some (.string ⟨nm.toArray⟩) ∧ w'.cell? ⟨w.heap.size, 4, none⟩ = some (.string ⟨s.toArray⟩) ∧ w'.cell? ⟨w.heap.size, 5, none⟩ = some (.bool g) ∧ w'.cell? ⟨w.heap.size, 6, none⟩ = some (.int .i64 x)) ∧ (w'.cell? ⟨w.heap.size + 1, 0, none⟩ = some (.int .i64 n.kind) ∧ w'.cell? ⟨w.heap.size + 1, 1, none⟩ = some (.int .i64 n.many) ∧ w'.cell? ⟨w.heap.size + 1, 2, none⟩ = some (.string ⟨n.name.toArray⟩) ∧ w'.cell? ⟨w.heap.size + 1, 3, none⟩ = some (.string ⟨n.s.toArray⟩) ∧ w'.cell? ⟨w.heap.size + 1, 4, none⟩ = some (.bool n.neg) ∧ w'.cell? ⟨w.heap.size + 1, 5, none⟩ = some (.int .i64 n.e))) := Lib.hid fun w' hw => (hA.below hw).cells
  have HB0 := Lib.hid hB0
  clear hA hB0
  refine wp_region_held_drew (S := fun w' => Below W0.heap.size W0 w') (by kernel_rfl) ((Below.refl _ _).drew) (fun hH => ?_)
  generalize W0.drew = Wd at hH ⊢
  refine rtk 0 (.pointer (some ⟨w.heap.size, 0, none⟩)) ?_ ?_
  · intro w' hSw; go_simp; try decide
  try simp only [List.set_cons_succ, List.set_cons_zero]
  refine rtk 1 (.int .i64 h) ?_ ?_
  · intro w' hSw; obtain ⟨x0, ⟨x1, x2, x3, x4, x5, x6⟩, n0, n1, n2, n3, n4, n5⟩ := HX.out w' hSw; go_simp; try decide
  try simp only [List.set_cons_succ, List.set_cons_zero]
  refine rtk 2 (nda n) ?_ ?_
  · intro w' hSw; obtain ⟨x0, ⟨x1, x2, x3, x4, x5, x6⟩, n0, n1, n2, n3, n4, n5⟩ := HX.out w' hSw; go_simp; try decide
  try simp only [List.set_cons_succ, List.set_cons_zero]
  refine rtk 4 (.pointer (some ⟨w.heap.size, 1, none⟩)) ?_ ?_
  · intro w' hSw; go_simp; try decide
  try simp only [List.set_cons_succ, List.set_cons_zero]
  refine rtk 5 (nda ⟨k, m, nm, s, g, x⟩) ?_ ?_
  · intro w' hSw; obtain ⟨x0, ⟨x1, x2, x3, x4, x5, x6⟩, n0, n1, n2, n3, n4, n5⟩ := HX.out w' hSw; go_simp; try decide
  try simp only [List.set_cons_succ, List.set_cons_zero]
  refine wpAnyH_ready (rs := [3, 6]) (by kernel_rfl) (by simp) ?_
  refine AllReadyH.cons rfl (fun K3 hK3 => ?_) (AllReadyH.cons rfl (fun K6 hK6 => ?_) AllReadyH.nil)
  · go_simp
    have b1 : Below Wd.heap.size Wd (Wd.alloc (.cells (nds n) 24)) := (Below.refl _ _).alloc (Nat.le_refl _) _
    have q1 := HO1.out Wd
    generalize hz3 : Wd.heap.size = z3 at q1 ⊢
    generalize Wd.alloc _ = W1 at b1 q1 ⊢
    refine hK3.out _ _ (hH.trans (b1.mono hH.size)) (fun hH1 => ?_)
    clear hK3 K3
    try simp only [List.set_cons_succ, List.set_cons_zero]
    refine wpAnyH_ready (rs := [6]) (by kernel_rfl) (by simp) ?_
    refine AllReadyH.cons rfl (fun K4 hK4 => ?_) AllReadyH.nil
    go_simp
    have b2 : Below W1.heap.size W1 (W1.alloc (.cells (nds ⟨k, m, nm, s, g, x⟩) 24)) := (Below.refl _ _).alloc (Nat.le_refl _) _
    have q2 := HO2.out W1
    generalize hz6 : W1.heap.size = z6 at q2 ⊢
    generalize W1.alloc _ = W2 at b2 q2 ⊢
    refine hK4.out _ _ (hH1.trans (b2.mono hH1.size)) (fun hH2 => ?_)
    clear hK4 K4
    try simp only [List.set_cons_succ, List.set_cons_zero]
    refine wpAnyH_ready (rs := [7]) (by kernel_rfl) (by simp) ?_
    refine AllReadyH.cons rfl (fun K7 hK7 => ?_) AllReadyH.nil
    go_simp
    go_at_call 23
    refine (HC.out _ _ _ (q1.below b2) q2).mono ?_
    rintro e w5 ⟨rfl, hb5⟩
    go_wp2_with fail
    refine hK7.out _ _ (hH2.trans (hb5.mono hH2.size)) (fun hH7 => ?_)
    clear hK7 K7
    try simp only [List.set_cons_succ, List.set_cons_zero]
    refine wpAnyH_ready (rs := [8]) (by kernel_rfl) (by simp) ?_
    refine AllReadyH.cons rfl (fun K8 hK8 => ?_) AllReadyH.nil
    go_simp
    go_at_call 22
    refine (says_any h _ _).mono ?_
    rintro e w6 ⟨rfl, rfl⟩
    go_wp2_with fail
    refine hK8.out _ _ hH7 (fun hH8 => ?_)
    clear hK8 K8
    try simp only [List.set_cons_succ, List.set_cons_zero]
    refine rtk 9 (.bool (sayP h R)) ?_ ?_
    · intro w' hSw; go_simp; try decide
    try simp only [List.set_cons_succ, List.set_cons_zero]
    refine wpAnyH_done (by kernel_rfl) ?_ _
    go_wp2_with fail
    go_ret
    exact ⟨ret_bool HV.out.symm, HB0.out.trans (hH8.mono HB0.out.size)⟩
  · go_simp
    have b1 : Below Wd.heap.size Wd (Wd.alloc (.cells (nds ⟨k, m, nm, s, g, x⟩) 24)) := (Below.refl _ _).alloc (Nat.le_refl _) _
    have q1 := HO2.out Wd
    generalize hz6 : Wd.heap.size = z6 at q1 ⊢
    generalize Wd.alloc _ = W1 at b1 q1 ⊢
    refine hK6.out _ _ (hH.trans (b1.mono hH.size)) (fun hH1 => ?_)
    clear hK6 K6
    try simp only [List.set_cons_succ, List.set_cons_zero]
    refine wpAnyH_ready (rs := [3]) (by kernel_rfl) (by simp) ?_
    refine AllReadyH.cons rfl (fun K4 hK4 => ?_) AllReadyH.nil
    go_simp
    have b2 : Below W1.heap.size W1 (W1.alloc (.cells (nds n) 24)) := (Below.refl _ _).alloc (Nat.le_refl _) _
    have q2 := HO1.out W1
    generalize hz3 : W1.heap.size = z3 at q2 ⊢
    generalize W1.alloc _ = W2 at b2 q2 ⊢
    refine hK4.out _ _ (hH1.trans (b2.mono hH1.size)) (fun hH2 => ?_)
    clear hK4 K4
    try simp only [List.set_cons_succ, List.set_cons_zero]
    refine wpAnyH_ready (rs := [7]) (by kernel_rfl) (by simp) ?_
    refine AllReadyH.cons rfl (fun K7 hK7 => ?_) AllReadyH.nil
    go_simp
    go_at_call 23
    refine (HC.out _ _ _ q2 (q1.below b2)).mono ?_
    rintro e w5 ⟨rfl, hb5⟩
    go_wp2_with fail
    refine hK7.out _ _ (hH2.trans (hb5.mono hH2.size)) (fun hH7 => ?_)
    clear hK7 K7
    try simp only [List.set_cons_succ, List.set_cons_zero]
    refine wpAnyH_ready (rs := [8]) (by kernel_rfl) (by simp) ?_
    refine AllReadyH.cons rfl (fun K8 hK8 => ?_) AllReadyH.nil
    go_simp
    go_at_call 22
    refine (says_any h _ _).mono ?_
    rintro e w6 ⟨rfl, rfl⟩
    go_wp2_with fail
    refine hK8.out _ _ hH7 (fun hH8 => ?_)
    clear hK8 K8
    try simp only [List.set_cons_succ, List.set_cons_zero]
    refine rtk 9 (.bool (sayP h R)) ?_ ?_
    · intro w' hSw; go_simp; try decide
    try simp only [List.set_cons_succ, List.set_cons_zero]
    refine wpAnyH_done (by kernel_rfl) ?_ _
    go_wp2_with fail
    go_ret
    exact ⟨ret_bool HV.out.symm, HB0.out.trans (hH8.mono HB0.out.size)⟩
set_option maxRecDepth 100000 in
set_option maxHeartbeats 1000000 in
theorem holdsA_any (a : Atm) (n : Nd) (w : World) (ha : rightA a = true) (hn : Val (leaf n)) (hL : Lts w) : Calls Tryz.prog 10 #[ata a, nda n] w fun e w' => e = .returned (.bool (holdsA n a)) ∧ Below w.heap.size w w' := by
  have HC : Hid (∀ W, Calls Tryz.prog 21 #[nda n, nda a.c] W fun e w' => e = .returned (.int .i64 (cmpT (leaf n) (leaf a.c))) ∧ Below W.heap.size W w') := Lib.hid fun W => compareA_any n a.c W hn (pln_val (rightA_pln ha))
  have HW : Hid (∀ W, Calls Tryz.prog 17 #[.int .i64 a.n] W fun e w' => e = .returned (.bool true) ∧ Below W.heap.size W w') := Lib.hid fun W => by
    have := isWay_any a.n W
    rwa [rightA_way ha] at this
  have HWY := Lib.hid (way_cases (rightA_way ha))
  have hA : Holds2 w.heap.size a n ((w.alloc (.cells (atc a).toArray 27)).alloc (.cells (nds n) 24)) := Holds2.new w a n
  have hB0 : Below w.heap.size w ((w.alloc (.cells (atc a).toArray 27)).alloc (.cells (nds n) 24)) := ((Below.refl _ _).alloc (Nat.le_refl _) _).alloc (by simp) _
  have HV : Hid (holdsA n a = sayP a.n (cmpT (leaf n) (leaf a.c))) := Lib.hid rfl
  have HRG := Lib.hid (cmpT_range (leaf n) (leaf a.c))
  clear ha hn
  generalize holdsA n a = Q at *
  generalize cmpT (leaf n) (leaf a.c) = R at *
  obtain ⟨h, k, m, nm, s, g, x⟩ := a
  simp only [atc] at HC HV HW HWY hB0 hA
  obtain ⟨L, hLv, hLs⟩ := lets_say HWY.out
  have HLL : Hid (∀ W, Below w.heap.size w W → W.cell? ⟨0, h.toNat, none⟩ = some (.int .i64 L)) := Lib.hid fun W hW => hLv W (hL.below hW)
  obtain ⟨V, hV1, hV2⟩ := hLs R HRG.out
  have HV1 := Lib.hid hV1
  have HV2 := Lib.hid hV2
  clear hV1 hV2
  have h0 : 0 ≤ h := by have := HWY.out; omega
  have h5 : h < 6 := by have := HWY.out; omega
  clear hL hLv hLs
  go_enter Tryz.func10, Tryz.ntmps10
  go_wp2_with fail
  generalize ((w.alloc _).alloc _) = W0 at hA hB0 ⊢
  have HX : Hid (∀ w', Below W0.heap.size W0 w' → w'.cell? ⟨w.heap.size, 0, none⟩ = some (.int .i64 h) ∧ (w'.cell? ⟨w.heap.size, 1, none⟩ = some (.int .i64 k) ∧ w'.cell? ⟨w.heap.size, 2, none⟩ = some (.int .i64 m) ∧ w'.cell? ⟨w.heap.size, 3, none⟩ = some (.string ⟨nm.toArray⟩) ∧ w'.cell? ⟨w.heap.size, 4, none⟩ = some (.string ⟨s.toArray⟩) ∧ w'.cell? ⟨w.heap.size, 5, none⟩ = some (.bool g) ∧ w'.cell? ⟨w.heap.size, 6, none⟩ = some (.int .i64 x)) ∧ (w'.cell? ⟨w.heap.size + 1, 0, none⟩ = some (.int .i64 n.kind) ∧ w'.cell? ⟨w.heap.size + 1, 1, none⟩ = some (.int .i64 n.many) ∧ w'.cell? ⟨w.heap.size + 1, 2, none⟩ = some (.string ⟨n.name.toArray⟩) ∧ w'.cell? ⟨w.heap.size + 1, 3, none⟩ = some (.string ⟨n.s.toArray⟩) ∧ w'.cell? ⟨w.heap.size + 1, 4, none⟩ = some (.bool n.neg) ∧ w'.cell? ⟨w.heap.size + 1, 5, none⟩ = some (.int .i64 n.e))) := Lib.hid fun w' hw => (hA.below hw).cells
  have HB0 := Lib.hid hB0
  clear hA hB0
  refine wp_region_held_drew (S := fun w' => Below W0.heap.size W0 w') (by kernel_rfl) ((Below.refl _ _).drew) (fun hH => ?_)
  generalize W0.drew = Wd at hH ⊢
  refine rtk 0 (.pointer (some ⟨w.heap.size, 0, none⟩)) ?_ ?_
  · intro w' hSw; go_simp; try decide
  try simp only [List.set_cons_succ, List.set_cons_zero]
  refine rtk 1 (.int .i64 h) ?_ ?_
  · intro w' hSw; obtain ⟨x0, ⟨x1, x2, x3, x4, x5, x6⟩, n0, n1, n2, n3, n4, n5⟩ := HX.out w' hSw; go_simp; try decide
  try simp only [List.set_cons_succ, List.set_cons_zero]
  refine wpAnyH_ready (rs := [2]) (by kernel_rfl) (by simp) ?_
  refine AllReadyH.cons rfl (fun K2 hK2 => ?_) AllReadyH.nil
  go_simp
  go_at_call 17
  refine (HW.out _).mono ?_
  rintro e w1 ⟨rfl, hb1⟩
  go_wp2_with fail
  refine hK2.out _ _ (hH.trans (hb1.mono hH.size)) (fun hH1 => ?_)
  clear hK2 K2 hH hb1
  try simp only [List.set_cons_succ, List.set_cons_zero]
  refine rtk 3 (.bool true) ?_ ?_
  · intro w' hSw; go_simp; try decide
  try simp only [List.set_cons_succ, List.set_cons_zero]
  refine rtk 4 (.pointer (some ⟨w.heap.size, 0, none⟩)) ?_ ?_
  · intro w' hSw; go_simp; try decide
  try simp only [List.set_cons_succ, List.set_cons_zero]
  refine rtk 5 (.int .i64 h) ?_ ?_
  · intro w' hSw; obtain ⟨x0, ⟨x1, x2, x3, x4, x5, x6⟩, n0, n1, n2, n3, n4, n5⟩ := HX.out w' hSw; go_simp; try decide
  try simp only [List.set_cons_succ, List.set_cons_zero]
  refine rtk 6 (.pointer (some ⟨0, h.toNat, none⟩)) ?_ ?_
  · intro w' hSw; go_simp; try decide
  try simp only [List.set_cons_succ, List.set_cons_zero]
  refine rtk 7 (.int .i64 L) ?_ ?_
  · intro w' hSw; have hel := HLL.out w' (HB0.out.trans (hSw.mono HB0.out.size)); go_simp; try decide
  try simp only [List.set_cons_succ, List.set_cons_zero]
  refine rtk 8 (nda n) ?_ ?_
  · intro w' hSw; obtain ⟨x0, ⟨x1, x2, x3, x4, x5, x6⟩, n0, n1, n2, n3, n4, n5⟩ := HX.out w' hSw; go_simp; try decide
  try simp only [List.set_cons_succ, List.set_cons_zero]
  refine rtk 9 (.pointer (some ⟨w.heap.size, 1, none⟩)) ?_ ?_
  · intro w' hSw; go_simp; try decide
  try simp only [List.set_cons_succ, List.set_cons_zero]
  refine rtk 10 (nda ⟨k, m, nm, s, g, x⟩) ?_ ?_
  · intro w' hSw; obtain ⟨x0, ⟨x1, x2, x3, x4, x5, x6⟩, n0, n1, n2, n3, n4, n5⟩ := HX.out w' hSw; go_simp; try decide
  try simp only [List.set_cons_succ, List.set_cons_zero]
  refine wpAnyH_ready (rs := [11]) (by kernel_rfl) (by simp) ?_
  refine AllReadyH.cons rfl (fun K11 hK11 => ?_) AllReadyH.nil
  go_simp
  go_at_call 21
  refine (HC.out _).mono ?_
  rintro e w2 ⟨rfl, hb2⟩
  go_wp2_with fail
  refine hK11.out _ _ (hH1.trans (hb2.mono hH1.size)) (fun hH2 => ?_)
  clear hK11 K11 hH1 hb2
  try simp only [List.set_cons_succ, List.set_cons_zero]
  have hw1 : IntKind.i64.wrap (R + 1) = R + 1 := by have := HRG.out; rw [IntKind.wrap_i64]; omega
  refine rtk 12 (.int .i64 (R + 1)) ?_ ?_
  · intro w' hSw; go_simp; try decide
  try simp only [List.set_cons_succ, List.set_cons_zero]
  refine rtk 13 (.int .i64 V) ?_ ?_
  · intro w' hSw
    have hv := HV1.out w'
    go_simp
  try simp only [List.set_cons_succ, List.set_cons_zero]
  generalize hU : bits BinOp.and IntKind.i64 V 1 = U at HV2
  refine rtk 14 (.int .i64 U) ?_ ?_
  · intro w' hSw
    go_simp
  try simp only [List.set_cons_succ, List.set_cons_zero]
  clear hU
  refine rtk 15 (.bool (U == 1)) ?_ ?_
  · intro w' hSw
    go_simp
  try simp only [List.set_cons_succ, List.set_cons_zero]
  refine rtk 16 (.bool (U == 1)) ?_ ?_
  · intro w' hSw
    go_simp
  try simp only [List.set_cons_succ, List.set_cons_zero]
  refine rtk 17 (.bool (U == 1)) ?_ ?_
  · intro w' hSw
    go_simp
  try simp only [List.set_cons_succ, List.set_cons_zero]
  refine wpAnyH_done (by kernel_rfl) ?_ _
  go_wp2_with fail
  go_ret
  exact ⟨ret_bool (HV2.out.trans HV.out.symm), HB0.out.trans (hH2.mono HB0.out.size)⟩
end Go.Proofs.YtbhgmfddjnkglaaGreatDoor
