/-
  Joined: AtL8.
-/
import Derived.Test.YtbhgmfddjnkglaaGreatDoorAtomTellsJ31

/-
  What the live question of atoms' laws answers: true.
-/
namespace Go.Proofs.YtbhgmfddjnkglaaGreatDoor
open Go.RowKit Np Rw Vp Ov Ap

theorem least_one : leastP 8 [⟨4, oneN⟩] = (upN, true) := by decide +kernel
theorem least_two : leastP 8 [⟨4, oneN⟩, ⟨2, oneN⟩] = (kindN 0, false) := by decide +kernel
theorem one_holds : holdsA oneN ⟨0, oneN⟩ = true := by decide +kernel
theorem one_memb : memb 8 [] oneN = true := by decide +kernel
theorem one_rightA : rightA ⟨0, oneN⟩ = true := by decide +kernel
theorem ways_one : Ways [⟨4, oneN⟩] := ⟨by intro a ha; simp at ha; subst ha; simp, by simp⟩
theorem ways_two : Ways [⟨4, oneN⟩, ⟨2, oneN⟩] := ⟨by intro a ha; simp at ha; rcases ha with rfl | rfl <;> simp, by simp⟩
theorem right_one4 : rightA ⟨4, oneN⟩ = true := by decide +kernel
theorem right_one2 : rightA ⟨2, oneN⟩ = true := by decide +kernel
theorem two_right (a : Atm) (ha : a ∈ [(⟨4, oneN⟩ : Atm), ⟨2, oneN⟩]) : rightA a = true := by
  simp only [List.mem_cons, List.not_mem_nil, or_false] at ha
  rcases ha with rfl | rfl
  · exact right_one4
  · exact right_one2
theorem one_ndh : NdH oneN := ⟨by decide, by decide, by decide⟩
theorem ats_two (W : World) (n : Nat) (hn : W.heap.size = n) (E : TypeId) (a b : Atm) : Ats (W.alloc (.cells #[.int .i64 a.n, .int .i64 a.c.kind, .int .i64 a.c.many, .string ⟨a.c.name.toArray⟩, .string ⟨a.c.s.toArray⟩, .bool a.c.neg, .int .i64 a.c.e, .int .i64 b.n, .int .i64 b.c.kind, .int .i64 b.c.many, .string ⟨b.c.name.toArray⟩, .string ⟨b.c.s.toArray⟩, .bool b.c.neg, .int .i64 b.c.e] E)) (.slice (some ⟨n, 0, none⟩) 2 2) [a, b] := by
  subst hn
  exact Row.lit atc_len W E _ [a, b] (by unfold maxLen; simp) rfl
structure Av (w : World) : Prop where
  tabs : Tabs w
  lts : Lts w
theorem Av.below {w w' : World} (h : Av w) (hb : Below w.heap.size w w') : Av w' := ⟨h.tabs.below hb, h.lts.below hb⟩

set_option maxRecDepth 100000 in
set_option maxHeartbeats 4000000 in
theorem aalive_any (w : World) (hV : Av w) : Calls Tryz.prog 5 #[] w fun e w' => e = .returned (.bool true) ∧ Below w.heap.size w w' := by
  have HV := Lib.hid hV
  have HL1 : Hid (∀ W, Below w.heap.size w W → ∀ lv, Ats W lv [⟨4, oneN⟩] → Calls Tryz.prog 16 #[.int .i64 8, lv] W fun e w' => e = .returned (.tuple #[.agg #[.int .i64 3, .int .i64 0, .string ⟨#[]⟩, .string ⟨upF.toArray⟩, .bool false, .int .i64 (-99)], .bool true]) ∧ Below W.heap.size W w') := Lib.hid fun W hW lv hl => by
    have h := hV.below hW
    have := least_any 8 lv [⟨4, oneN⟩] W hl (by intro a ha; simp at ha; subst ha; rfl) ways_one (by intro a ha; simp at ha; subst ha; exact right_one4) (by simp) h.tabs h.lts (by omega)
    rw [least_one] at this; exact this
  have HL2 : Hid (∀ W, Below w.heap.size w W → ∀ lv, Ats W lv [⟨4, oneN⟩, ⟨2, oneN⟩] → Calls Tryz.prog 16 #[.int .i64 8, lv] W fun e w' => e = .returned (.tuple #[.agg #[.int .i64 0, .int .i64 0, .string ⟨#[]⟩, .string ⟨#[]⟩, .bool false, .int .i64 0], .bool false]) ∧ Below W.heap.size W w') := Lib.hid fun W hW lv hl => by
    have h := hV.below hW
    have := least_any 8 lv [⟨4, oneN⟩, ⟨2, oneN⟩] W hl (by intro a ha; simp at ha; rcases ha with rfl | rfl <;> rfl) ways_two (fun a ha => two_right a ha) (by simp) h.tabs h.lts (by omega)
    rw [least_two] at this; exact this
  have HHO : Hid (∀ W, Below w.heap.size w W → Calls Tryz.prog 10 #[ata ⟨0, oneN⟩, nda oneN] W fun e w' => e = .returned (.bool true) ∧ Below W.heap.size W w') := Lib.hid fun W hW => by
    have := holdsA_any ⟨0, oneN⟩ oneN W one_rightA (pln_val oneN_pln) (hV.below hW).lts
    rwa [one_holds] at this
  have HME : Hid (∀ W, Below w.heap.size w W → Calls Tryz.prog 14 #[.int .i64 8, .slice none 0 0, nda oneN] W fun e w' => e = .returned (.bool true) ∧ Below W.heap.size W w') := Lib.hid fun W hW => by
    have := memberA_any 8 (.slice none 0 0) [] oneN W (Row.nil _) (by simp) one_ndh (hV.below hW).tabs (hV.below hW).lts (by omega)
    rwa [one_memb] at this
  have HRI : Hid (∀ W, Below w.heap.size w W → Calls Tryz.prog 6 #[ata ⟨0, oneN⟩] W fun e w' => e = .returned (.bool true) ∧ Below W.heap.size W w') := Lib.hid fun W hW => by
    have := rightA_any ⟨0, oneN⟩ W one_ndh (hV.below hW).tabs
    rwa [one_rightA] at this
  have HUP : Hid (∀ W, Calls Tryz.prog 15 #[.agg #[.int .i64 3, .int .i64 0, .string ⟨#[]⟩, .string ⟨#[49]⟩, .bool false, .int .i64 0], .bool true] W fun e w' => e = .returned (.tuple #[.agg #[.int .i64 3, .int .i64 0, .string ⟨#[]⟩, .string ⟨upF.toArray⟩, .bool false, .int .i64 (-99)], .bool true]) ∧ Below W.heap.size W w') := Lib.hid fun W => beside_up W
  have ul : (⟨upF.toArray⟩ : ByteArray).size = 100 := by decide +kernel
  have ul2 : upF.length = 100 := by decide +kernel
  clear hV
  unfold oneN at *
  go_enter Tryz.func5, Tryz.ntmps5
  go_wp2_with fail
  refine (HUP.out _).mono ?_
  rintro e W1 ⟨rfl, hb1⟩
  have hO1 := (hb1.block w.heap.size (by simp)).trans (heap_alloc_new w _)
  have a0 : W1.cell? ⟨w.heap.size, 0, none⟩ = some (.int .i64 3) := by rw [Lib.cell_of_heap hO1]; rfl
  have a1 : W1.cell? ⟨w.heap.size, 1, none⟩ = some (.int .i64 0) := by rw [Lib.cell_of_heap hO1]; rfl
  have a2 : W1.cell? ⟨w.heap.size, 2, none⟩ = some (.string ⟨#[]⟩) := by rw [Lib.cell_of_heap hO1]; rfl
  have a3 : W1.cell? ⟨w.heap.size, 3, none⟩ = some (.string ⟨#[49]⟩) := by rw [Lib.cell_of_heap hO1]; rfl
  have a4 : W1.cell? ⟨w.heap.size, 4, none⟩ = some (.bool false) := by rw [Lib.cell_of_heap hO1]; rfl
  have a5 : W1.cell? ⟨w.heap.size, 5, none⟩ = some (.int .i64 0) := by rw [Lib.cell_of_heap hO1]; rfl
  have hB1 : Below w.heap.size w W1 := (((Below.refl _ _).alloc (Nat.le_refl _) _)).trans (hb1.mono (by simp))
  have hl1 : w.heap.size < W1.heap.size := by have := hb1.size; simp at this; omega
  have hn1 : w.heap.size ≠ W1.heap.size := by omega
  go_wp2_with fail
  have hA1 : Below W1.heap.size W1 ((W1.alloc (.cells #[.int .i64 3, .int .i64 0, .string ⟨#[]⟩, .string ⟨upF.toArray⟩, .bool false, .int .i64 (-99)] 24)).alloc (.cells #[.int .i64 4, .int .i64 3, .int .i64 0, .string ⟨#[]⟩, .string ⟨#[49]⟩, .bool false, .int .i64 0] 27)) := ((Below.refl _ _).alloc (Nat.le_refl _) _).alloc (by simp) _
  have hX1 : ((W1.alloc (.cells #[.int .i64 3, .int .i64 0, .string ⟨#[]⟩, .string ⟨upF.toArray⟩, .bool false, .int .i64 (-99)] 24)).alloc (.cells #[.int .i64 4, .int .i64 3, .int .i64 0, .string ⟨#[]⟩, .string ⟨#[49]⟩, .bool false, .int .i64 0] 27)).heap[W1.heap.size]? = some (.cells #[.int .i64 3, .int .i64 0, .string ⟨#[]⟩, .string ⟨upF.toArray⟩, .bool false, .int .i64 (-99)] 24) := (Below.heap_alloc _ _ _ (by simp)).trans (heap_alloc_new W1 _)
  have hr1 : Ats ((W1.alloc (.cells #[.int .i64 3, .int .i64 0, .string ⟨#[]⟩, .string ⟨upF.toArray⟩, .bool false, .int .i64 (-99)] 24)).alloc (.cells #[.int .i64 4, .int .i64 3, .int .i64 0, .string ⟨#[]⟩, .string ⟨#[49]⟩, .bool false, .int .i64 0] 27)) (.slice (some ⟨W1.heap.size + 1, 0, none⟩) 1 1) [⟨4, ⟨3, 0, [], [49], false, 0⟩⟩] := row_one atc_len (W1.alloc (.cells #[.int .i64 3, .int .i64 0, .string ⟨#[]⟩, .string ⟨upF.toArray⟩, .bool false, .int .i64 (-99)] 24)) _ (by simp) _ _ ⟨4, ⟨3, 0, [], [49], false, 0⟩⟩ rfl
  have hs1 : ((W1.alloc (.cells #[.int .i64 3, .int .i64 0, .string ⟨#[]⟩, .string ⟨upF.toArray⟩, .bool false, .int .i64 (-99)] 24)).alloc (.cells #[.int .i64 4, .int .i64 3, .int .i64 0, .string ⟨#[]⟩, .string ⟨#[49]⟩, .bool false, .int .i64 0] 27)).heap.size = W1.heap.size + 2 := by simp
  generalize ((W1.alloc (.cells #[.int .i64 3, .int .i64 0, .string ⟨#[]⟩, .string ⟨upF.toArray⟩, .bool false, .int .i64 (-99)] 24)).alloc (.cells #[.int .i64 4, .int .i64 3, .int .i64 0, .string ⟨#[]⟩, .string ⟨#[49]⟩, .bool false, .int .i64 0] 27)) = WA at hA1 hX1 hr1 hs1 ⊢
  refine (HL1.out _ (hB1.trans (hA1.mono (Nat.le_of_lt hl1))) _ hr1).mono ?_
  rintro e W2 ⟨rfl, hb2⟩
  have hB2 : Below w.heap.size w W2 := (hB1.trans (hA1.mono (Nat.le_of_lt hl1))).trans (hb2.mono (by omega))
  have hO2 := (hb2.block w.heap.size (by omega)).trans ((hA1.block w.heap.size hl1).trans hO1)
  have hX2 := (hb2.block W1.heap.size (by omega)).trans hX1
  have hl2 : W1.heap.size + 2 ≤ W2.heap.size := by have := hb2.size; omega
  have hn2 : w.heap.size ≠ W2.heap.size := by omega
  have hn22 : w.heap.size ≠ W2.heap.size + 1 := by omega
  have hl22 : w.heap.size < W2.heap.size := by omega
  clear a0 a1 a2 a3 a4 a5 hO1 hX1 hr1 hs1 hA1 hb2 hb1 hB1
  have c0 : W2.cell? ⟨w.heap.size, 0, none⟩ = some (.int .i64 3) := by rw [Lib.cell_of_heap hO2]; rfl
  have c1 : W2.cell? ⟨w.heap.size, 1, none⟩ = some (.int .i64 0) := by rw [Lib.cell_of_heap hO2]; rfl
  have c2 : W2.cell? ⟨w.heap.size, 2, none⟩ = some (.string ⟨#[]⟩) := by rw [Lib.cell_of_heap hO2]; rfl
  have c3 : W2.cell? ⟨w.heap.size, 3, none⟩ = some (.string ⟨#[49]⟩) := by rw [Lib.cell_of_heap hO2]; rfl
  have c4 : W2.cell? ⟨w.heap.size, 4, none⟩ = some (.bool false) := by rw [Lib.cell_of_heap hO2]; rfl
  have c5 : W2.cell? ⟨w.heap.size, 5, none⟩ = some (.int .i64 0) := by rw [Lib.cell_of_heap hO2]; rfl
  go_wp2_with fail
  have hA1 : Below W2.heap.size W2 ((W2.alloc (.cells #[.int .i64 3, .int .i64 0, .string ⟨#[]⟩, .string ⟨upF.toArray⟩, .bool false, .int .i64 (-99)] 24)).alloc (.cells #[.int .i64 4, .int .i64 3, .int .i64 0, .string ⟨#[]⟩, .string ⟨#[49]⟩, .bool false, .int .i64 0, .int .i64 2, .int .i64 3, .int .i64 0, .string ⟨#[]⟩, .string ⟨#[49]⟩, .bool false, .int .i64 0] 27)) := ((Below.refl _ _).alloc (Nat.le_refl _) _).alloc (by simp) _
  have hY1 : ((W2.alloc (.cells #[.int .i64 3, .int .i64 0, .string ⟨#[]⟩, .string ⟨upF.toArray⟩, .bool false, .int .i64 (-99)] 24)).alloc (.cells #[.int .i64 4, .int .i64 3, .int .i64 0, .string ⟨#[]⟩, .string ⟨#[49]⟩, .bool false, .int .i64 0, .int .i64 2, .int .i64 3, .int .i64 0, .string ⟨#[]⟩, .string ⟨#[49]⟩, .bool false, .int .i64 0] 27)).heap[W2.heap.size]? = some (.cells #[.int .i64 3, .int .i64 0, .string ⟨#[]⟩, .string ⟨upF.toArray⟩, .bool false, .int .i64 (-99)] 24) := (Below.heap_alloc _ _ _ (by simp)).trans (heap_alloc_new W2 _)
  have hr1 : Ats ((W2.alloc (.cells #[.int .i64 3, .int .i64 0, .string ⟨#[]⟩, .string ⟨upF.toArray⟩, .bool false, .int .i64 (-99)] 24)).alloc (.cells #[.int .i64 4, .int .i64 3, .int .i64 0, .string ⟨#[]⟩, .string ⟨#[49]⟩, .bool false, .int .i64 0, .int .i64 2, .int .i64 3, .int .i64 0, .string ⟨#[]⟩, .string ⟨#[49]⟩, .bool false, .int .i64 0] 27)) (.slice (some ⟨W2.heap.size + 1, 0, none⟩) 2 2) [⟨4, ⟨3, 0, [], [49], false, 0⟩⟩, ⟨2, ⟨3, 0, [], [49], false, 0⟩⟩] := ats_two (W2.alloc (.cells #[.int .i64 3, .int .i64 0, .string ⟨#[]⟩, .string ⟨upF.toArray⟩, .bool false, .int .i64 (-99)] 24)) _ (by simp) _ ⟨4, ⟨3, 0, [], [49], false, 0⟩⟩ ⟨2, ⟨3, 0, [], [49], false, 0⟩⟩
  have hs1 : ((W2.alloc (.cells #[.int .i64 3, .int .i64 0, .string ⟨#[]⟩, .string ⟨upF.toArray⟩, .bool false, .int .i64 (-99)] 24)).alloc (.cells #[.int .i64 4, .int .i64 3, .int .i64 0, .string ⟨#[]⟩, .string ⟨#[49]⟩, .bool false, .int .i64 0, .int .i64 2, .int .i64 3, .int .i64 0, .string ⟨#[]⟩, .string ⟨#[49]⟩, .bool false, .int .i64 0] 27)).heap.size = W2.heap.size + 2 := by simp
  generalize ((W2.alloc (.cells #[.int .i64 3, .int .i64 0, .string ⟨#[]⟩, .string ⟨upF.toArray⟩, .bool false, .int .i64 (-99)] 24)).alloc (.cells #[.int .i64 4, .int .i64 3, .int .i64 0, .string ⟨#[]⟩, .string ⟨#[49]⟩, .bool false, .int .i64 0, .int .i64 2, .int .i64 3, .int .i64 0, .string ⟨#[]⟩, .string ⟨#[49]⟩, .bool false, .int .i64 0] 27)) = WA at hA1 hY1 hr1 hs1 ⊢
  refine (HL2.out _ (hB2.trans (hA1.mono (Nat.le_of_lt hl22))) _ hr1).mono ?_
  rintro e W3 ⟨rfl, hb3⟩
  have hB3 := Lib.hid ((hB2.trans (hA1.mono (Nat.le_of_lt hl22))).trans (hb3.mono (by omega)))
  have hO3 := (hb3.block w.heap.size (by omega)).trans ((hA1.block w.heap.size hl22).trans hO2)
  have hX3 := (hb3.block W1.heap.size (by omega)).trans ((hA1.block W1.heap.size (by omega)).trans hX2)
  have hY3 := (hb3.block W2.heap.size (by omega)).trans hY1
  have hl3 : W2.heap.size + 2 ≤ W3.heap.size := by have := hb3.size; omega
  clear c0 c1 c2 c3 c4 c5 hO2 hX2 hY1 hr1 hs1 hA1 hb3 hB2
  have n30 : w.heap.size ≠ W3.heap.size := by omega
  have n31 : W1.heap.size ≠ W3.heap.size := by omega
  have n32 : W2.heap.size ≠ W3.heap.size := by omega
  have l30 : w.heap.size < W3.heap.size := by omega
  have l31 : W1.heap.size < W3.heap.size := by omega
  have l32 : W2.heap.size < W3.heap.size := by omega
  have c0 : W3.cell? ⟨w.heap.size, 0, none⟩ = some (.int .i64 3) := by rw [Lib.cell_of_heap hO3]; rfl
  have c1 : W3.cell? ⟨w.heap.size, 1, none⟩ = some (.int .i64 0) := by rw [Lib.cell_of_heap hO3]; rfl
  have c2 : W3.cell? ⟨w.heap.size, 2, none⟩ = some (.string ⟨#[]⟩) := by rw [Lib.cell_of_heap hO3]; rfl
  have c3 : W3.cell? ⟨w.heap.size, 3, none⟩ = some (.string ⟨#[49]⟩) := by rw [Lib.cell_of_heap hO3]; rfl
  have c4 : W3.cell? ⟨w.heap.size, 4, none⟩ = some (.bool false) := by rw [Lib.cell_of_heap hO3]; rfl
  have c5 : W3.cell? ⟨w.heap.size, 5, none⟩ = some (.int .i64 0) := by rw [Lib.cell_of_heap hO3]; rfl
  have d0 : W3.cell? ⟨W1.heap.size, 0, none⟩ = some (.int .i64 3) := by rw [Lib.cell_of_heap hX3]; rfl
  have d1 : W3.cell? ⟨W1.heap.size, 1, none⟩ = some (.int .i64 0) := by rw [Lib.cell_of_heap hX3]; rfl
  have d2 : W3.cell? ⟨W1.heap.size, 2, none⟩ = some (.string ⟨#[]⟩) := by rw [Lib.cell_of_heap hX3]; rfl
  have d3 : W3.cell? ⟨W1.heap.size, 3, none⟩ = some (.string ⟨upF.toArray⟩) := by rw [Lib.cell_of_heap hX3]; rfl
  have d4 : W3.cell? ⟨W1.heap.size, 4, none⟩ = some (.bool false) := by rw [Lib.cell_of_heap hX3]; rfl
  have d5 : W3.cell? ⟨W1.heap.size, 5, none⟩ = some (.int .i64 (-99)) := by rw [Lib.cell_of_heap hX3]; rfl
  have g0 : W3.cell? ⟨W2.heap.size, 0, none⟩ = some (.int .i64 3) := by rw [Lib.cell_of_heap hY3]; rfl
  have g1 : W3.cell? ⟨W2.heap.size, 1, none⟩ = some (.int .i64 0) := by rw [Lib.cell_of_heap hY3]; rfl
  have g2 : W3.cell? ⟨W2.heap.size, 2, none⟩ = some (.string ⟨#[]⟩) := by rw [Lib.cell_of_heap hY3]; rfl
  have g3 : W3.cell? ⟨W2.heap.size, 3, none⟩ = some (.string ⟨upF.toArray⟩) := by rw [Lib.cell_of_heap hY3]; rfl
  have g4 : W3.cell? ⟨W2.heap.size, 4, none⟩ = some (.bool false) := by rw [Lib.cell_of_heap hY3]; rfl
  have g5 : W3.cell? ⟨W2.heap.size, 5, none⟩ = some (.int .i64 (-99)) := by rw [Lib.cell_of_heap hY3]; rfl
  go_wp2_with fail
  have hA1 : Below W3.heap.size W3 (W3.alloc (.cells #[.int .i64 0, .int .i64 0, .string ⟨#[]⟩, .string ⟨#[]⟩, .bool false, .int .i64 0] 24)) := (Below.refl _ _).alloc (Nat.le_refl _) _
  have hs1 : (W3.alloc (.cells #[.int .i64 0, .int .i64 0, .string ⟨#[]⟩, .string ⟨#[]⟩, .bool false, .int .i64 0] 24)).heap.size = W3.heap.size + 1 := by simp
  generalize (W3.alloc (.cells #[.int .i64 0, .int .i64 0, .string ⟨#[]⟩, .string ⟨#[]⟩, .bool false, .int .i64 0] 24)) = WA at hA1 hs1 ⊢
  have hBA := hB3.out.trans (hA1.mono (Nat.le_of_lt l30))
  refine (HHO.out _ hBA).mono ?_
  rintro e W4 ⟨rfl, hb4⟩
  have hB4 := Lib.hid (hBA.trans (hb4.mono (by omega)))
  have hO4 := (hb4.block w.heap.size (by omega)).trans ((hA1.block w.heap.size l30).trans hO3)
  have l4 : w.heap.size < W4.heap.size := by have := hb4.size; omega
  clear c0 c1 c2 c3 c4 c5 d0 d1 d2 d3 d4 d5 g0 g1 g2 g3 g4 g5 hO3 hX3 hY3 hs1 hA1 hb4 hBA
  have c0 : W4.cell? ⟨w.heap.size, 0, none⟩ = some (.int .i64 3) := by rw [Lib.cell_of_heap hO4]; rfl
  have c1 : W4.cell? ⟨w.heap.size, 1, none⟩ = some (.int .i64 0) := by rw [Lib.cell_of_heap hO4]; rfl
  have c2 : W4.cell? ⟨w.heap.size, 2, none⟩ = some (.string ⟨#[]⟩) := by rw [Lib.cell_of_heap hO4]; rfl
  have c3 : W4.cell? ⟨w.heap.size, 3, none⟩ = some (.string ⟨#[49]⟩) := by rw [Lib.cell_of_heap hO4]; rfl
  have c4 : W4.cell? ⟨w.heap.size, 4, none⟩ = some (.bool false) := by rw [Lib.cell_of_heap hO4]; rfl
  have c5 : W4.cell? ⟨w.heap.size, 5, none⟩ = some (.int .i64 0) := by rw [Lib.cell_of_heap hO4]; rfl
  go_wp2_with fail
  refine (HME.out _ hB4.out).mono ?_
  rintro e W5 ⟨rfl, hb5⟩
  have hB5 := Lib.hid (hB4.out.trans (hb5.mono (by omega)))
  have hO5 := (hb5.block w.heap.size l4).trans hO4
  have l5 : w.heap.size < W5.heap.size := by have := hb5.size; omega
  clear c0 c1 c2 c3 c4 c5 hO4 hb5
  have c0 : W5.cell? ⟨w.heap.size, 0, none⟩ = some (.int .i64 3) := by rw [Lib.cell_of_heap hO5]; rfl
  have c1 : W5.cell? ⟨w.heap.size, 1, none⟩ = some (.int .i64 0) := by rw [Lib.cell_of_heap hO5]; rfl
  have c2 : W5.cell? ⟨w.heap.size, 2, none⟩ = some (.string ⟨#[]⟩) := by rw [Lib.cell_of_heap hO5]; rfl
  have c3 : W5.cell? ⟨w.heap.size, 3, none⟩ = some (.string ⟨#[49]⟩) := by rw [Lib.cell_of_heap hO5]; rfl
  have c4 : W5.cell? ⟨w.heap.size, 4, none⟩ = some (.bool false) := by rw [Lib.cell_of_heap hO5]; rfl
  have c5 : W5.cell? ⟨w.heap.size, 5, none⟩ = some (.int .i64 0) := by rw [Lib.cell_of_heap hO5]; rfl
  go_wp2_with fail
  refine (turn_any 2 W5).mono ?_
  rintro e W6 ⟨rfl, rfl⟩
  have t2 : turn 2 = 5 := by decide
  rw [t2]
  go_wp2_with fail
  refine (HRI.out _ hB5.out).mono ?_
  rintro e W6 ⟨rfl, hb6⟩
  have hB6 := Lib.hid (hB5.out.trans (hb6.mono (by omega)))
  go_wp2_with fail
  refine bodyPost_ret (v := .bool true) ?_ rfl ⟨rfl, hB6.out⟩
  simp [results, Tryz.results5, go_sem]
end Go.Proofs.YtbhgmfddjnkglaaGreatDoor
