/-
  Joined: AtL3, AtL4, AtL5.
-/
import Derived.Test.YtbhgmfddjnkglaaGreatDoorAtomTellsJ26
import Derived.Test.YtbhgmfddjnkglaaGreatDoorAtomTellsJ15
import Derived.RangeFuncNested
import Derived.RangeFuncBound
import Derived.RangeFuncCalls
import Derived.RangeFuncLeaves
import Derived.RangeFuncBox
import Derived.Shelf.Abstract
import Derived.Shelf.RegionOpen
import Derived.OwnWalkIn
import Derived.TacticsInMore
import Derived.LoopNIn
import Derived.LoopIn

/-
  What some atoms say together, that are said in different ways: they themselves.
-/
namespace Go.Proofs.YtbhgmfddjnkglaaGreatDoor
open Go.RowKit Np Rw Vp Ov Ap

theorem G2.cell1 {w : World} {gb : Nat} {v nv : Value} (h : G2 w gb v nv) : w.cell? ⟨gb, 1, none⟩ = some nv := by rw [Lib.cell_of_heap h]; rfl
/-- Atoms that compare which is greater, each in a way of its own. -/
def Ways (l : List Atm) : Prop := (∀ a ∈ l, a.n = 2 ∨ a.n = 3 ∨ a.n = 4 ∨ a.n = 5) ∧ l.Pairwise (fun a b => a.n ≠ b.n)
theorem Ways.fresh {l : List Atm} (h : Ways l) {k : Nat} (hk : k < l.length) : ∀ b ∈ l.take k, b.n ≠ l[k].n := by
  intro b hb
  obtain ⟨i, hi, rfl⟩ := List.getElem_of_mem hb
  rw [List.length_take] at hi
  rw [List.getElem_take]
  exact List.pairwise_iff_getElem.1 h.2 i k (by omega) hk (by omega)

set_option maxRecDepth 100000 in
set_option maxHeartbeats 2000000 in
theorem gistOf_any (lv : Value) (l : List Atm) (w : World) (hl : Ats w lv l) (hlen : l.length ≤ 100) (hw : Ways l) : Calls Tryz.prog 28 #[lv] w fun e w' => ∃ v, e = .returned (.agg #[v, .slice none 0 0]) ∧ Ats w' v l ∧ Below w.heap.size w w' := by
  have HXP : Hid (∀ k a, l[k]? = some a → ∃ g o c, lv = .slice (some ⟨g, o, none⟩) l.length c ∧ g < w.heap.size ∧ At7 w g (o + k * 7) a) := Lib.hid fun k s hs => by
    obtain ⟨g, o, c, hv, -, -, hg, hx⟩ := hl.opened (by have := (List.getElem?_eq_some_iff.1 hs).1; omega)
    exact ⟨g, o, c, hv, hg, (hx k s hs).atm⟩
  have HW := Lib.hid hw
  obtain ⟨P, pc, rfl, -⟩ := hl
  have hB0 : Below w.heap.size w ((w.alloc (.cells #[.slice none 0 0, .slice none 0 0] 53)).alloc (.cells #[.slice none 0 0, .slice none 0 0] 53)) := ((Below.refl _ _).alloc (Nat.le_refl _) _).alloc (by simp) _
  have hG0 : G2 ((w.alloc (.cells #[.slice none 0 0, .slice none 0 0] 53)).alloc (.cells #[.slice none 0 0, .slice none 0 0] 53)) (w.heap.size + 1) (.slice none 0 0) (.slice none 0 0) := by
    have := heap_alloc_new (w.alloc (.cells #[.slice none 0 0, .slice none 0 0] 53)) (.cells #[.slice none 0 0, .slice none 0 0] 53)
    rwa [World.size_alloc] at this
  have hR0 : G2 ((w.alloc (.cells #[.slice none 0 0, .slice none 0 0] 53)).alloc (.cells #[.slice none 0 0, .slice none 0 0] 53)) w.heap.size (.slice none 0 0) (.slice none 0 0) := G2.below (heap_alloc_new w _) ((Below.refl _ _).alloc (Nat.le_refl _) _)
  have hs0 : w.heap.size + 1 + 1 ≤ ((w.alloc (.cells #[.slice none 0 0, .slice none 0 0] 53)).alloc (.cells #[.slice none 0 0, .slice none 0 0] 53)).heap.size := by simp
  clear hw
  generalize hm : l.length = m at *
  have HM := Lib.hid hm
  clear hm
  go_enter Tryz.func28, Tryz.ntmps28
  go_wp2_with fail
  generalize (w.alloc _).alloc _ = W0 at hB0 hG0 hR0 hs0 ⊢
  have HR0 := Lib.hid hR0
  have HG0 := Lib.hid hG0
  have HB0 := Lib.hid hB0
  clear hG0 hB0 hR0
  go_loopw [8] (fun iv wr => ∃ k : Nat, k ≤ m ∧ iv = .int .i64 k ∧ Below w.heap.size w wr ∧ w.heap.size + 1 + 1 ≤ wr.heap.size ∧ G2 wr w.heap.size (.slice none 0 0) (.slice none 0 0) ∧ ∃ v, G2 wr (w.heap.size + 1) v (.slice none 0 0) ∧ Own atc 7 27 (w.heap.size + 1 + 1) wr v (l.take k)) (fun iv _ => m - (intOf iv).toNat)
  case atStart => exact ⟨0, Nat.zero_le _, rfl, HB0.out, hs0, HR0.out, _, HG0.out, by simpa using Own.nil _⟩
  case round =>
    obtain ⟨k, hk, rfl, hbw, hsz, hrr, v, hg, hv⟩ := hrel
    by_cases hlt : k < m
    · have hkp : k < l.length := by rw [HM.out]; exact hlt
      obtain ⟨gp, op, cp, e1, hgp, hs7⟩ := HXP.out k _ (List.getElem?_eq_getElem hkp)
      have hs7' := hs7.below hgp hbw
      injection e1 with e1 e2 e3
      subst e1 e3
      have HTK : Hid (l.take (k + 1) = l.take k ++ [l[k]]) := Lib.hid (List.take_succ_eq_append_getElem hkp)
      have HFR := Lib.hid (HW.out.fresh hkp)
      have HWY := Lib.hid (HW.out.1 _ (List.getElem_mem hkp))
      have hla : (l.take k).length ≤ 100 := by simp; omega
      clear e2 hs7
      generalize l[k] = a at *
      have hAl : Below wr.heap.size wr (wr.alloc (.cells (atc a).toArray 27)) := (Below.refl _ _).alloc (Nat.le_refl _) _
      have HCL := Lib.hid (take_fresh (w.heap.size + 1) (w.heap.size + 1 + 1) a (l.take k) v (.slice none 0 0) _ (hg.below hAl) (hv.below hAl) hla HFR.out (Nat.lt_succ_self _) (by have := hAl.size; omega))
      have HBA := Lib.hid (hbw.trans (hAl.mono hbw.size))
      have HRR := Lib.hid (hrr.below hAl)
      have HSZ : Hid (w.heap.size + 1 + 1 ≤ (wr.alloc (.cells (atc a).toArray 27)).heap.size) := Lib.hid (by have := hAl.size; omega)
      obtain ⟨y0, y1, y2, y3, y4, y5, y6⟩ := hs7'
      obtain ⟨n, kd, mn, nm, s, g, x⟩ := a
      simp only [atc] at HCL HBA HWY HSZ HRR
      clear hAl hg hv hbw HFR hsz hrr
      rcases HWY.out with rfl | rfl | rfl | rfl
      all_goals
        clear HWY
        go_wp2_with fail
        refine HCL.out.mono ?_
        rintro e w2 ⟨⟨u, rfl⟩, v2, hg2, hv2, hb2⟩
        have HN : Hid (∃ v, G2 w2 (w.heap.size + 1) v (.slice none 0 0) ∧ Own atc 7 27 (w.heap.size + 1 + 1) w2 v (l.take (k + 1))) := Lib.hid ⟨v2, hg2, by rw [HTK.out]; exact hv2⟩
        have HB2 := Lib.hid (HBA.out.trans (hb2.mono (Nat.le_succ _)))
        have HS2 : Hid (w.heap.size + 1 + 1 ≤ w2.heap.size) := Lib.hid (Nat.le_trans HSZ.out hb2.size)
        have HR2 : Hid (G2 w2 w.heap.size (.slice none 0 0) (.slice none 0 0)) := Lib.hid ((hb2.block _ (Nat.lt_succ_self _)).trans HRR.out)
        clear hg2 hv2 hb2 HCL HBA HSZ HRR
        go_wp2_with fail
        refine ⟨⟨k + 1, by omega, by go_num, HB2.out, HS2.out, HR2.out, HN.out⟩, ?_⟩
        simp [intOf]; omega
    · have hkm : k = m := by omega
      subst hkm
      have hv' : Own atc 7 27 (w.heap.size + 1 + 1) wr v l := by rwa [List.take_of_length_le (by rw [HM.out]; exact Nat.le_refl _)] at hv
      obtain ⟨A, c, rfl, -, -, -⟩ := hv'.form
      have hc1 := hg.cell1
      have HG := Lib.hid hg
      have HV := Lib.hid hv'
      have HR := Lib.hid hrr
      have HBW := Lib.hid hbw
      clear hv hv' hrr hbw hg
      rw [HM.out] at *
      go_wp2_with fail
      refine (sortNil _ _).mono ?_
      rintro e w2 ⟨⟨u, rfl⟩, hb2⟩
      have hg2 := HG.out.below hb2
      have hr2 := HR.out.below hb2
      have hv2 := HV.out.below hb2
      have hB2 := HBW.out.trans (hb2.mono HBW.out.size)
      have c0 := hg2.cell
      have c1 := hg2.cell1
      have r0 := hr2.cell
      have r1 := hr2.cell1
      have f0 := hr2.frozen
      have f1 : w2.frozen? ⟨w.heap.size, 1, none⟩ = false := by simp [World.frozen?, show w2.heap[w.heap.size]? = _ from hr2]
      have hne : (Value.slice A k c).ownBlock ≠ some w.heap.size := by
        rcases hv2.2 with ⟨e, _⟩ | ⟨g, cap, cur, e, hge, _, _⟩
        · rw [e]; simp [Value.ownBlock]
        · rw [e]; simp [Value.ownBlock]; omega
      have hF1 : Own atc 7 27 (w.heap.size + 1 + 1) (w2.setCell ⟨w.heap.size, 0, none⟩ (.slice A k c)) (.slice A k c) l := ownsRow_setCell_other hv2 hne _
      have hF2 : Own atc 7 27 (w.heap.size + 1 + 1) ((w2.setCell ⟨w.heap.size, 0, none⟩ (.slice A k c)).setCell ⟨w.heap.size, 1, none⟩ (.slice none 0 0)) (.slice A k c) l := ownsRow_setCell_other hF1 hne _
      have HF := Lib.hid (Own.row atc_len hF2)
      have HFB := Lib.hid ((hB2.setCell (p := ⟨w.heap.size, 0, none⟩) (Nat.le_refl _) (.slice A k c)).setCell (p := ⟨w.heap.size, 1, none⟩) (Nat.le_refl _) (.slice none 0 0))
      clear hF1 hF2 hg2 hr2 hv2 hB2 HG HV HR HBW hb2
      go_wp2_with fail
      refine bodyPost_ret (v := .agg #[.slice A k c, .slice none 0 0]) ?_ rfl ⟨_, rfl, HF.out, HFB.out⟩
      simp [results, Tryz.results28, go_sem, r0, r1]
end Go.Proofs.YtbhgmfddjnkglaaGreatDoor

/-
  Whether all of some atoms hold, said together; the iterator's helper that tells a number and those beside it.
-/
namespace Go.Proofs.YtbhgmfddjnkglaaGreatDoor
open Go.RowKit Go.Shelf Np Rw Vp Ov Ap
attribute [local go_sem] Oper.semAt_some

set_option maxRecDepth 100000 in
set_option maxHeartbeats 1000000 in
theorem gistHolds_any (gb : Nat) (v : Value) (l : List Atm) (n : Nd) (w : World) (hg0 : w.cell? ⟨gb, 0, none⟩ = some v) (hg1 : w.cell? ⟨gb, 1, none⟩ = some (.slice none 0 0)) (hv : Ats w v l) (hr : ∀ a ∈ l, rightA a = true) (hn : pln n = true) (hL : Lts w) :
    Calls Tryz.prog 30 #[.pointer (some ⟨gb, 0, none⟩), nda n] w fun e w' => e = .returned (.bool (l.all (holdsA n))) ∧ Below w.heap.size w w' := by
  have hgl := World.block_lt_of_cell? _ _ hg0
  have HA : Hid (∀ W, Below w.heap.size w W → Calls Tryz.prog 25 #[v, nda n] W fun e w' => e = .returned (.bool (l.all (holdsA n))) ∧ Below W.heap.size W w') := Lib.hid fun W hW => allHold_any v l n W (hv.below hW) hr (pln_val hn) (hL.below hW)
  have hN : Nd6 (w.alloc (.cells (nds n) 24)) w.heap.size 0 n := by constructor <;> simp
  have hB0 : Below w.heap.size w (w.alloc (.cells (nds n) 24)) := (Below.refl _ _).alloc (Nat.le_refl _) _
  have hc0 : ∀ O, (w.alloc O).cell? ⟨gb, 0, none⟩ = some v := fun O => (((Below.refl _ w).alloc (Nat.le_refl _) O).cell (p := ⟨gb, 0, none⟩) hgl).trans hg0
  have hc1 : ∀ O, (w.alloc O).cell? ⟨gb, 1, none⟩ = some (.slice none 0 0) := fun O => (((Below.refl _ w).alloc (Nat.le_refl _) O).cell (p := ⟨gb, 1, none⟩) hgl).trans hg1
  have HCC : Hid (∀ W, Below w.heap.size w W → W.cell? ⟨gb, 0, none⟩ = some v ∧ W.cell? ⟨gb, 1, none⟩ = some (.slice none 0 0)) := Lib.hid fun W hW => ⟨(hW.cell (p := ⟨gb, 0, none⟩) hgl).trans hg0, (hW.cell (p := ⟨gb, 1, none⟩) hgl).trans hg1⟩
  obtain ⟨A, c, rfl, -⟩ := hv
  clear hg0 hg1 hr hn hL
  generalize l.all (holdsA n) = R at *
  go_enter Tryz.func30, Tryz.ntmps30
  go_wp2_with fail
  have HX : Hid (∀ w', Below (w.alloc (.cells (nds n) 24)).heap.size (w.alloc (.cells (nds n) 24)) w' → w'.cell? ⟨gb, 0, none⟩ = some (.slice A l.length c) ∧ w'.cell? ⟨gb, 1, none⟩ = some (.slice none 0 0) ∧ w'.cell? ⟨w.heap.size, 0, none⟩ = some (.int .i64 n.kind) ∧ w'.cell? ⟨w.heap.size, 1, none⟩ = some (.int .i64 n.many) ∧ w'.cell? ⟨w.heap.size, 2, none⟩ = some (.string ⟨n.name.toArray⟩) ∧ w'.cell? ⟨w.heap.size, 3, none⟩ = some (.string ⟨n.s.toArray⟩) ∧ w'.cell? ⟨w.heap.size, 4, none⟩ = some (.bool n.neg) ∧ w'.cell? ⟨w.heap.size, 5, none⟩ = some (.int .i64 n.e)) := Lib.hid fun w' hw => by
    obtain ⟨c0, c1⟩ := HCC.out w' (hB0.trans (hw.mono hB0.size))
    obtain ⟨z0, z1, z2, z3, z4, z5⟩ := hN.below (by simp) hw
    simp only [Nat.zero_add] at z1 z2 z3 z4 z5
    exact ⟨c0, c1, z0, z1, z2, z3, z4, z5⟩
  clear hc0 hc1 HCC hN
  have HB0 := Lib.hid hB0
  clear hB0
  generalize w.alloc _ = W0 at HX HB0 ⊢
  refine wp_region_held_drew (S := fun w' => Below W0.heap.size W0 w') (by kernel_rfl) ((Below.refl _ _).drew) (fun hH => ?_)
  generalize W0.drew = Wd at hH ⊢
  refine rtk 0 (.pointer (some ⟨gb, 0, none⟩)) ?_ ?_
  · intro w' hSw; go_simp; try decide
  try simp only [List.set_cons_succ, List.set_cons_zero]
  refine rtk 1 (.pointer (some ⟨gb, 0, none⟩)) ?_ ?_
  · intro w' hSw; obtain ⟨c0, c1, n0, n1, n2, n3, n4, n5⟩ := HX.out w' hSw; go_simp; try decide
  try simp only [List.set_cons_succ, List.set_cons_zero]
  refine rtk 2 (.pointer (some ⟨gb, 1, none⟩)) ?_ ?_
  · intro w' hSw; go_simp; try decide
  try simp only [List.set_cons_succ, List.set_cons_zero]
  refine rtk 3 (.slice none 0 0) ?_ ?_
  · intro w' hSw; obtain ⟨c0, c1, n0, n1, n2, n3, n4, n5⟩ := HX.out w' hSw; go_simp; try decide
  try simp only [List.set_cons_succ, List.set_cons_zero]
  refine rtk 4 (nda n) ?_ ?_
  · intro w' hSw; obtain ⟨c0, c1, n0, n1, n2, n3, n4, n5⟩ := HX.out w' hSw; go_simp; try decide
  try simp only [List.set_cons_succ, List.set_cons_zero]
  refine wpAnyH_ready (rs := [5]) (by kernel_rfl) (by simp) ?_
  refine AllReadyH.cons rfl (fun K5 hK5 => ?_) AllReadyH.nil
  go_simp
  refine (binNil _ n _).mono ?_
  rintro e w1 ⟨rfl, hb1⟩
  go_wp2_with fail
  refine hK5.out _ _ (hH.trans (hb1.mono hH.size)) (fun hH1 => ?_)
  clear hK5 K5 hH hb1
  try simp only [List.set_cons_succ, List.set_cons_zero]
  refine rtk 6 (.tuple #[.int .i64 0, .bool false]) ?_ ?_
  · intro w' hSw; go_simp; try decide
  try simp only [List.set_cons_succ, List.set_cons_zero]
  refine rtk 7 (.int .i64 0) ?_ ?_
  · intro w' hSw; go_simp; try decide
  try simp only [List.set_cons_succ, List.set_cons_zero]
  refine rtk 8 (.bool false) ?_ ?_
  · intro w' hSw; go_simp; try decide
  try simp only [List.set_cons_succ, List.set_cons_zero]
  refine rtk 9 (.int .i64 0) ?_ ?_
  · intro w' hSw; go_simp; try decide
  try simp only [List.set_cons_succ, List.set_cons_zero]
  refine rtk 10 (.bool false) ?_ ?_
  · intro w' hSw; go_simp; try decide
  try simp only [List.set_cons_succ, List.set_cons_zero]
  refine wpAnyH_done (by kernel_rfl) ?_ _
  go_wp2_with fail
  refine wp_region_held_drew (S := fun w' => Below W0.heap.size W0 w') (by kernel_rfl) (hH1.drew) (fun hH => ?_)
  generalize w1.drew = We at hH ⊢
  refine rtk 0 (.bool false) ?_ ?_
  · intro w' hSw; go_simp; try decide
  try simp only [List.set_cons_succ, List.set_cons_zero]
  refine rtk 1 (.bool true) ?_ ?_
  · intro w' hSw; go_simp; try decide
  try simp only [List.set_cons_succ, List.set_cons_zero]
  refine rtk 2 (.bool true) ?_ ?_
  · intro w' hSw; go_simp; try decide
  try simp only [List.set_cons_succ, List.set_cons_zero]
  refine rtk 3 (.pointer (some ⟨gb, 0, none⟩)) ?_ ?_
  · intro w' hSw; go_simp; try decide
  try simp only [List.set_cons_succ, List.set_cons_zero]
  refine rtk 4 (.pointer (some ⟨gb, 0, none⟩)) ?_ ?_
  · intro w' hSw; obtain ⟨c0, c1, n0, n1, n2, n3, n4, n5⟩ := HX.out w' hSw; go_simp; try decide
  try simp only [List.set_cons_succ, List.set_cons_zero]
  refine rtk 5 (.pointer (some ⟨gb, 0, none⟩)) ?_ ?_
  · intro w' hSw; go_simp; try decide
  try simp only [List.set_cons_succ, List.set_cons_zero]
  refine rtk 6 (.slice A l.length c) ?_ ?_
  · intro w' hSw; obtain ⟨c0, c1, n0, n1, n2, n3, n4, n5⟩ := HX.out w' hSw; go_simp; try decide
  try simp only [List.set_cons_succ, List.set_cons_zero]
  refine rtk 7 (nda n) ?_ ?_
  · intro w' hSw; obtain ⟨c0, c1, n0, n1, n2, n3, n4, n5⟩ := HX.out w' hSw; go_simp; try decide
  try simp only [List.set_cons_succ, List.set_cons_zero]
  refine wpAnyH_ready (rs := [8]) (by kernel_rfl) (by simp) ?_
  refine AllReadyH.cons rfl (fun K8 hK8 => ?_) AllReadyH.nil
  go_simp
  refine (HA.out _ (HB0.out.trans (hH.mono HB0.out.size))).mono ?_
  rintro e w2 ⟨rfl, hb2⟩
  go_wp2_with fail
  refine hK8.out _ _ (hH.trans (hb2.mono hH.size)) (fun hH2 => ?_)
  clear hK8 K8
  try simp only [List.set_cons_succ, List.set_cons_zero]
  refine rtk 9 (.bool R) ?_ ?_
  · intro w' hSw; go_simp; try decide
  try simp only [List.set_cons_succ, List.set_cons_zero]
  refine rtk 10 (.bool R) ?_ ?_
  · intro w' hSw; go_simp; try decide
  try simp only [List.set_cons_succ, List.set_cons_zero]
  refine wpAnyH_done (by kernel_rfl) ?_ _
  go_wp2_with fail
  go_ret
  exact ⟨rfl, HB0.out.trans (hH2.mono HB0.out.size)⟩
end Go.Proofs.YtbhgmfddjnkglaaGreatDoor

/-
  What the candidates of atoms that compare with the number one are: the iterator.
-/
namespace Go.Proofs.YtbhgmfddjnkglaaGreatDoor
open Go.RowKit Go.Shelf Np Rw Vp Ov Ap
attribute [local go_sem] Oper.semAt_some

/-- A candidate. -/
abbrev Cnd := { n : Nd // pln n = true ∧ NdH n }
def kindN (k : Int) : Nd := ⟨k, 0, [], [], false, 0⟩
theorem kindN_ok (k : Int) (h : pln (kindN k) = true) : pln (kindN k) = true ∧ NdH (kindN k) := ⟨h, ⟨by simp [kindN, maxLen], by simp [kindN, maxLen], by simp [kindN]⟩⟩
def c0N : Cnd := ⟨kindN 0, kindN_ok 0 (by decide +kernel)⟩
def c1N : Cnd := ⟨kindN 1, kindN_ok 1 (by decide +kernel)⟩
def c2N : Cnd := ⟨kindN 2, kindN_ok 2 (by decide +kernel)⟩
def c3N : Cnd := ⟨kindN 3, kindN_ok 3 (by decide +kernel)⟩
def c4N : Cnd := ⟨kindN 4, kindN_ok 4 (by decide +kernel)⟩
def oneC : Cnd := ⟨oneN, oneN_pln, ⟨by decide, by decide, by decide⟩⟩
def upC : Cnd := ⟨upN, upN_pln, ⟨by decide, by decide, by decide⟩⟩
def dnC : Cnd := ⟨dnN, dnN_pln, ⟨by decide, by decide, by decide⟩⟩
def threeC : List Cnd := [oneC, upC, dnC]
/-- What a round that goes on keeps: all cells. -/
structure Kc (W W' : World) : Prop where
  os : W'.os = W.os
  tape : W'.tape = W.tape
  output : W'.output = W.output
  size : W.heap.size ≤ W'.heap.size
  cells : ∀ (k : Nat) (o : Obj), W.heap[k]? = some o → o.isCells = true → W'.heap[k]? = some o
theorem Kc.refl (W : World) : Kc W W := ⟨rfl, rfl, rfl, Nat.le_refl _, fun _ _ h _ => h⟩
theorem Kc.trans {A B C : World} (h : Kc A B) (k : Kc B C) : Kc A C := ⟨k.os.trans h.os, k.tape.trans h.tape, k.output.trans h.output, Nat.le_trans h.size k.size, fun i o hi ho => k.cells i o (h.cells i o hi ho) ho⟩
theorem Kc.of_below {W W' : World} (h : Below W.heap.size W W') : Kc W W' := ⟨h.os, h.tape, h.output, h.size, fun k _ hk _ => (h.block k (Array.getElem?_eq_some_iff.1 hk).1).trans hk⟩
theorem Kc.put (W : World) (l : Nat) (o o' : Obj) (h : W.heap[l]? = some o) (hc : o.isCells = false) : Kc W (W.putObj l o') :=
  ⟨rfl, rfl, rfl, by simp, fun k x hk hx => (World.putObj_heap_other (fun e => by subst e; rw [h] at hk; injection hk with hk; subst hk; rw [hc] at hx; cases hx)).trans hk⟩
theorem Kc.cell {W W' : World} {p : Addr} {v : Value} (h : Kc W W') (hc : W.cell? p = some v) : W'.cell? p = some v := by
  cases hb : W.heap[p.block]? with
  | none => simp [World.cell?, hb] at hc
  | some o =>
    cases ho : o.isCells with
    | true =>
      have := h.cells _ o hb ho
      simpa [World.cell?, hb, this] using hc
    | false => cases o <;> simp_all [World.cell?, Obj.isCells]
/-- How a round ends. -/
def Rnd (l N m : Nat) (J Jx : List Cnd → World → Prop) : Prop := ∀ pre x W, J pre W → pre.length < N → YieldAt Fence.wide m Tryz.prog l #[nda x.1] W fun e W' =>
  (e = .returned (.bool true) ∧ J (pre ++ [x]) W' ∧ Kc W W') ∨ (e = .returned (.bool false) ∧ Jx (pre ++ [x]) W')
theorem Rnd.any {l N m : Nat} {J Jx : List Cnd → World → Prop} (h : Rnd l N m J Jx) (m' : Nat) : Rnd l N m' J Jx := fun pre x W hJ hl => by
  obtain ⟨fn, tmps, assign, body, hy, hR⟩ := h pre x W hJ hl
  exact ⟨fn, tmps, assign, body, hy, hR.1, fun c cs _ => hR.2 c cs (fun d h => by cases h)⟩
theorem J_below {J : List Cnd → World → Prop} {B : Nat} (hJ : AbidesFrom B J) {pre : List Cnd} {W W' : World} (h : J pre W) (hb : Below W.heap.size W W') : J pre W' :=
  hJ pre W W' none h ⟨hb.os, hb.tape, hb.output, hb.size, fun k hk _ => hb.block k hk⟩ (fun r e => by cases e)

set_option maxRecDepth 100000 in
set_option maxHeartbeats 2000000 in
theorem yieldOne_in (n l N B : Nat) (J Jx : List Cnd → World → Prop) (hJ : AbidesFrom B J) (hY : ∀ m, Rnd l N m J Jx) (pre : List Cnd) (W : World) (h0 : J pre W) (hN : pre.length + 3 ≤ N) :
    CallsIn Fence.wide n Tryz.prog 48 #[nda oneN, .func (.yield l) #[] #[]] W fun e W' =>
      (e = .returned (.bool true) ∧ J (pre ++ threeC) W' ∧ Kc W W') ∨ (e = .returned (.bool false) ∧ ∃ q, q <+: threeC ∧ Jx (pre ++ q) W') := by
  have HJ := Lib.hid hJ
  have HY := Lib.hid hY
  have hAl : Below W.heap.size W (W.alloc (.cells (nds oneN) 24)) := (Below.refl _ _).alloc (Nat.le_refl _) _
  have h1 := J_below hJ h0 hAl
  have HB1 := Lib.hid (Kc.of_below hAl)
  have hC1 : Nd6 (W.alloc (.cells (nds oneN) 24)) W.heap.size 0 oneN := by constructor <;> simp
  have HUP := Lib.hid (fun W => beside_up W)
  have HDN := Lib.hid (fun W => beside_dn W)
  clear hJ hY hAl
  unfold oneN at *
  obtain ⟨fn, tmps, assign, body, hy, hR⟩ := HY.out (n - 1) pre oneC _ h1 (by omega)
  simp only [oneC, oneN] at hy
  refine callsIn_of_wp Tryz.func48 rfl trivial ?_ rfl
  simp only [Tryz.ntmps48, List.size_toArray, List.length_cons, List.length_nil, Nat.reduceAdd, Nat.reduceSub, Array.replicate_succ, Array.replicate_zero, List.push_toArray, List.append_toArray, List.nil_append, List.cons_append]
  gi_wp2_with fail
  generalize W.alloc _ = W1 at *
  refine ⟨fun h => (by cases h), ?_⟩
  refine hR.mono ?_
  clear hR hy
  rintro e W2 (⟨rfl, hJ2, hk2⟩ | ⟨rfl, hJx2⟩)
  · obtain ⟨q0, q1, q2, q3, q4, q5⟩ := hC1
    simp only [Nat.zero_add] at q1 q2 q3 q4 q5
    have z0 := hk2.cell q0
    have z1 := hk2.cell q1
    have z2 := hk2.cell q2
    have z3 := hk2.cell q3
    have z4 := hk2.cell q4
    have z5 := hk2.cell q5
    have HK2 := Lib.hid (HB1.out.trans hk2)
    have HJ2 := Lib.hid hJ2
    clear hJ2 hk2 q0 q1 q2 q3 q4 q5 h1 HB1
    gi_wp2_with fail
    refine ⟨trivial, fun h => (by cases h), (callsIn_wide.2 (HUP.out _)).mono ?_⟩
    rintro e W3 ⟨rfl, hb3⟩
    have hAl3 : Below W2.heap.size W2 (W3.alloc (.cells (nds upN) 24)) := hb3.alloc hb3.size _
    have hJ3 := J_below HJ.out HJ2.out hAl3
    have hKK3 := Kc.of_below hAl3
    have y0 := hKK3.cell z0
    have y1 := hKK3.cell z1
    have y2 := hKK3.cell z2
    have y3 := hKK3.cell z3
    have y4 := hKK3.cell z4
    have y5 := hKK3.cell z5
    have HK3 := Lib.hid (HK2.out.trans hKK3)
    obtain ⟨fn, tmps, assign, body, hy, hR⟩ := HY.out (n - 1) (pre ++ [oneC]) upC _ hJ3 (by simp; omega)
    simp only [upC] at hy
    clear hAl3 hb3 hKK3 z0 z1 z2 z3 z4 z5 HK2 HJ2
    gi_wp2_with fail
    refine ⟨fun h => (by cases h), ?_⟩
    refine hR.mono ?_
    clear hR hy
    generalize W3.alloc _ = W3b at *
    rintro e W4 (⟨rfl, hJ4, hk4⟩ | ⟨rfl, hJx4⟩)
    · have z0 := hk4.cell y0
      have z1 := hk4.cell y1
      have z2 := hk4.cell y2
      have z3 := hk4.cell y3
      have z4 := hk4.cell y4
      have z5 := hk4.cell y5
      have HK4 := Lib.hid (HK3.out.trans hk4)
      have HJ4 := Lib.hid hJ4
      clear hJ4 hk4 y0 y1 y2 y3 y4 y5 HK3
      gi_wp2_with fail
      refine ⟨trivial, fun h => (by cases h), (callsIn_wide.2 (HDN.out _)).mono ?_⟩
      rintro e W5 ⟨rfl, hb5⟩
      have hAl5 : Below W4.heap.size W4 (W5.alloc (.cells (nds dnN) 24)) := hb5.alloc hb5.size _
      have hJ5 := J_below HJ.out HJ4.out hAl5
      have hKK5 := Kc.of_below hAl5
      have y0 := hKK5.cell z0
      have y1 := hKK5.cell z1
      have y2 := hKK5.cell z2
      have y3 := hKK5.cell z3
      have y4 := hKK5.cell z4
      have y5 := hKK5.cell z5
      have HK5 := Lib.hid (HK4.out.trans hKK5)
      obtain ⟨fn, tmps, assign, body, hy, hR⟩ := HY.out (n - 1) (pre ++ [oneC] ++ [upC]) dnC _ hJ5 (by simp; omega)
      simp only [dnC] at hy
      clear hAl5 hb5 hKK5 z0 z1 z2 z3 z4 z5 HK4 HJ4
      gi_wp2_with fail
      refine ⟨fun h => (by cases h), ?_⟩
      refine hR.mono ?_
      clear hR hy
      generalize W5.alloc _ = W5b at *
      rintro e W6 (⟨rfl, hJ6, hk6⟩ | ⟨rfl, hJx6⟩)
      · have HF := Lib.hid (HK5.out.trans hk6)
        gi_wp2_with fail
        go_ret
        exact .inl ⟨rfl, by simpa [threeC] using hJ6, HF.out⟩
      · gi_wp2_with fail
        go_ret
        exact .inr ⟨rfl, threeC, List.prefix_refl _, by simpa [threeC] using hJx6⟩
    · gi_wp2_with fail
      go_ret
      exact .inr ⟨rfl, [oneC, upC], ⟨[dnC], rfl⟩, by simpa using hJx4⟩
  · gi_wp2_with fail
    go_ret
    exact .inr ⟨rfl, [oneC], ⟨[upC, dnC], rfl⟩, hJx2⟩
end Go.Proofs.YtbhgmfddjnkglaaGreatDoor
