/-
  Joined: AtL2.
-/
import Derived.Test.YtbhgmfddjnkglaaGreatDoorAtomTellsJ25
import Derived.Deep.AppendLies

/-
  What some atoms say together: take, of an atom that is said in a way that none ahead of it is.
-/
namespace Go.Proofs.YtbhgmfddjnkglaaGreatDoor
open Go.RowKit Np Rw Vp Ov Ap

section
variable {α : Type} {P : Program} {enc : α → List Value} {T E sz bys base : Nat} {w : World}
theorem step_append_rowA (el : Elem P T E enc sz bys) {ops : Array Oper} {o : Oper} {a : Act} {K : Act → World → Prop} {Q : Exit → Act → World → Prop} {R : Prop} (hgd : o.guard = none) (s x : Operand)
    (ho : o.op = .call { callee := .builtin .append, args := #[s, x], argTypes := #[T, T] }) {v r : Value} {l l2 : List α} (hs : a.eval s = v) (hown : Own enc sz E base w v l) (hx : a.eval x = r) (hr : Row enc sz w r l2) (h0 : 0 < l2.length)
    (h63 : l.length + l2.length ≤ maxLen) (hby : (l.length + l2.length) * bys ≤ 140737488355328) (hbase : base ≤ w.heap.size)
    (h : ∀ (g c : Nat) (w' : World), Own enc sz E base w' (.slice (some ⟨g, 0, none⟩) (l.length + l2.length) c) (l ++ l2) → w.grownBy w' v.ownBlock → K (a.put o.dst (.slice (some ⟨g, 0, none⟩) (l.length + l2.length) c)) w') :
    if Region.wanted o (yielded ops a.tmps) = true then Oper.wp P o a w K Q else R := by
  obtain ⟨i, z, hi, hz, hsize, hbytes, hzs⟩ := el.inf
  obtain ⟨A, c, rfl, hc, hcm, hnil, hcell⟩ := hr
  obtain ⟨g2, q, rfl, hg2, hx'⟩ := hcell h0
  refine step_append_lies w hgd s x T ho base E i z sz bys el.und hi hz hsize hbytes hzs el.pos v l.length _ hs hown _ l2.length c (l2.flatMap enc) hx (flat_len el.len l2) ?_ ?_ h0 h63 hby hbase _ rfl ?_
  · intro j u hu
    obtain ⟨y, hy, hyu⟩ := flat_split el.len el.pos l2 j u hu
    have := hx' _ y hy _ u hyu
    rw [Nat.add_assoc, Nat.div_add_mod' j sz] at this
    unfold Addr.add
    split
    · rename_i h; subst h; exact this
    · exact this
  · intro u hu
    obtain ⟨y, _, hyu⟩ := List.mem_flatMap.1 hu
    exact el.one y u hyu
  · intro g cap w' h1 h2 _ _
    refine h g cap w' ?_ h2
    unfold Own
    rw [List.length_append, List.flatMap_append]
    exact h1
end
/-- The gist under way: its block. -/
def G2 (w : World) (gb : Nat) (v nv : Value) : Prop := w.heap[gb]? = some (.cells #[v, nv] 53 (0, 0))
theorem G2.lt {w : World} {gb : Nat} {v nv : Value} (h : G2 w gb v nv) : gb < w.heap.size := (Array.getElem?_eq_some_iff.1 h).1
theorem G2.below {w w' : World} {gb : Nat} {v nv : Value} (h : G2 w gb v nv) (hb : Below w.heap.size w w') : G2 w' gb v nv := (hb.block gb h.lt).trans h
theorem G2.cell {w : World} {gb : Nat} {v nv : Value} (h : G2 w gb v nv) : w.cell? ⟨gb, 0, none⟩ = some v := by rw [Lib.cell_of_heap h]; rfl
theorem G2.frozen {w : World} {gb : Nat} {v nv : Value} (h : G2 w gb v nv) : w.frozen? ⟨gb, 0, none⟩ = false := by simp [World.frozen?, show w.heap[gb]? = _ from h]
theorem G2.not_row {w : World} {gb base : Nat} {v nv u : Value} {L : List Atm} (h : G2 w gb v nv) (ho : Own atc 7 27 base w u L) : some gb ≠ u.ownBlock := by
  rcases ho.2 with ⟨rfl, _⟩ | ⟨g, cap, cur, rfl, _, hgb, _⟩
  · simp [Value.ownBlock]
  · intro e
    simp [Value.ownBlock] at e
    subst e
    have := (show w.heap[gb]? = _ from h).symm.trans hgb
    simp at this
theorem G2.set {w : World} {gb : Nat} {v nv v' : Value} (h : G2 w gb v nv) : G2 (w.setCell ⟨gb, 0, none⟩ v') gb v' nv := by
  obtain ⟨hlt, hk⟩ := Array.getElem?_eq_some_iff.1 h
  show (w.heap.modify gb _)[gb]? = _
  rw [Array.getElem?_eq_getElem (by rw [Array.size_modify]; exact hlt), Array.getElem_modify_self, hk]
  rfl

set_option maxRecDepth 100000 in
set_option maxHeartbeats 2000000 in
theorem take_fresh (gb base : Nat) (a : Atm) (L : List Atm) (v nv : Value) (w : World) (hg : G2 w gb v nv) (hv : Own atc 7 27 base w v L) (hL : L.length ≤ 100) (hf : ∀ b ∈ L, b.n ≠ a.n) (hb : gb < base) (hbw : base ≤ w.heap.size) :
    Calls Tryz.prog 45 #[.pointer (some ⟨gb, 0, none⟩), ata a] w fun e w' => (∃ u, e = .returned u) ∧ ∃ v', G2 w' gb v' nv ∧ Own atc 7 27 base w' v' (L ++ [a]) ∧ Below gb w w' := by
  obtain ⟨A, c, rfl, hcap, hcm, -⟩ := hv.form
  have hAl : Below w.heap.size w (w.alloc (.cells (atc a).toArray 27)) := (Below.refl _ _).alloc (Nat.le_refl _) _
  have hG0 := hg.below hAl
  have hO0 := hv.below hAl
  have hA7 := hN7 w a
  have hB0 : Below gb w (w.alloc (.cells (atc a).toArray 27)) := hAl.mono (Nat.le_of_lt hg.lt)
  have hs0 : base ≤ (w.alloc (.cells (atc a).toArray 27)).heap.size := by simp; omega
  have hgl : gb < w.heap.size := hg.lt
  have hcell : ∀ O, (w.alloc O).cell? ⟨gb, 0, none⟩ = some (.slice A L.length c) := fun O => (hg.below ((Below.refl _ w).alloc (Nat.le_refl _) O)).cell
  have HF := Lib.hid hf
  simp only [atc] at hG0 hO0 hA7 hB0 hs0
  clear hAl hg hv hf
  generalize hm : L.length = m at *
  have HM := Lib.hid hm
  clear hm
  go_enter Tryz.func45, Tryz.ntmps45
  go_wp2_with fail
  clear hcell
  have hpb : w.heap.size < (w.alloc (.cells (atc a).toArray 27)).heap.size := by simp
  simp only [atc] at hpb
  generalize w.alloc _ = W0 at hG0 hO0 hA7 hB0 hs0 hpb ⊢
  have HG0 := Lib.hid hG0
  have HO0 := Lib.hid hO0
  have HA7 := Lib.hid hA7
  have HB0 := Lib.hid hB0
  have HROW : Hid (Ats W0 (.slice A m c) L) := Lib.hid (by have := Own.row atc_len hO0; exact this)
  clear hG0 hO0 hA7 hB0
  go_loopw [11] (fun iv wr => ∃ k : Nat, k ≤ m ∧ iv = .int .i64 k ∧ Below W0.heap.size W0 wr) (fun iv _ => m - (intOf iv).toNat)
  case atStart => exact ⟨0, Nat.zero_le _, rfl, Below.refl _ _⟩
  case round =>
    obtain ⟨k, hk, rfl, hbr⟩ := hrel
    by_cases hlt : k < m
    · have hkp : k < L.length := by rw [HM.out]; exact hlt
      obtain ⟨gp, op, cp, e1, -, -, hgp, hx⟩ := HROW.out.opened (by omega)
      have hs7 := (hx k _ (List.getElem?_eq_getElem hkp)).atm.below hgp hbr
      have HNE : Hid (L[k].n ≠ a.n) := Lib.hid (HF.out _ (List.getElem_mem hkp))
      injection e1 with e1 e2 e3
      subst e1 e3
      clear e2 hx
      obtain ⟨y0, y1, y2, y3, y4, y5, y6⟩ := hs7
      generalize L[k] = b at *
      have hne : (a.n == b.n) = false := by have := HNE.out; simp; exact fun e => this e.symm
      have hA7 := HA7.out.below hpb hbr
      obtain ⟨z0, z1, z2, z3, z4, z5, z6⟩ := hA7
      simp only [Nat.zero_add] at z1 z2 z3 z4 z5 z6
      have hzl : w.heap.size < wr.heap.size := Nat.lt_of_lt_of_le hpb hbr.size
      have hzn : ¬ w.heap.size = wr.heap.size := by omega
      have hz0 : ∀ O, (wr.alloc O).cell? ⟨w.heap.size, 0, none⟩ = some (.int .i64 a.n) := fun O => (((Below.refl _ wr).alloc (Nat.le_refl _) O).cell (p := ⟨w.heap.size, 0, none⟩) hzl).trans z0
      have HBA : Hid (∀ O, Below W0.heap.size W0 (wr.alloc O)) := Lib.hid fun O => hbr.alloc hbr.size O
      clear hbr
      go_wp2_with fail
      refine ⟨⟨k + 1, by omega, by go_num, HBA.out _⟩, ?_⟩
      simp [intOf]; omega
    · have hkm : k = m := by omega
      subst hkm
      go_wp2_with fail
      have hgr := HG0.out.below hbr
      have hor := HO0.out.below hbr
      have har := HA7.out.below hpb hbr
      have HBG : Hid (Below gb w wr) := Lib.hid (HB0.out.trans (hbr.mono (by have := HG0.out.lt; omega)))
      have hszr : base ≤ wr.heap.size := Nat.le_trans hs0 hbr.size
      have hpr : w.heap.size < wr.heap.size := Nat.lt_of_lt_of_le hpb hbr.size
      clear hbr
      have hdr : Below wr.heap.size wr wr.drew := (Below.refl _ _).drew
      have hgd := hgr.below hdr
      have hod := hor.below hdr
      have had := har.below hpr hdr
      have hbd : Below gb wr wr.drew := hdr.mono (by have := hgr.lt; omega)
      have hszd : base ≤ wr.drew.heap.size := hszr
      have hgbl : gb < wr.heap.size := hgr.lt
      clear hgr hor har hdr
      refine wp_region_held_drew (S := fun w' => Below gb wr w') (by kernel_rfl) hbd (fun hH => ?_)
      generalize wr.drew = Wd at hH hgd hod had hbd hszd ⊢
      have hc := hgd.cell
      obtain ⟨z0, z1, z2, z3, z4, z5, z6⟩ := had
      simp only [Nat.zero_add] at z1 z2 z3 z4 z5 z6
      refine rtk 0 (.pointer (some ⟨gb, 0, none⟩)) ?_ ?_
      · intro w' hSw; go_simp; try decide
      try simp only [List.set_cons_succ, List.set_cons_zero]
      refine rtk 1 (.pointer (some ⟨gb, 0, none⟩)) ?_ ?_
      · intro w' hSw; go_simp; try decide
      try simp only [List.set_cons_succ, List.set_cons_zero]
      refine rtk 2 (.pointer (some ⟨gb, 0, none⟩)) ?_ ?_
      · intro w' hSw; go_simp; try decide
      try simp only [List.set_cons_succ, List.set_cons_zero]
      refine rtk 3 (.pointer (some ⟨gb, 0, none⟩)) ?_ ?_
      · intro w' hSw; go_simp; try decide
      try simp only [List.set_cons_succ, List.set_cons_zero]
      refine wpAnyH_ready (rs := [4, 5]) (by kernel_rfl) (by simp) ?_
      refine AllReadyH.cons rfl (fun K4 hK4 => ?_) (AllReadyH.cons rfl (fun K5 hK5 => ?_) AllReadyH.nil)
      · go_simp
        refine hK4.out _ _ hH (fun _ => ?_)
        clear hK4 K4
        try simp only [List.set_cons_succ, List.set_cons_zero]
        refine wpAnyH_ready (rs := [5]) (by kernel_rfl) (by simp) ?_
        refine AllReadyH.cons rfl (fun K5 hK5 => ?_) AllReadyH.nil
        go_simp
        refine hK5.out _ _ hH (fun _ => ?_)
        clear hK5 K5
        try simp only [List.set_cons_succ, List.set_cons_zero]
        refine wpAnyH_ready (rs := [6]) (by kernel_rfl) (by simp) ?_
        refine AllReadyH.cons rfl (fun K6 hK6 => ?_) AllReadyH.nil
        go_simp
        refine hK6.out _ _ (hH.alloc (by have := hgbl; have := hbd.size; omega) _) (fun hH6 => ?_)
        clear hK6 K6
        try simp only [List.set_cons_succ, List.set_cons_zero]
        have hr6 : Ats (Wd.alloc (.cells (atc a).toArray 27)) (.slice (some ⟨Wd.heap.size, 0, none⟩) 1 1) [a] := row_one atc_len Wd _ rfl _ _ a (by simp)
        have ha6 : Below Wd.heap.size Wd (Wd.alloc (.cells (atc a).toArray 27)) := (Below.refl _ _).alloc (Nat.le_refl _) _
        simp only [atc] at hr6 ha6
        generalize hz6 : Wd.heap.size = z6b at hr6 ha6 ⊢
        generalize Wd.alloc _ = W6 at hr6 ha6 hH6 ⊢
        have hg6 := hgd.below (by rw [hz6]; exact ha6)
        have ho6 := hod.below (by rw [hz6]; exact ha6)
        have hs6 : base ≤ W6.heap.size := by have := ha6.size; omega
        refine wpAnyH_ready (rs := [7]) (by kernel_rfl) (by simp) ?_
        refine AllReadyH.cons rfl (fun K7 hK7 => ?_) AllReadyH.nil
        refine step_append_rowA (base := base) elAtom (by rfl) _ _ (by rfl) (by rfl) (l := L) ho6 (by rfl) hr6 (by simp) (by rw [HM.out]; unfold maxLen; simp; omega) (by rw [HM.out]; simp; omega) hs6 ?_
        intro g7 c7 w7 ho7 hgr7
        have hg7 : G2 w7 gb (.slice A k c) nv := (hgr7.block gb hg6.lt (hg6.not_row ho6)).trans hg6
        have hb7 : Below base W6 w7 := ho6.kept hgr7 (by omega)
        have hH7 : Below gb wr w7 := hH6.trans (hb7.mono (by omega))
        have hn7 := hg7.not_row ho7
        have ho8 : Own atc 7 27 base (w7.setCell ⟨gb, 0, none⟩ (.slice (some ⟨g7, 0, none⟩) (L.length + [a].length) c7)) (.slice (some ⟨g7, 0, none⟩) (L.length + [a].length) c7) (L ++ [a]) := ownsRow_setCell_other ho7 (fun e => hn7 e.symm) _
        have hg8 : G2 (w7.setCell ⟨gb, 0, none⟩ (.slice (some ⟨g7, 0, none⟩) (L.length + [a].length) c7)) gb (.slice (some ⟨g7, 0, none⟩) (L.length + [a].length) c7) nv := hg7.set
        have HH8 : Hid (Below gb wr (w7.setCell ⟨gb, 0, none⟩ (.slice (some ⟨g7, 0, none⟩) (L.length + [a].length) c7))) := Lib.hid (hH7.setCell (Nat.le_refl _) _)
        have HFIN : Hid (∃ v', G2 (w7.setCell ⟨gb, 0, none⟩ (.slice (some ⟨g7, 0, none⟩) (L.length + [a].length) c7)) gb v' nv ∧ Own atc 7 27 base (w7.setCell ⟨gb, 0, none⟩ (.slice (some ⟨g7, 0, none⟩) (L.length + [a].length) c7)) v' (L ++ [a]) ∧ Below gb w (w7.setCell ⟨gb, 0, none⟩ (.slice (some ⟨g7, 0, none⟩) (L.length + [a].length) c7))) := Lib.hid ⟨_, hg8, ho8, HBG.out.trans HH8.out⟩
        have hc7 := hg7.cell
        have hf7 := hg7.frozen
        clear hg8 ho8 ho7 hgr7 hn7
        generalize L.length + [a].length = q7 at *
        refine hK7.out _ _ hH7 (fun _ => ?_)
        clear hK7 K7
        try simp only [List.set_cons_succ, List.set_cons_zero]
        refine rtk 8 (.pointer (some ⟨gb, 0, none⟩)) ?_ ?_
        · intro w' hSw; go_simp; try decide
        try simp only [List.set_cons_succ, List.set_cons_zero]
        refine rtk 9 (.pointer (some ⟨gb, 0, none⟩)) ?_ ?_
        · intro w' hSw; go_simp; try decide
        try simp only [List.set_cons_succ, List.set_cons_zero]
        refine wpAnyH_ready (rs := [10]) (by kernel_rfl) (by simp) ?_
        refine AllReadyH.cons rfl (fun K10 hK10 => ?_) AllReadyH.nil
        go_simp
        refine hK10.out _ _ HH8.out (fun _ => ?_)
        clear hK10 K10
        try simp only [List.set_cons_succ, List.set_cons_zero]
        refine wpAnyH_done (by kernel_rfl) ?_ _
        go_wp2_with fail
        go_end0
        exact ⟨⟨_, rfl⟩, HFIN.out⟩
      · go_simp
        refine hK5.out _ _ hH (fun _ => ?_)
        clear hK5 K5
        try simp only [List.set_cons_succ, List.set_cons_zero]
        refine wpAnyH_ready (rs := [4, 6]) (by kernel_rfl) (by simp) ?_
        refine AllReadyH.cons rfl (fun K4 hK4 => ?_) (AllReadyH.cons rfl (fun K6 hK6 => ?_) AllReadyH.nil)
        · go_simp
          refine hK4.out _ _ hH (fun _ => ?_)
          clear hK4 K4
          try simp only [List.set_cons_succ, List.set_cons_zero]
          refine wpAnyH_ready (rs := [6]) (by kernel_rfl) (by simp) ?_
          refine AllReadyH.cons rfl (fun K6 hK6 => ?_) AllReadyH.nil
          go_simp
          refine hK6.out _ _ (hH.alloc (by have := hgbl; have := hbd.size; omega) _) (fun hH6 => ?_)
          clear hK6 K6
          try simp only [List.set_cons_succ, List.set_cons_zero]
          have hr6 : Ats (Wd.alloc (.cells (atc a).toArray 27)) (.slice (some ⟨Wd.heap.size, 0, none⟩) 1 1) [a] := row_one atc_len Wd _ rfl _ _ a (by simp)
          have ha6 : Below Wd.heap.size Wd (Wd.alloc (.cells (atc a).toArray 27)) := (Below.refl _ _).alloc (Nat.le_refl _) _
          simp only [atc] at hr6 ha6
          generalize hz6 : Wd.heap.size = z6b at hr6 ha6 ⊢
          generalize Wd.alloc _ = W6 at hr6 ha6 hH6 ⊢
          have hg6 := hgd.below (by rw [hz6]; exact ha6)
          have ho6 := hod.below (by rw [hz6]; exact ha6)
          have hs6 : base ≤ W6.heap.size := by have := ha6.size; omega
          refine wpAnyH_ready (rs := [7]) (by kernel_rfl) (by simp) ?_
          refine AllReadyH.cons rfl (fun K7 hK7 => ?_) AllReadyH.nil
          refine step_append_rowA (base := base) elAtom (by rfl) _ _ (by rfl) (by rfl) (l := L) ho6 (by rfl) hr6 (by simp) (by rw [HM.out]; unfold maxLen; simp; omega) (by rw [HM.out]; simp; omega) hs6 ?_
          intro g7 c7 w7 ho7 hgr7
          have hg7 : G2 w7 gb (.slice A k c) nv := (hgr7.block gb hg6.lt (hg6.not_row ho6)).trans hg6
          have hb7 : Below base W6 w7 := ho6.kept hgr7 (by omega)
          have hH7 : Below gb wr w7 := hH6.trans (hb7.mono (by omega))
          have hn7 := hg7.not_row ho7
          have ho8 : Own atc 7 27 base (w7.setCell ⟨gb, 0, none⟩ (.slice (some ⟨g7, 0, none⟩) (L.length + [a].length) c7)) (.slice (some ⟨g7, 0, none⟩) (L.length + [a].length) c7) (L ++ [a]) := ownsRow_setCell_other ho7 (fun e => hn7 e.symm) _
          have hg8 : G2 (w7.setCell ⟨gb, 0, none⟩ (.slice (some ⟨g7, 0, none⟩) (L.length + [a].length) c7)) gb (.slice (some ⟨g7, 0, none⟩) (L.length + [a].length) c7) nv := hg7.set
          have HH8 : Hid (Below gb wr (w7.setCell ⟨gb, 0, none⟩ (.slice (some ⟨g7, 0, none⟩) (L.length + [a].length) c7))) := Lib.hid (hH7.setCell (Nat.le_refl _) _)
          have HFIN : Hid (∃ v', G2 (w7.setCell ⟨gb, 0, none⟩ (.slice (some ⟨g7, 0, none⟩) (L.length + [a].length) c7)) gb v' nv ∧ Own atc 7 27 base (w7.setCell ⟨gb, 0, none⟩ (.slice (some ⟨g7, 0, none⟩) (L.length + [a].length) c7)) v' (L ++ [a]) ∧ Below gb w (w7.setCell ⟨gb, 0, none⟩ (.slice (some ⟨g7, 0, none⟩) (L.length + [a].length) c7))) := Lib.hid ⟨_, hg8, ho8, HBG.out.trans HH8.out⟩
          have hc7 := hg7.cell
          have hf7 := hg7.frozen
          clear hg8 ho8 ho7 hgr7 hn7
          generalize L.length + [a].length = q7 at *
          refine hK7.out _ _ hH7 (fun _ => ?_)
          clear hK7 K7
          try simp only [List.set_cons_succ, List.set_cons_zero]
          refine rtk 8 (.pointer (some ⟨gb, 0, none⟩)) ?_ ?_
          · intro w' hSw; go_simp; try decide
          try simp only [List.set_cons_succ, List.set_cons_zero]
          refine rtk 9 (.pointer (some ⟨gb, 0, none⟩)) ?_ ?_
          · intro w' hSw; go_simp; try decide
          try simp only [List.set_cons_succ, List.set_cons_zero]
          refine wpAnyH_ready (rs := [10]) (by kernel_rfl) (by simp) ?_
          refine AllReadyH.cons rfl (fun K10 hK10 => ?_) AllReadyH.nil
          go_simp
          refine hK10.out _ _ HH8.out (fun _ => ?_)
          clear hK10 K10
          try simp only [List.set_cons_succ, List.set_cons_zero]
          refine wpAnyH_done (by kernel_rfl) ?_ _
          go_wp2_with fail
          go_end0
          exact ⟨⟨_, rfl⟩, HFIN.out⟩
        · go_simp
          refine hK6.out _ _ (hH.alloc (by have := hgbl; have := hbd.size; omega) _) (fun hH6 => ?_)
          clear hK6 K6
          try simp only [List.set_cons_succ, List.set_cons_zero]
          have hr6 : Ats (Wd.alloc (.cells (atc a).toArray 27)) (.slice (some ⟨Wd.heap.size, 0, none⟩) 1 1) [a] := row_one atc_len Wd _ rfl _ _ a (by simp)
          have ha6 : Below Wd.heap.size Wd (Wd.alloc (.cells (atc a).toArray 27)) := (Below.refl _ _).alloc (Nat.le_refl _) _
          simp only [atc] at hr6 ha6
          generalize hz6 : Wd.heap.size = z6b at hr6 ha6 ⊢
          generalize Wd.alloc _ = W6 at hr6 ha6 hH6 ⊢
          have hc6 := (hgd.below (by rw [hz6]; exact ha6)).cell
          refine wpAnyH_ready (rs := [4]) (by kernel_rfl) (by simp) ?_
          refine AllReadyH.cons rfl (fun K4 hK4 => ?_) AllReadyH.nil
          go_simp
          refine hK4.out _ _ hH6 (fun _ => ?_)
          clear hK4 K4
          try simp only [List.set_cons_succ, List.set_cons_zero]
          have hg6 := hgd.below (by rw [hz6]; exact ha6)
          have ho6 := hod.below (by rw [hz6]; exact ha6)
          have hs6 : base ≤ W6.heap.size := by have := ha6.size; omega
          refine wpAnyH_ready (rs := [7]) (by kernel_rfl) (by simp) ?_
          refine AllReadyH.cons rfl (fun K7 hK7 => ?_) AllReadyH.nil
          refine step_append_rowA (base := base) elAtom (by rfl) _ _ (by rfl) (by rfl) (l := L) ho6 (by rfl) hr6 (by simp) (by rw [HM.out]; unfold maxLen; simp; omega) (by rw [HM.out]; simp; omega) hs6 ?_
          intro g7 c7 w7 ho7 hgr7
          have hg7 : G2 w7 gb (.slice A k c) nv := (hgr7.block gb hg6.lt (hg6.not_row ho6)).trans hg6
          have hb7 : Below base W6 w7 := ho6.kept hgr7 (by omega)
          have hH7 : Below gb wr w7 := hH6.trans (hb7.mono (by omega))
          have hn7 := hg7.not_row ho7
          have ho8 : Own atc 7 27 base (w7.setCell ⟨gb, 0, none⟩ (.slice (some ⟨g7, 0, none⟩) (L.length + [a].length) c7)) (.slice (some ⟨g7, 0, none⟩) (L.length + [a].length) c7) (L ++ [a]) := ownsRow_setCell_other ho7 (fun e => hn7 e.symm) _
          have hg8 : G2 (w7.setCell ⟨gb, 0, none⟩ (.slice (some ⟨g7, 0, none⟩) (L.length + [a].length) c7)) gb (.slice (some ⟨g7, 0, none⟩) (L.length + [a].length) c7) nv := hg7.set
          have HH8 : Hid (Below gb wr (w7.setCell ⟨gb, 0, none⟩ (.slice (some ⟨g7, 0, none⟩) (L.length + [a].length) c7))) := Lib.hid (hH7.setCell (Nat.le_refl _) _)
          have HFIN : Hid (∃ v', G2 (w7.setCell ⟨gb, 0, none⟩ (.slice (some ⟨g7, 0, none⟩) (L.length + [a].length) c7)) gb v' nv ∧ Own atc 7 27 base (w7.setCell ⟨gb, 0, none⟩ (.slice (some ⟨g7, 0, none⟩) (L.length + [a].length) c7)) v' (L ++ [a]) ∧ Below gb w (w7.setCell ⟨gb, 0, none⟩ (.slice (some ⟨g7, 0, none⟩) (L.length + [a].length) c7))) := Lib.hid ⟨_, hg8, ho8, HBG.out.trans HH8.out⟩
          have hc7 := hg7.cell
          have hf7 := hg7.frozen
          clear hg8 ho8 ho7 hgr7 hn7
          generalize L.length + [a].length = q7 at *
          refine hK7.out _ _ hH7 (fun _ => ?_)
          clear hK7 K7
          try simp only [List.set_cons_succ, List.set_cons_zero]
          refine rtk 8 (.pointer (some ⟨gb, 0, none⟩)) ?_ ?_
          · intro w' hSw; go_simp; try decide
          try simp only [List.set_cons_succ, List.set_cons_zero]
          refine rtk 9 (.pointer (some ⟨gb, 0, none⟩)) ?_ ?_
          · intro w' hSw; go_simp; try decide
          try simp only [List.set_cons_succ, List.set_cons_zero]
          refine wpAnyH_ready (rs := [10]) (by kernel_rfl) (by simp) ?_
          refine AllReadyH.cons rfl (fun K10 hK10 => ?_) AllReadyH.nil
          go_simp
          refine hK10.out _ _ HH8.out (fun _ => ?_)
          clear hK10 K10
          try simp only [List.set_cons_succ, List.set_cons_zero]
          refine wpAnyH_done (by kernel_rfl) ?_ _
          go_wp2_with fail
          go_end0
          exact ⟨⟨_, rfl⟩, HFIN.out⟩
end Go.Proofs.YtbhgmfddjnkglaaGreatDoor
