/-
  Joined: TermSpoilt, TermSpoiltCardA.
-/
import Derived.Test.YtmajkafoenfceaaGreatDoorTermPipeJ21
import Derived.Test.YtmajkafoenfceaaGreatDoorTermPipeJ1
import Derived.Test.YtmajkafoenfceaaGreatDoorTermPipeJ12
import Derived.Test.YtmajkafoenfceaaGreatDoorTermPipeJ4

/-
  The walk of TermSpoilt: it answers true.
-/
namespace Go.Proofs.YtmajkafoenfceaaGreatDoor
open Go.RowKit Np Rw Vp Up Qp Tp Pw Fw

/-- At the operation that writes a whole term. -/
theorem wpList_store_term {ops : Array Oper} {rest : List Oper} {op : Oper} {a : Act} {w : World} {Q : Exit → Act → World → Prop} (hgd : op.guard = none) (x y : Operand) (ho : op.op = .store 37 x y)
    (g o : Nat) (n : Tm) (hx : a.eval x = .pointer (some ⟨g, o, none⟩)) (hy : a.eval y = tma n) (ht : w.there g o 11) (h : wpList Tryz.prog ops Q rest (a.put op.dst undef) (w.setCells g o (tmc n))) : wpList Tryz.prog ops Q (op :: rest) a w := by
  refine wpList_store_mid hgd 37 x y ho g o _ hx hy ht ?_ (all_oneCell_toArray (cs := tmc n) (elTerm.one n)) h
  have := term_info
  cases h : Tryz.prog.info? 37 with
  | none => rw [h] at this; cases this
  | some i => rw [h] at this; simp at this; simp [this.2.1]

def nmA (t : Tm) : Tm := { t with name := [97] }
def opT (t : Tm) (op : Int) : Tm := { t with op := op }
theorem opT_same (t : Tm) (l : List Tm) (op : Int) : decide (t :: l = opT t op :: l) = decide (op = t.op) := by
  by_cases h : op = t.op
  · subst h; simp [opT]
  · have : t :: l ≠ opT t op :: l := fun e => by
      injection e with e1 _
      have := congrArg Tm.op e1
      exact h this.symm
    simp [h, this]
theorem term_held_fit {t : Tm} (h1 : t.s.length ≤ 100) (h2 : t.name.length ≤ 100) (h : HeldT t) : FitTm t := ⟨by omega, by omega, ⟨h.cn, h.cs, h.cm⟩, h.m⟩

section
variable {α : Type} {P : Program} {enc : α → List Value} {T E sz bys base : Nat} {w : World}
/-- At an append of a region that draws: v is the call's own, x any slice that is not empty. -/
theorem step_append_row (el : Elem P T E enc sz bys) {ops : Array Oper} {o : Oper} {a : Act} {K : Act → World → Prop} {Q : Exit → Act → World → Prop} {R : Prop} (hgd : o.guard = none) (s x : Operand)
    (ho : o.op = .call { callee := .builtin .append, args := #[s, x], argTypes := #[T, T] }) {v r : Value} {l l2 : List α} (hs : a.eval s = v) (hown : Own enc sz E base w v l) (hx : a.eval x = r) (hr : Row enc sz w r l2) (h0 : 0 < l2.length)
    (h63 : l.length + l2.length ≤ maxLen) (hby : (l.length + l2.length) * bys ≤ 140737488355328) (hbase : base ≤ w.heap.size)
    (h : ∀ (g c : Nat) (w' : World), Own enc sz E base w' (.slice (some ⟨g, 0, none⟩) (l.length + l2.length) c) (l ++ l2) → w.grownBy w' v.ownBlock → K (a.put o.dst (.slice (some ⟨g, 0, none⟩) (l.length + l2.length) c)) w') :
    if Region.wanted o (yielded ops a.tmps) = true then Oper.wp P o a w K Q else R := by
  obtain ⟨i, z, hi, hz, hsize, hbytes, hzs⟩ := el.inf
  obtain ⟨A, c, rfl, hc, hcm, hnil, hcell⟩ := hr
  obtain ⟨g2, q, rfl, hg2, hx'⟩ := hcell h0
  refine step_append_lies w hgd s x T ho base E i z sz bys el.und hi hz hsize hbytes hzs el.pos v l.length _ hs hown _ l2.length c (l2.flatMap enc) hx (flat_len el.len l2) ?_ ?_ h0 h63 hby hbase _ rfl ?_
  · intro j u hu
    obtain ⟨y, hy, hyu⟩ := flat_split el.len el.pos l2 j u hu
    have := hx' _ y hy _ u hyu
    rw [Nat.add_assoc, Nat.div_add_mod' j sz] at this
    unfold Addr.add
    split
    · rename_i h; subst h; exact this
    · exact this
  · intro u hu
    obtain ⟨y, _, hyu⟩ := List.mem_flatMap.1 hu
    exact el.one y u hyu
  · intro g cap w' h1 h2 _ _
    refine h g cap w' ?_ h2
    unfold Own
    rw [List.length_append, List.flatMap_append]
    exact h1
theorem Own.empty {W : World} {g : Nat} (h : W.heap[g]? = some (.cells #[] E)) (hb : base ≤ g) : Own enc sz E base W (.slice (some ⟨g, 0, none⟩) 0 0) ([] : List α) :=
  ⟨by simp, .inr ⟨g, 0, #[], rfl, hb, h, Nat.le_refl _, Nat.zero_le _, by simp, by simp⟩⟩
end
theorem heap_two1 (w : World) (a b : Obj) : ((w.drew.alloc a).alloc b).heap[w.heap.size]? = some a := (Below.heap_alloc _ _ _ (by simp)).trans (heap_alloc_new w.drew a)
theorem heap_two2 (w : World) (a b : Obj) : ((w.drew.alloc a).alloc b).heap[w.heap.size + 1]? = some b := by
  have := heap_alloc_new (w.drew.alloc a) b
  rwa [show (w.drew.alloc a).heap.size = w.heap.size + 1 by simp] at this
abbrev tmO' (t : Tm) : Obj := .cells #[.int .i64 t.op, .int .i64 t.many, .string ⟨t.name.toArray⟩, .string ⟨t.s.toArray⟩, .int .i64 t.n, .int .i64 t.c.kind, .int .i64 t.c.many, .string ⟨t.c.name.toArray⟩, .string ⟨t.c.s.toArray⟩, .bool t.c.neg, .int .i64 t.c.e] 37
theorem Tms.one {W : World} {g : Nat} {t : Tm} (h : W.heap[g]? = some (tmO' t)) : Tms W (.slice (some ⟨g, 0, none⟩) 1 1) [t] := by
  have hlt : g < W.heap.size := (Array.getElem?_eq_some_iff.1 h).1
  refine Row.mk (l := [t]) (c := 1) (Nat.le_refl _) (by decide) hlt (fun k x hk j u hu => ?_)
  have hk0 : k = 0 := by
    have := (List.getElem?_eq_some_iff.1 hk).1
    simp at this; omega
  subst hk0
  simp at hk; subst hk
  rw [Lib.cell_of_heap h]
  simpa [tmc] using hu
set_option maxRecDepth 100000 in
set_option maxHeartbeats 8000000 in
theorem termSpoilt_any (v1 : Value) (l1 : List Tm) (t : Tm) (op : Int) (w : World) (h1 : Tms w v1 l1) (k1 : HeldF l1) (kt : HeldT t) (hT : Fv w) :
    Calls Tryz.prog 7 #[v1, tma t, .int .i64 op] w fun e w' => e = .returned (.bool true) ∧ Below w.heap.size w w' := by
  have HT := Lib.hid hT
  have H1 := Lib.hid h1
  have KT := Lib.hid kt
  have HAL : Hid (∀ W, Below w.heap.size w W → Calls Tryz.prog 16 #[] W fun e w' => e = .returned (.bool true) ∧ Below W.heap.size W w') := Lib.hid (fun W hW => falive_any W (HT.out.below hW))
  have HF1 := Lib.hid (fun (W : World) (hW : Below w.heap.size w W) => refFewF_any v1 l1 30 W (h1.below hW) (by decide) k1)
  obtain ⟨A1, c1, rfl⟩ : ∃ (A : Option Addr) (c : Nat), v1 = .slice A l1.length c := by obtain ⟨A, c, h, -⟩ := h1; exact ⟨A, c, h⟩
  have hbp := tmr_below w t
  have htp := tmr_alloc w t
  have KK0 := Lib.hid k1
  clear h1 hT kt k1
  go_enter Tryz.func7, Tryz.ntmps7
  go_wp2_with fail
  generalize w.alloc (.cells #[.int .i64 t.op, .int .i64 t.many, .string ⟨t.name.toArray⟩, .string ⟨t.s.toArray⟩, .int .i64 t.n, .int .i64 t.c.kind, .int .i64 t.c.many, .string ⟨t.c.name.toArray⟩, .string ⟨t.c.s.toArray⟩, .bool t.c.neg, .int .i64 t.c.e] 37) = W0 at hbp htp ⊢
  have HB0 := Lib.hid hbp
  have HTP := Lib.hid htp
  clear hbp htp
  refine (HF1.out _ HB0.out).mono ?_
  rintro e w1 ⟨rfl, hb1'⟩
  have HB1 := Lib.hid (HB0.out.trans (hb1'.mono HB0.out.size))
  have hpl : w.heap.size < W0.heap.size := World.block_lt_of_cell? _ _ HTP.out.c0
  have HTP1 := Lib.hid (HTP.out.below hpl hb1')
  have hpl1 : w.heap.size < w1.heap.size := Nat.lt_of_lt_of_le hpl hb1'.size
  clear hb1' HF1 hpl
  cases hf1 : fewF 30 l1
  · go_wp2_with fail
    refine (HAL.out _ HB1.out).mono ?_
    rintro e w2 ⟨rfl, hb2⟩
    go_wp2_with fail
    go_ret
    exact ⟨rfl, HB1.out.trans (hb2.mono HB1.out.size)⟩
  · obtain ⟨t1, ft1, e1, n1, s1⟩ := few_flt hf1
    obtain ⟨x0, r0, e0⟩ : ∃ x r, l1 = x :: r := ⟨_, _, by rw [e1, flat_eq]⟩
    have KK : Hid (HeldF l1 ∧ l1.all shortT = true) := Lib.hid ⟨KK0.out, s1⟩
    have FT := Lib.hid ft1
    have E1 := Lib.hid e1
    have E0 := Lib.hid e0
    have hpos : 0 < l1.length := by rw [e0]; simp
    have hn30 : l1.length ≤ 30 := n1
    obtain ⟨z0, z1, z2, z3, z4, z5, z6, z7, z8, z9, z10⟩ := HTP1.out
    simp only [Nat.zero_add] at z0 z1 z2 z3 z4 z5 z6 z7 z8 z9 z10
    clear e1 e0 hf1 s1 n1 KK0
    by_cases hs : t.s.length ≤ 100
    · have hs1 : decide ((100 : Int) < (t.s.length : Int)) = false := by simp; omega
      by_cases hnm : t.name.length ≤ 100
      · have hn1 : decide ((100 : Int) < (t.name.length : Int)) = false := by simp; omega
        have HFT : Hid (FitTm t) := Lib.hid (term_held_fit hs hnm KT.out)
        clear hs hnm
        have HFX : Hid (∀ x ∈ l1, FitTm x) := Lib.hid (fun x hx => fitTm_short (List.all_eq_true.1 KK.out.2 x hx) (KK.out.1 x hx))
        have HFM : Hid (∀ x ∈ l1 ++ [t], FitTm x) := Lib.hid (fun x hx => by
          rcases List.mem_append.1 hx with h | h
          · exact HFX.out x h
          · simp at h; subst h; exact HFT.out)
        have HX0 : Hid (FitTm x0) := Lib.hid (HFX.out x0 (by rw [E0.out]; simp))
        have HBR : Hid (∀ W, Below w1.heap.size w1 W → Tms W (.slice A1 l1.length c1) l1) := Lib.hid (fun W hW => (H1.out.below HB1.out).below hW)
        have HNP : Hid (0 < l1.length ∧ l1.length ≤ 30) := Lib.hid ⟨hpos, hn30⟩
        generalize hln : l1.length = n at *
        have HLN := Lib.hid hln
        clear hln hpos hn30
        go_upto_region 3 with fail
        go_cut [7] (fun v wx => ∃ g c : Nat, v = .slice (some ⟨g, 0, none⟩) (n + 1) c ∧ Hid (OwnT w1.heap.size wx (.slice (some ⟨g, 0, none⟩) (n + 1) c) (l1 ++ [t])) ∧ Hid (Below w1.heap.size w1 wx))
        case first =>
          refine wp_region_held_drew (S := fun w' => Below w1.heap.size w1 w') (by kernel_rfl) ((Below.refl _ _).drew) (fun hH => ?_)
          refine rtk 1 (.slice A1 n c1) ?_ ?_
          · intro w' hSw; go_simp
          try simp only [List.set_cons_succ, List.set_cons_zero]
          refine rtk 3 (tma t) ?_ ?_
          · intro w' hSw; (try dsimp only at hSw); obtain ⟨y0, y1, y2, y3, y4, y5, y6, y7, y8, y9, y10⟩ := HTP1.out.low hpl1 hSw; simp only [Nat.zero_add] at y0 y1 y2 y3 y4 y5 y6 y7 y8 y9 y10; go_simp
          try simp only [List.set_cons_succ, List.set_cons_zero]
          refine wpAnyH_ready (rs := [0, 4]) (by kernel_rfl) (by simp) ?_
          refine AllReadyH.cons rfl (fun K0 hK0 => ?_) (AllReadyH.cons rfl (fun K4 hK4 => ?_) AllReadyH.nil)
          · go_simp
            refine hK0.out _ _ (Below.alloc hH hH.size _) (fun hH0 => ?_)
            clear hK0 K0
            try simp only [List.set_cons_succ, List.set_cons_zero]
            refine wpAnyH_ready (rs := [2, 4]) (by kernel_rfl) (by simp) ?_
            refine AllReadyH.cons rfl (fun K2 hK2 => ?_) (AllReadyH.cons rfl (fun K4 hK4 => ?_) AllReadyH.nil)
            · refine step_append_row (base := w1.heap.size) elTerm (by rfl) _ _ (by rfl) (by rfl) (l := []) (Own.empty (heap_alloc_new w1.drew _) (by simp)) (by rfl) (HBR.out _ hH0) (by rw [HLN.out]; exact HNP.out.1) (by have := HNP.out.2; rw [HLN.out]; unfold maxLen; simp only [List.length_nil]; omega) (by have := HNP.out.2; rw [HLN.out]; simp only [List.length_nil]; omega) hH0.size ?_
              intro g2 c2 w2 hown2 hg2
              have hb2 : Below w1.heap.size w1 w2 := hH0.trans (Below.grown (Below.refl _ _) hg2 hH0.size (fun k e => by simp [Value.ownBlock] at e; omega))
              rw [HLN.out] at hown2 ⊢
              simp only [List.length_nil, Nat.zero_add, List.nil_append] at hown2 ⊢
              refine hK2.out _ _ (hb2) (fun hH2 => ?_)
              clear hK2 K2
              try simp only [List.set_cons_succ, List.set_cons_zero]
              refine wpAnyH_ready (rs := [4]) (by kernel_rfl) (by simp) ?_
              refine AllReadyH.cons rfl (fun K4 hK4 => ?_) AllReadyH.nil
              go_simp
              refine hK4.out _ _ (Below.alloc hH2 hH2.size _) (fun hH4 => ?_)
              clear hK4 K4
              try simp only [List.set_cons_succ, List.set_cons_zero]
              refine wpAnyH_ready (rs := [5]) (by kernel_rfl) (by simp) ?_
              refine AllReadyH.cons rfl (fun K5 hK5 => ?_) AllReadyH.nil
              refine step_append_row (base := w1.heap.size) elTerm (by rfl) _ _ (by rfl) (by rfl) (l := l1) (hown2.alloc (tmO' t)) (by rfl) (Tms.one (heap_alloc_new _ _)) (by simp) (by have := HNP.out.2; rw [HLN.out]; unfold maxLen; simp only [List.length_singleton]; omega) (by have := HNP.out.2; rw [HLN.out]; simp only [List.length_singleton]; omega) hH4.size ?_
              intro g3 c3 w3 hown3 hg3
              have hb3 : Below w1.heap.size w1 w3 := hH4.trans (Own.kept (hown2.alloc (tmO' t)) hg3 hH4.size)
              rw [HLN.out] at hown3 ⊢
              simp only [List.length_singleton] at hown3 ⊢
              refine hK5.out _ _ (hb3) (fun hH5 => ?_)
              clear hK5 K5
              try simp only [List.set_cons_succ, List.set_cons_zero]
              refine wpAnyH_ready (rs := [6]) (by kernel_rfl) (by simp) ?_
              refine AllReadyH.cons rfl (fun K6 hK6 => ?_) AllReadyH.nil
              go_simp
              refine hK6.out _ _ (hb3) (fun hH6 => ?_)
              clear hK6 K6
              try simp only [List.set_cons_succ, List.set_cons_zero]
              refine wpAnyH_done (by kernel_rfl) ?_ _
              go_wp2_with fail
              go_meet
              exact ⟨g3, c3, rfl, Lib.hid hown3, Lib.hid hb3⟩
            · go_simp
              refine hK4.out _ _ (Below.alloc hH0 hH0.size _) (fun hH4 => ?_)
              clear hK4 K4
              try simp only [List.set_cons_succ, List.set_cons_zero]
              refine wpAnyH_ready (rs := [2]) (by kernel_rfl) (by simp) ?_
              refine AllReadyH.cons rfl (fun K2 hK2 => ?_) AllReadyH.nil
              refine step_append_row (base := w1.heap.size) elTerm (by rfl) _ _ (by rfl) (by rfl) (l := []) (Own.empty (heap_two1 w1 _ _) (by simp)) (by rfl) (HBR.out _ hH4) (by rw [HLN.out]; exact HNP.out.1) (by have := HNP.out.2; rw [HLN.out]; unfold maxLen; simp only [List.length_nil]; omega) (by have := HNP.out.2; rw [HLN.out]; simp only [List.length_nil]; omega) hH4.size ?_
              intro g2 c2 w2 hown2 hg2
              have hb2 : Below w1.heap.size w1 w2 := hH4.trans (Below.grown (Below.refl _ _) hg2 hH4.size (fun k e => by simp [Value.ownBlock] at e; omega))
              have hT2 : w2.heap[w1.heap.size + 1]? = some (tmO' t) := (hg2.block _ (by simp <;> omega) (by simp [Value.ownBlock])).trans ((heap_two2 w1 _ _))
              rw [HLN.out] at hown2 ⊢
              simp only [List.length_nil, Nat.zero_add, List.nil_append] at hown2 ⊢
              refine hK2.out _ _ (hb2) (fun hH2 => ?_)
              clear hK2 K2
              try simp only [List.set_cons_succ, List.set_cons_zero]
              refine wpAnyH_ready (rs := [5]) (by kernel_rfl) (by simp) ?_
              refine AllReadyH.cons rfl (fun K5 hK5 => ?_) AllReadyH.nil
              refine step_append_row (base := w1.heap.size) elTerm (by rfl) _ _ (by rfl) (by rfl) (l := l1) (hown2) (by rfl) (Tms.one hT2) (by simp) (by have := HNP.out.2; rw [HLN.out]; unfold maxLen; simp only [List.length_singleton]; omega) (by have := HNP.out.2; rw [HLN.out]; simp only [List.length_singleton]; omega) hH2.size ?_
              intro g3 c3 w3 hown3 hg3
              have hb3 : Below w1.heap.size w1 w3 := hH2.trans (Own.kept (hown2) hg3 hH2.size)
              rw [HLN.out] at hown3 ⊢
              simp only [List.length_singleton] at hown3 ⊢
              refine hK5.out _ _ (hb3) (fun hH5 => ?_)
              clear hK5 K5
              try simp only [List.set_cons_succ, List.set_cons_zero]
              refine wpAnyH_ready (rs := [6]) (by kernel_rfl) (by simp) ?_
              refine AllReadyH.cons rfl (fun K6 hK6 => ?_) AllReadyH.nil
              go_simp
              refine hK6.out _ _ (hb3) (fun hH6 => ?_)
              clear hK6 K6
              try simp only [List.set_cons_succ, List.set_cons_zero]
              refine wpAnyH_done (by kernel_rfl) ?_ _
              go_wp2_with fail
              go_meet
              exact ⟨g3, c3, rfl, Lib.hid hown3, Lib.hid hb3⟩
          · go_simp
            refine hK4.out _ _ (Below.alloc hH hH.size _) (fun hH4 => ?_)
            clear hK4 K4
            try simp only [List.set_cons_succ, List.set_cons_zero]
            refine wpAnyH_ready (rs := [0]) (by kernel_rfl) (by simp) ?_
            refine AllReadyH.cons rfl (fun K0 hK0 => ?_) AllReadyH.nil
            go_simp
            refine hK0.out _ _ (Below.alloc hH4 hH4.size _) (fun hH0 => ?_)
            clear hK0 K0
            try simp only [List.set_cons_succ, List.set_cons_zero]
            refine wpAnyH_ready (rs := [2]) (by kernel_rfl) (by simp) ?_
            refine AllReadyH.cons rfl (fun K2 hK2 => ?_) AllReadyH.nil
            refine step_append_row (base := w1.heap.size) elTerm (by rfl) _ _ (by rfl) (by rfl) (l := []) (Own.empty (heap_two2 w1 _ _) (by simp)) (by rfl) (HBR.out _ hH0) (by rw [HLN.out]; exact HNP.out.1) (by have := HNP.out.2; rw [HLN.out]; unfold maxLen; simp only [List.length_nil]; omega) (by have := HNP.out.2; rw [HLN.out]; simp only [List.length_nil]; omega) hH0.size ?_
            intro g2 c2 w2 hown2 hg2
            have hb2 : Below w1.heap.size w1 w2 := hH0.trans (Below.grown (Below.refl _ _) hg2 hH0.size (fun k e => by simp [Value.ownBlock] at e; omega))
            have hT2 : w2.heap[w1.heap.size]? = some (tmO' t) := (hg2.block _ (by simp <;> omega) (by simp [Value.ownBlock])).trans ((heap_two1 w1 _ _))
            rw [HLN.out] at hown2 ⊢
            simp only [List.length_nil, Nat.zero_add, List.nil_append] at hown2 ⊢
            refine hK2.out _ _ (hb2) (fun hH2 => ?_)
            clear hK2 K2
            try simp only [List.set_cons_succ, List.set_cons_zero]
            refine wpAnyH_ready (rs := [5]) (by kernel_rfl) (by simp) ?_
            refine AllReadyH.cons rfl (fun K5 hK5 => ?_) AllReadyH.nil
            refine step_append_row (base := w1.heap.size) elTerm (by rfl) _ _ (by rfl) (by rfl) (l := l1) (hown2) (by rfl) (Tms.one hT2) (by simp) (by have := HNP.out.2; rw [HLN.out]; unfold maxLen; simp only [List.length_singleton]; omega) (by have := HNP.out.2; rw [HLN.out]; simp only [List.length_singleton]; omega) hH2.size ?_
            intro g3 c3 w3 hown3 hg3
            have hb3 : Below w1.heap.size w1 w3 := hH2.trans (Own.kept (hown2) hg3 hH2.size)
            rw [HLN.out] at hown3 ⊢
            simp only [List.length_singleton] at hown3 ⊢
            refine hK5.out _ _ (hb3) (fun hH5 => ?_)
            clear hK5 K5
            try simp only [List.set_cons_succ, List.set_cons_zero]
            refine wpAnyH_ready (rs := [6]) (by kernel_rfl) (by simp) ?_
            refine AllReadyH.cons rfl (fun K6 hK6 => ?_) AllReadyH.nil
            go_simp
            refine hK6.out _ _ (hb3) (fun hH6 => ?_)
            clear hK6 K6
            try simp only [List.set_cons_succ, List.set_cons_zero]
            refine wpAnyH_done (by kernel_rfl) ?_ _
            go_wp2_with fail
            go_meet
            exact ⟨g3, c3, rfl, Lib.hid hown3, Lib.hid hb3⟩
        case rest =>
          obtain ⟨g3, c3, rfl, HM3, HB3⟩ := hcut
          obtain ⟨gf, of, rfl, HXC⟩ : ∃ gf of, A1 = some ⟨gf, of, none⟩ ∧ Hid (∀ W, Below w1.heap.size w1 W → Tm11 W gf of x0) := by
            obtain ⟨g', o', c', hv, h1, h2, h3, h4⟩ := (HBR.out w1 (Below.refl _ _)).opened (by rw [HLN.out]; exact HNP.out.1)
            injection hv with e1 _ _
            refine ⟨g', o', e1, Lib.hid (fun W hW => ?_)⟩
            have h5 := (h4 0 x0 (by rw [E0.out]; rfl)).tm
            simp only [Nat.zero_mul, Nat.add_zero] at h5
            exact h5.low h3 hW
          have HK0 : Hid (l1[0]? = some x0) := Lib.hid (by rw [E0.out]; rfl)
          have HMR : Hid (Tms wc (.slice (some ⟨g3, 0, none⟩) (n + 1) c3) (l1 ++ [t])) := Lib.hid (HM3.out.row tmc_len)
          clear HM3
          have HO4 : Hid (OwnT wc.heap.size (wc.alloc (.cells #[] 37)) (.slice (some ⟨wc.heap.size, 0, none⟩) 0 0) []) := Lib.hid (Own.lit (l := []) tmc_len wc #[] (Nat.le_refl _) (Nat.zero_le _) rfl)
          have HR4 : Hid (Tms (wc.alloc (.cells #[] 37)) (.slice (some ⟨gf, of, none⟩) n c1) l1) := Lib.hid (HBR.out _ (HB3.out.alloc HB3.out.size _))
          go_wp2_with (at_builtin; refine wpList_append_row (base := wc.heap.size) elTerm rfl _ _ rfl rfl HO4.out rfl HR4.out ?_ ?_ ?_ ?_)
          · have := HNP.out.2; rw [HLN.out]; unfold maxLen; simp only [List.length_nil]; omega
          · have := HNP.out.2; rw [HLN.out]; simp only [List.length_nil]; omega
          · simp
          intro A4 c4 w4 hown4 hg4 _
          have HB4 : Hid (Below wc.heap.size wc w4) := Lib.hid (((Below.refl _ _).alloc (Nat.le_refl _) _).trans (HO4.out.kept hg4 (by simp)))
          have HN4 : Hid (OwnT wc.heap.size w4 (.slice A4 n c4) l1) := Lib.hid (by have h := hown4; simp only [HLN.out] at h; exact h)
          try simp only [HLN.out]
          clear hown4 hg4 HO4 HR4
          obtain ⟨g4, rfl, HG4⟩ : ∃ g4, A4 = some ⟨g4, 0, none⟩ ∧ Hid (wc.heap.size ≤ g4 ∧ g4 < w4.heap.size ∧ n ≤ c4) := by
            obtain ⟨g', cap, hv, h1, h2⟩ := HN4.out.opened (by rw [HLN.out]; exact HNP.out.1)
            injection hv with e1 _ e3
            exact ⟨g', e1, Lib.hid ⟨h1, h2, HN4.out.cap.2.1⟩⟩
          have HC4 := Lib.hid (HB3.out.trans (HB4.out.mono HB3.out.size))
          obtain ⟨y0, y1, y2, y3, y4, y5, y6, y7, y8, y9, y10⟩ := HXC.out w4 HC4.out
          have HTH4 : Hid (∀ ob : Obj, (w4.alloc ob).there g4 0 11) := Lib.hid (fun ob => by
            have h : OwnT wc.heap.size (w4.alloc ob) (.slice (some ⟨g4, 0, none⟩) l1.length c4) l1 := by rw [HLN.out]; exact HN4.out.alloc ob
            have := Own.there tmc_len h HK0.out
            simpa using this)
          have HPU4 : Hid (∀ ob : Obj, Tms ((w4.alloc ob).setCells g4 0 (tmc (nmA x0))) (.slice (some ⟨g4, 0, none⟩) n c4) (nmA x0 :: r0)) := Lib.hid (fun ob => by
            have h : OwnT wc.heap.size (w4.alloc ob) (.slice (some ⟨g4, 0, none⟩) l1.length c4) l1 := by rw [HLN.out]; exact HN4.out.alloc ob
            have h2 := (Own.puts (y := nmA x0) tmc_len h HK0.out).row tmc_len
            rw [HLN.out, E0.out] at h2
            simpa using h2)
          have HBU4 : Hid (∀ ob : Obj, Below wc.heap.size wc ((w4.alloc ob).setCells g4 0 (tmc (nmA x0)))) := Lib.hid (fun ob => Below.setCells HG4.out.1 _ _ (HB4.out.alloc HB4.out.size ob))
          have hz4 : 0 < n := HNP.out.1
          have hzc4 : 0 < c4 := Nat.lt_of_lt_of_le hz4 HG4.out.2.2
          go_upto_region 7 with fail
          go_upto_region 8 with (with_reducible refine wpList_store_term rfl _ _ rfl g4 0 (nmA x0) ?sx ?sy (HTH4.out _) ?sz)
          case sx => rfl
          case sy => rfl
          case sz =>
            have HN5' := HPU4.out (.cells #[.int .i64 x0.op, .int .i64 x0.many, .string ⟨#[97]⟩, .string ⟨x0.s.toArray⟩, .int .i64 x0.n, .int .i64 x0.c.kind, .int .i64 x0.c.many, .string ⟨x0.c.name.toArray⟩, .string ⟨x0.c.s.toArray⟩, .bool x0.c.neg, .int .i64 x0.c.e] 37)
            have HB5' := HBU4.out (.cells #[.int .i64 x0.op, .int .i64 x0.many, .string ⟨#[97]⟩, .string ⟨x0.s.toArray⟩, .int .i64 x0.n, .int .i64 x0.c.kind, .int .i64 x0.c.many, .string ⟨x0.c.name.toArray⟩, .string ⟨x0.c.s.toArray⟩, .bool x0.c.neg, .int .i64 x0.c.e] 37)
            clear y0 y1 y2 y3 y4 y5 y6 y7 y8 y9 y10 HTH4 HPU4 HBU4
            generalize (w4.alloc (.cells #[.int .i64 x0.op, .int .i64 x0.many, .string ⟨#[97]⟩, .string ⟨x0.s.toArray⟩, .int .i64 x0.n, .int .i64 x0.c.kind, .int .i64 x0.c.many, .string ⟨x0.c.name.toArray⟩, .string ⟨x0.c.s.toArray⟩, .bool x0.c.neg, .int .i64 x0.c.e] 37)).setCells g4 0 (tmc (nmA x0)) = w5 at HN5' HB5' ⊢
            have HN5 := Lib.hid HN5'
            have HB5 := Lib.hid HB5'
            have HM5 := Lib.hid (HMR.out.below HB5.out)
            have HC5 := Lib.hid (HB3.out.trans (HB5.out.mono HB3.out.size))
            clear HN5' HB5' HN4 HB4 HC4 HMR
            have HO6 : Hid (OwnT w5.heap.size (w5.alloc (.cells #[] 37)) (.slice (some ⟨w5.heap.size, 0, none⟩) 0 0) []) := Lib.hid (Own.lit (l := []) tmc_len w5 #[] (Nat.le_refl _) (Nat.zero_le _) rfl)
            have HR6 : Hid (Tms (w5.alloc (.cells #[] 37)) (.slice (some ⟨gf, of, none⟩) n c1) l1) := Lib.hid (HBR.out _ (HC5.out.alloc HC5.out.size _))
            go_wp2_with (at_builtin; refine wpList_append_row (base := w5.heap.size) elTerm rfl _ _ rfl rfl HO6.out rfl HR6.out ?_ ?_ ?_ ?_)
            · have := HNP.out.2; rw [HLN.out]; unfold maxLen; simp only [List.length_nil]; omega
            · have := HNP.out.2; rw [HLN.out]; simp only [List.length_nil]; omega
            · simp
            intro A6 c6 w6 hown6 hg6 _
            have HB6 : Hid (Below w5.heap.size w5 w6) := Lib.hid (((Below.refl _ _).alloc (Nat.le_refl _) _).trans (HO6.out.kept hg6 (by simp)))
            have HN6 : Hid (OwnT w5.heap.size w6 (.slice A6 n c6) l1) := Lib.hid (by have h := hown6; simp only [HLN.out] at h; exact h)
            try simp only [HLN.out]
            clear hown6 hg6 HO6 HR6
            obtain ⟨g6, rfl, HG6⟩ : ∃ g6, A6 = some ⟨g6, 0, none⟩ ∧ Hid (w5.heap.size ≤ g6 ∧ g6 < w6.heap.size ∧ n ≤ c6) := by
              obtain ⟨g', cap, hv, h1, h2⟩ := HN6.out.opened (by rw [HLN.out]; exact HNP.out.1)
              injection hv with e1 _ e3
              exact ⟨g', e1, Lib.hid ⟨h1, h2, HN6.out.cap.2.1⟩⟩
            have HC6 := Lib.hid (HC5.out.trans (HB6.out.mono HC5.out.size))
            obtain ⟨y0, y1, y2, y3, y4, y5, y6, y7, y8, y9, y10⟩ := HXC.out w6 HC6.out
            have HTH6 : Hid (∀ ob : Obj, (w6.alloc ob).there g6 0 11) := Lib.hid (fun ob => by
              have h : OwnT w5.heap.size (w6.alloc ob) (.slice (some ⟨g6, 0, none⟩) l1.length c6) l1 := by rw [HLN.out]; exact HN6.out.alloc ob
              have := Own.there tmc_len h HK0.out
              simpa using this)
            have HPU6 : Hid (∀ ob : Obj, Tms ((w6.alloc ob).setCells g6 0 (tmc (opT x0 op))) (.slice (some ⟨g6, 0, none⟩) n c6) (opT x0 op :: r0)) := Lib.hid (fun ob => by
              have h : OwnT w5.heap.size (w6.alloc ob) (.slice (some ⟨g6, 0, none⟩) l1.length c6) l1 := by rw [HLN.out]; exact HN6.out.alloc ob
              have h2 := (Own.puts (y := opT x0 op) tmc_len h HK0.out).row tmc_len
              rw [HLN.out, E0.out] at h2
              simpa using h2)
            have HBU6 : Hid (∀ ob : Obj, Below w5.heap.size w5 ((w6.alloc ob).setCells g6 0 (tmc (opT x0 op)))) := Lib.hid (fun ob => Below.setCells HG6.out.1 _ _ (HB6.out.alloc HB6.out.size ob))
            have hz6 : 0 < n := HNP.out.1
            have hzc6 : 0 < c6 := Nat.lt_of_lt_of_le hz6 HG6.out.2.2
            go_upto_region 11 with fail
            go_upto_region 12 with (with_reducible refine wpList_store_term rfl _ _ rfl g6 0 (opT x0 op) ?sx ?sy (HTH6.out _) ?sz)
            case sx => rfl
            case sy => rfl
            case sz =>
              have HN7' := HPU6.out (.cells #[.int .i64 op, .int .i64 x0.many, .string ⟨x0.name.toArray⟩, .string ⟨x0.s.toArray⟩, .int .i64 x0.n, .int .i64 x0.c.kind, .int .i64 x0.c.many, .string ⟨x0.c.name.toArray⟩, .string ⟨x0.c.s.toArray⟩, .bool x0.c.neg, .int .i64 x0.c.e] 37)
              have HB7' := HBU6.out (.cells #[.int .i64 op, .int .i64 x0.many, .string ⟨x0.name.toArray⟩, .string ⟨x0.s.toArray⟩, .int .i64 x0.n, .int .i64 x0.c.kind, .int .i64 x0.c.many, .string ⟨x0.c.name.toArray⟩, .string ⟨x0.c.s.toArray⟩, .bool x0.c.neg, .int .i64 x0.c.e] 37)
              clear y0 y1 y2 y3 y4 y5 y6 y7 y8 y9 y10 HTH6 HPU6 HBU6
              generalize (w6.alloc (.cells #[.int .i64 op, .int .i64 x0.many, .string ⟨x0.name.toArray⟩, .string ⟨x0.s.toArray⟩, .int .i64 x0.n, .int .i64 x0.c.kind, .int .i64 x0.c.many, .string ⟨x0.c.name.toArray⟩, .string ⟨x0.c.s.toArray⟩, .bool x0.c.neg, .int .i64 x0.c.e] 37)).setCells g6 0 (tmc (opT x0 op)) = w7 at HN7' HB7' ⊢
              have HO7 := Lib.hid HN7'
              have HB7 := Lib.hid HB7'
              have HM7 := Lib.hid (HM5.out.below HB7.out)
              have HN7 := Lib.hid (HN5.out.below HB7.out)
              have HC7 := Lib.hid (HB1.out.trans ((HC5.out.trans (HB7.out.mono HC5.out.size)).mono HB1.out.size))
              have HXO7 := Lib.hid (HXC.out w7 (HC5.out.trans (HB7.out.mono HC5.out.size))).c0
              clear HN7' HB7' HN6 HB6 HC6 HM5 HN5 HXC
              have HAL7 : Hid (∀ W, Below w7.heap.size w7 W → Calls Tryz.prog 16 #[] W fun e w' => e = .returned (.bool true) ∧ Below W.heap.size W w') := Lib.hid (fun W hW => HAL.out W (HC7.out.trans (hW.mono HC7.out.size)))
              have HPV : Hid (∀ W, Below w7.heap.size w7 W → Pv W) := Lib.hid (fun W hW => (HT.out.below (HC7.out.trans (hW.mono HC7.out.size))).pv)
              obtain ⟨m, hm⟩ : ∃ m, n = m + 1 := ⟨n - 1, by have := HNP.out.1; omega⟩
              have HMN := Lib.hid hm
              have hL1 : l1.length = m + 1 := HLN.out.trans hm
              have HRM : Hid (∀ W, Below w7.heap.size w7 W → Calls Tryz.prog 18 #[.slice (some ⟨g3, 0, none⟩) (m + 1 + 1) c3] W fun e w' => e = .returned (.bool false) ∧ Below W.heap.size W w') := Lib.hid (fun W hW => by
                have h1 := HM7.out.below hW
                rw [hm] at h1
                have h2 := tright_any _ (l1 ++ [t]) W h1 (by simp; have := HNP.out.2; omega) HFM.out (HPV.out W hW)
                have h3 := right_more FT.out t
                rw [← E1.out] at h3
                rwa [h3] at h2)
              have HRL : Hid (∀ W, Below w7.heap.size w7 W → Calls Tryz.prog 18 #[.slice (some ⟨gf, of, none⟩) m c1] W fun e w' => e = .returned (.bool false) ∧ Below W.heap.size W w') := Lib.hid (fun W hW => by
                have h0 := (H1.out.below HC7.out).below hW
                have hcm : m ≤ c1 := by obtain ⟨A', c', hv, hc', -⟩ := h0; injection hv with _ _ e3; omega
                rw [← HLN.out] at h0
                have h1 := h0.pc 0 m c1 (by omega) hcm (Nat.le_refl _)
                rw [Nat.zero_mul, Nat.add_zero, List.drop_zero] at h1
                have h2 := tright_any _ (l1.take m) W h1 (by simp; have := HNP.out.2; omega) (fun x hx => HFX.out x (List.mem_of_mem_take hx)) (HPV.out W hW)
                have h3 := right_less FT.out
                rw [← E1.out, hL1, Nat.add_sub_cancel] at h3
                rwa [h3] at h2)
              have HRN : Hid (∀ W, Below w7.heap.size w7 W → Calls Tryz.prog 18 #[.slice (some ⟨g4, 0, none⟩) (m + 1) c4] W fun e w' => e = .returned (.bool false) ∧ Below W.heap.size W w') := Lib.hid (fun W hW => by
                have h1 := HN7.out.below hW
                rw [hm] at h1
                have h2 := tright_any _ (nmA x0 :: r0) W h1 (by have := congrArg List.length E0.out; have h9 := HNP.out.2; simp at this ⊢; omega) (fun x hx => by
                  rcases List.mem_cons.1 hx with h | h
                  · rw [h]; exact ⟨HX0.out.s, by show 1 ≤ _; decide, HX0.out.c, HX0.out.many⟩
                  · exact HFX.out x (by rw [E0.out]; simp [h])) (HPV.out W hW)
                have h3 : rightF (nmA x0 :: r0) = false := right_name (by simp [nmA])
                rwa [h3] at h2)
              have HRO : Hid (¬ (0 ≤ op ∧ op ≤ 15) → ∀ W, Below w7.heap.size w7 W → Calls Tryz.prog 18 #[.slice (some ⟨g6, 0, none⟩) (m + 1) c6] W fun e w' => e = .returned (.bool false) ∧ Below W.heap.size W w') := Lib.hid (fun hno W hW => by
                have h1 := HO7.out.below hW
                rw [hm] at h1
                have h2 := tright_any _ (opT x0 op :: r0) W h1 (by have := congrArg List.length E0.out; have h9 := HNP.out.2; simp at this ⊢; omega) (fun x hx => by
                  rcases List.mem_cons.1 hx with h | h
                  · rw [h]; exact ⟨HX0.out.s, HX0.out.name, HX0.out.c, HX0.out.many⟩
                  · exact HFX.out x (by rw [E0.out]; simp [h])) (HPV.out W hW)
                have h3 : rightF (opT x0 op :: r0) = false := right_op (by simpa [opT] using hno)
                rwa [h3] at h2)
              generalize hq : (op == x0.op) = q
              have HRS : Hid (∀ W, Below w7.heap.size w7 W → Calls Tryz.prog 19 #[.slice (some ⟨gf, of, none⟩) (m + 1) c1, .slice (some ⟨g6, 0, none⟩) (m + 1) c6] W fun e w' => e = .returned (.bool q) ∧ Below W.heap.size W w') := Lib.hid (fun W hW => by
                have h0 := (H1.out.below HC7.out).below hW
                have h1 := HO7.out.below hW
                rw [hm] at h0 h1
                have h2 := tsame_any _ _ _ _ W h0 h1
                have h3 : decide (l1 = opT x0 op :: r0) = q := by
                  rw [E0.out, opT_same, ← hq]
                  by_cases h : op = x0.op <;> simp [h]
                rwa [h3] at h2)
              have HXO : Hid (∀ W, Below w7.heap.size w7 W → W.cell? ⟨gf, of, none⟩ = some (.int .i64 x0.op)) := Lib.hid (fun W hW => (hW.cell (World.block_lt_of_cell? _ _ HXO7.out)).trans HXO7.out)
              have hw : IntKind.i64.wrap (m : Int) = m := by
                have := HNP.out.2
                unfold IntKind.wrap IntKind.signed IntKind.bits
                simp only
                split
                · rename_i h; simp at h; omega
                · omega
              have hmc : m ≤ c1 := by
                have h0 := H1.out
                obtain ⟨A', c', hv, hc', -⟩ := h0
                injection hv with _ _ e3; omega
              have hm1 : (0 : Int) ≤ (m : Int) := by omega
              subst hm
              clear hL1
              by_cases ho0 : (0 : Int) ≤ op
              · by_cases ho1 : op ≤ 15
                · clear HRO
                  refine wp_region_held_drew (S := fun w' => Below w7.heap.size w7 w') (by kernel_rfl) ((Below.refl _ _).drew) (fun hH => ?_)
                  refine wpAnyH_ready (rs := [0]) (by kernel_rfl) (by simp) ?_
                  refine AllReadyH.cons rfl (fun K0 hK0 => ?_) AllReadyH.nil
                  go_simp
                  go_at_call 16
                  refine (HAL7.out _ hH).mono ?_
                  rintro e w100 ⟨rfl, hb100⟩
                  go_wp2_with fail
                  refine hK0.out _ _ (hH.trans (hb100.mono hH.size)) (fun hHeld0 => ?_)
                  clear hK0 K0
                  try simp only [List.set_cons_succ, List.set_cons_zero]
                  refine rtk 1 (.bool true) ?_ ?_
                  · intro w' hSw; go_simp
                  try simp only [List.set_cons_succ, List.set_cons_zero]
                  refine rtk 2 (.slice (some ⟨g3, 0, none⟩) (m + 1 + 1) c3) ?_ ?_
                  · intro w' hSw; go_simp
                  try simp only [List.set_cons_succ, List.set_cons_zero]
                  refine wpAnyH_ready (rs := [3]) (by kernel_rfl) (by simp) ?_
                  refine AllReadyH.cons rfl (fun K3 hK3 => ?_) AllReadyH.nil
                  go_simp
                  go_at_call 18
                  refine (HRM.out _ hHeld0).mono ?_
                  rintro e w103 ⟨rfl, hb103⟩
                  go_wp2_with fail
                  refine hK3.out _ _ (hHeld0.trans (hb103.mono hHeld0.size)) (fun hHeld3 => ?_)
                  clear hK3 K3
                  try simp only [List.set_cons_succ, List.set_cons_zero]
                  refine rtk 4 (.bool true) ?_ ?_
                  · intro w' hSw; go_simp
                  try simp only [List.set_cons_succ, List.set_cons_zero]
                  refine rtk 5 (.bool true) ?_ ?_
                  · intro w' hSw; go_simp
                  try simp only [List.set_cons_succ, List.set_cons_zero]
                  refine rtk 6 (.bool true) ?_ ?_
                  · intro w' hSw; go_simp
                  try simp only [List.set_cons_succ, List.set_cons_zero]
                  refine rtk 7 (.slice (some ⟨gf, of, none⟩) (m + 1) c1) ?_ ?_
                  · intro w' hSw; go_simp
                  try simp only [List.set_cons_succ, List.set_cons_zero]
                  refine rtk 8 (.slice (some ⟨gf, of, none⟩) (m + 1) c1) ?_ ?_
                  · intro w' hSw; go_simp
                  try simp only [List.set_cons_succ, List.set_cons_zero]
                  refine rtk 9 (.int .i64 ((m : Int) + 1)) ?_ ?_
                  · intro w' hSw; go_simp
                  try simp only [List.set_cons_succ, List.set_cons_zero]
                  refine rtk 10 (.int .i64 (m : Int)) ?_ ?_
                  · intro w' hSw; go_simp
                  try simp only [List.set_cons_succ, List.set_cons_zero]
                  refine rtk 11 (.slice (some ⟨gf, of, none⟩) m c1) ?_ ?_
                  · intro w' hSw; go_simp
                  try simp only [List.set_cons_succ, List.set_cons_zero]
                  refine wpAnyH_ready (rs := [12]) (by kernel_rfl) (by simp) ?_
                  refine AllReadyH.cons rfl (fun K12 hK12 => ?_) AllReadyH.nil
                  go_simp
                  go_at_call 18
                  refine (HRL.out _ hHeld3).mono ?_
                  rintro e w112 ⟨rfl, hb112⟩
                  go_wp2_with fail
                  refine hK12.out _ _ (hHeld3.trans (hb112.mono hHeld3.size)) (fun hHeld12 => ?_)
                  clear hK12 K12
                  try simp only [List.set_cons_succ, List.set_cons_zero]
                  refine rtk 13 (.bool true) ?_ ?_
                  · intro w' hSw; go_simp
                  try simp only [List.set_cons_succ, List.set_cons_zero]
                  refine rtk 14 (.bool true) ?_ ?_
                  · intro w' hSw; go_simp
                  try simp only [List.set_cons_succ, List.set_cons_zero]
                  refine rtk 15 (.bool true) ?_ ?_
                  · intro w' hSw; go_simp
                  try simp only [List.set_cons_succ, List.set_cons_zero]
                  refine rtk 16 (.slice (some ⟨g4, 0, none⟩) (m + 1) c4) ?_ ?_
                  · intro w' hSw; go_simp
                  try simp only [List.set_cons_succ, List.set_cons_zero]
                  refine wpAnyH_ready (rs := [17]) (by kernel_rfl) (by simp) ?_
                  refine AllReadyH.cons rfl (fun K17 hK17 => ?_) AllReadyH.nil
                  go_simp
                  go_at_call 18
                  refine (HRN.out _ hHeld12).mono ?_
                  rintro e w117 ⟨rfl, hb117⟩
                  go_wp2_with fail
                  refine hK17.out _ _ (hHeld12.trans (hb117.mono hHeld12.size)) (fun hHeld17 => ?_)
                  clear hK17 K17
                  try simp only [List.set_cons_succ, List.set_cons_zero]
                  refine rtk 18 (.bool true) ?_ ?_
                  · intro w' hSw; go_simp
                  try simp only [List.set_cons_succ, List.set_cons_zero]
                  refine rtk 19 (.bool true) ?_ ?_
                  · intro w' hSw; go_simp
                  try simp only [List.set_cons_succ, List.set_cons_zero]
                  refine rtk 20 (.bool true) ?_ ?_
                  · intro w' hSw; go_simp
                  try simp only [List.set_cons_succ, List.set_cons_zero]
                  refine rtk 21 (.int .i64 op) ?_ ?_
                  · intro w' hSw; go_simp
                  try simp only [List.set_cons_succ, List.set_cons_zero]
                  refine rtk 22 (.bool true) ?_ ?_
                  · intro w' hSw; go_simp
                  try simp only [List.set_cons_succ, List.set_cons_zero]
                  refine rtk 23 (.bool true) ?_ ?_
                  · intro w' hSw; go_simp
                  try simp only [List.set_cons_succ, List.set_cons_zero]
                  refine rtk 24 (.int .i64 op) ?_ ?_
                  · intro w' hSw; go_simp
                  try simp only [List.set_cons_succ, List.set_cons_zero]
                  refine rtk 25 (.bool true) ?_ ?_
                  · intro w' hSw; go_simp
                  try simp only [List.set_cons_succ, List.set_cons_zero]
                  refine rtk 26 (.bool true) ?_ ?_
                  · intro w' hSw; go_simp
                  try simp only [List.set_cons_succ, List.set_cons_zero]
                  refine rtk 27 (.bool true) ?_ ?_
                  · intro w' hSw; go_simp
                  try simp only [List.set_cons_succ, List.set_cons_zero]
                  refine rtn 28 ?_
                  try simp only [List.set_cons_succ, List.set_cons_zero]
                  refine rtn 29 ?_
                  try simp only [List.set_cons_succ, List.set_cons_zero]
                  refine rtn 30 ?_
                  try simp only [List.set_cons_succ, List.set_cons_zero]
                  refine rtk 31 (.bool true) ?_ ?_
                  · intro w' hSw; go_simp
                  try simp only [List.set_cons_succ, List.set_cons_zero]
                  refine rtk 32 (.bool true) ?_ ?_
                  · intro w' hSw; go_simp
                  try simp only [List.set_cons_succ, List.set_cons_zero]
                  refine rtk 33 (.bool true) ?_ ?_
                  · intro w' hSw; go_simp
                  try simp only [List.set_cons_succ, List.set_cons_zero]
                  refine rtk 34 (.slice (some ⟨gf, of, none⟩) (m + 1) c1) ?_ ?_
                  · intro w' hSw; go_simp
                  try simp only [List.set_cons_succ, List.set_cons_zero]
                  refine rtk 35 (.slice (some ⟨g6, 0, none⟩) (m + 1) c6) ?_ ?_
                  · intro w' hSw; go_simp
                  try simp only [List.set_cons_succ, List.set_cons_zero]
                  refine rtk 37 (.int .i64 op) ?_ ?_
                  · intro w' hSw; go_simp
                  try simp only [List.set_cons_succ, List.set_cons_zero]
                  refine rtk 38 (.slice (some ⟨gf, of, none⟩) (m + 1) c1) ?_ ?_
                  · intro w' hSw; go_simp
                  try simp only [List.set_cons_succ, List.set_cons_zero]
                  refine rtk 39 (.pointer (some ⟨gf, of, none⟩)) ?_ ?_
                  · intro w' hSw; go_simp
                  try simp only [List.set_cons_succ, List.set_cons_zero]
                  refine rtk 40 (.pointer (some ⟨gf, of, none⟩)) ?_ ?_
                  · intro w' hSw; go_simp
                  try simp only [List.set_cons_succ, List.set_cons_zero]
                  refine rtk 41 (.int .i64 x0.op) ?_ ?_
                  · intro w' hSw; have hxo := HXO.out w' hSw; go_simp
                  try simp only [List.set_cons_succ, List.set_cons_zero]
                  refine rtk 42 (.bool q) ?_ ?_
                  · intro w' hSw; go_simp
                  try simp only [List.set_cons_succ, List.set_cons_zero]
                  refine wpAnyH_ready (rs := [36]) (by kernel_rfl) (by simp) ?_
                  refine AllReadyH.cons rfl (fun K36 hK36 => ?_) AllReadyH.nil
                  go_simp
                  go_at_call 19
                  refine (HRS.out _ hHeld17).mono ?_
                  rintro e w136 ⟨rfl, hb136⟩
                  go_wp2_with fail
                  refine hK36.out _ _ (hHeld17.trans (hb136.mono hHeld17.size)) (fun hHeld36 => ?_)
                  clear hK36 K36
                  try simp only [List.set_cons_succ, List.set_cons_zero]
                  refine rtk 43 (.bool true) ?_ ?_
                  · intro w' hSw; go_simp
                  try simp only [List.set_cons_succ, List.set_cons_zero]
                  refine rtk 44 (.bool true) ?_ ?_
                  · intro w' hSw; go_simp
                  try simp only [List.set_cons_succ, List.set_cons_zero]
                  refine rtk 45 (.bool true) ?_ ?_
                  · intro w' hSw; go_simp
                  try simp only [List.set_cons_succ, List.set_cons_zero]
                  refine wpAnyH_done (by kernel_rfl) ?_ _
                  go_wp2_with fail
                  go_ret
                  exact ⟨rfl, HC7.out.trans (hHeld36.mono HC7.out.size)⟩
                · have HRO := Lib.hid (HRO.out (by omega))
                  refine wp_region_held_drew (S := fun w' => Below w7.heap.size w7 w') (by kernel_rfl) ((Below.refl _ _).drew) (fun hH => ?_)
                  refine wpAnyH_ready (rs := [0]) (by kernel_rfl) (by simp) ?_
                  refine AllReadyH.cons rfl (fun K0 hK0 => ?_) AllReadyH.nil
                  go_simp
                  go_at_call 16
                  refine (HAL7.out _ hH).mono ?_
                  rintro e w100 ⟨rfl, hb100⟩
                  go_wp2_with fail
                  refine hK0.out _ _ (hH.trans (hb100.mono hH.size)) (fun hHeld0 => ?_)
                  clear hK0 K0
                  try simp only [List.set_cons_succ, List.set_cons_zero]
                  refine rtk 1 (.bool true) ?_ ?_
                  · intro w' hSw; go_simp
                  try simp only [List.set_cons_succ, List.set_cons_zero]
                  refine rtk 2 (.slice (some ⟨g3, 0, none⟩) (m + 1 + 1) c3) ?_ ?_
                  · intro w' hSw; go_simp
                  try simp only [List.set_cons_succ, List.set_cons_zero]
                  refine wpAnyH_ready (rs := [3]) (by kernel_rfl) (by simp) ?_
                  refine AllReadyH.cons rfl (fun K3 hK3 => ?_) AllReadyH.nil
                  go_simp
                  go_at_call 18
                  refine (HRM.out _ hHeld0).mono ?_
                  rintro e w103 ⟨rfl, hb103⟩
                  go_wp2_with fail
                  refine hK3.out _ _ (hHeld0.trans (hb103.mono hHeld0.size)) (fun hHeld3 => ?_)
                  clear hK3 K3
                  try simp only [List.set_cons_succ, List.set_cons_zero]
                  refine rtk 4 (.bool true) ?_ ?_
                  · intro w' hSw; go_simp
                  try simp only [List.set_cons_succ, List.set_cons_zero]
                  refine rtk 5 (.bool true) ?_ ?_
                  · intro w' hSw; go_simp
                  try simp only [List.set_cons_succ, List.set_cons_zero]
                  refine rtk 6 (.bool true) ?_ ?_
                  · intro w' hSw; go_simp
                  try simp only [List.set_cons_succ, List.set_cons_zero]
                  refine rtk 7 (.slice (some ⟨gf, of, none⟩) (m + 1) c1) ?_ ?_
                  · intro w' hSw; go_simp
                  try simp only [List.set_cons_succ, List.set_cons_zero]
                  refine rtk 8 (.slice (some ⟨gf, of, none⟩) (m + 1) c1) ?_ ?_
                  · intro w' hSw; go_simp
                  try simp only [List.set_cons_succ, List.set_cons_zero]
                  refine rtk 9 (.int .i64 ((m : Int) + 1)) ?_ ?_
                  · intro w' hSw; go_simp
                  try simp only [List.set_cons_succ, List.set_cons_zero]
                  refine rtk 10 (.int .i64 (m : Int)) ?_ ?_
                  · intro w' hSw; go_simp
                  try simp only [List.set_cons_succ, List.set_cons_zero]
                  refine rtk 11 (.slice (some ⟨gf, of, none⟩) m c1) ?_ ?_
                  · intro w' hSw; go_simp
                  try simp only [List.set_cons_succ, List.set_cons_zero]
                  refine wpAnyH_ready (rs := [12]) (by kernel_rfl) (by simp) ?_
                  refine AllReadyH.cons rfl (fun K12 hK12 => ?_) AllReadyH.nil
                  go_simp
                  go_at_call 18
                  refine (HRL.out _ hHeld3).mono ?_
                  rintro e w112 ⟨rfl, hb112⟩
                  go_wp2_with fail
                  refine hK12.out _ _ (hHeld3.trans (hb112.mono hHeld3.size)) (fun hHeld12 => ?_)
                  clear hK12 K12
                  try simp only [List.set_cons_succ, List.set_cons_zero]
                  refine rtk 13 (.bool true) ?_ ?_
                  · intro w' hSw; go_simp
                  try simp only [List.set_cons_succ, List.set_cons_zero]
                  refine rtk 14 (.bool true) ?_ ?_
                  · intro w' hSw; go_simp
                  try simp only [List.set_cons_succ, List.set_cons_zero]
                  refine rtk 15 (.bool true) ?_ ?_
                  · intro w' hSw; go_simp
                  try simp only [List.set_cons_succ, List.set_cons_zero]
                  refine rtk 16 (.slice (some ⟨g4, 0, none⟩) (m + 1) c4) ?_ ?_
                  · intro w' hSw; go_simp
                  try simp only [List.set_cons_succ, List.set_cons_zero]
                  refine wpAnyH_ready (rs := [17]) (by kernel_rfl) (by simp) ?_
                  refine AllReadyH.cons rfl (fun K17 hK17 => ?_) AllReadyH.nil
                  go_simp
                  go_at_call 18
                  refine (HRN.out _ hHeld12).mono ?_
                  rintro e w117 ⟨rfl, hb117⟩
                  go_wp2_with fail
                  refine hK17.out _ _ (hHeld12.trans (hb117.mono hHeld12.size)) (fun hHeld17 => ?_)
                  clear hK17 K17
                  try simp only [List.set_cons_succ, List.set_cons_zero]
                  refine rtk 18 (.bool true) ?_ ?_
                  · intro w' hSw; go_simp
                  try simp only [List.set_cons_succ, List.set_cons_zero]
                  refine rtk 19 (.bool true) ?_ ?_
                  · intro w' hSw; go_simp
                  try simp only [List.set_cons_succ, List.set_cons_zero]
                  refine rtk 20 (.bool true) ?_ ?_
                  · intro w' hSw; go_simp
                  try simp only [List.set_cons_succ, List.set_cons_zero]
                  refine rtk 21 (.int .i64 op) ?_ ?_
                  · intro w' hSw; go_simp
                  try simp only [List.set_cons_succ, List.set_cons_zero]
                  refine rtk 22 (.bool true) ?_ ?_
                  · intro w' hSw; go_simp
                  try simp only [List.set_cons_succ, List.set_cons_zero]
                  refine rtk 23 (.bool true) ?_ ?_
                  · intro w' hSw; go_simp
                  try simp only [List.set_cons_succ, List.set_cons_zero]
                  refine rtk 24 (.int .i64 op) ?_ ?_
                  · intro w' hSw; go_simp
                  try simp only [List.set_cons_succ, List.set_cons_zero]
                  refine rtk 25 (.bool false) ?_ ?_
                  · intro w' hSw; go_simp
                  try simp only [List.set_cons_succ, List.set_cons_zero]
                  refine rtk 26 (.bool false) ?_ ?_
                  · intro w' hSw; go_simp
                  try simp only [List.set_cons_succ, List.set_cons_zero]
                  refine rtk 27 (.bool false) ?_ ?_
                  · intro w' hSw; go_simp
                  try simp only [List.set_cons_succ, List.set_cons_zero]
                  refine rtk 28 (.slice (some ⟨g6, 0, none⟩) (m + 1) c6) ?_ ?_
                  · intro w' hSw; go_simp
                  try simp only [List.set_cons_succ, List.set_cons_zero]
                  refine wpAnyH_ready (rs := [29]) (by kernel_rfl) (by simp) ?_
                  refine AllReadyH.cons rfl (fun K29 hK29 => ?_) AllReadyH.nil
                  go_simp
                  go_at_call 18
                  refine (HRO.out _ hHeld17).mono ?_
                  rintro e w129 ⟨rfl, hb129⟩
                  go_wp2_with fail
                  refine hK29.out _ _ (hHeld17.trans (hb129.mono hHeld17.size)) (fun hHeld29 => ?_)
                  clear hK29 K29
                  try simp only [List.set_cons_succ, List.set_cons_zero]
                  refine rtk 30 (.bool true) ?_ ?_
                  · intro w' hSw; go_simp
                  try simp only [List.set_cons_succ, List.set_cons_zero]
                  refine rtk 31 (.bool true) ?_ ?_
                  · intro w' hSw; go_simp
                  try simp only [List.set_cons_succ, List.set_cons_zero]
                  refine rtk 32 (.bool true) ?_ ?_
                  · intro w' hSw; go_simp
                  try simp only [List.set_cons_succ, List.set_cons_zero]
                  refine rtk 33 (.bool true) ?_ ?_
                  · intro w' hSw; go_simp
                  try simp only [List.set_cons_succ, List.set_cons_zero]
                  refine rtk 34 (.slice (some ⟨gf, of, none⟩) (m + 1) c1) ?_ ?_
                  · intro w' hSw; go_simp
                  try simp only [List.set_cons_succ, List.set_cons_zero]
                  refine rtk 35 (.slice (some ⟨g6, 0, none⟩) (m + 1) c6) ?_ ?_
                  · intro w' hSw; go_simp
                  try simp only [List.set_cons_succ, List.set_cons_zero]
                  refine rtk 37 (.int .i64 op) ?_ ?_
                  · intro w' hSw; go_simp
                  try simp only [List.set_cons_succ, List.set_cons_zero]
                  refine rtk 38 (.slice (some ⟨gf, of, none⟩) (m + 1) c1) ?_ ?_
                  · intro w' hSw; go_simp
                  try simp only [List.set_cons_succ, List.set_cons_zero]
                  refine rtk 39 (.pointer (some ⟨gf, of, none⟩)) ?_ ?_
                  · intro w' hSw; go_simp
                  try simp only [List.set_cons_succ, List.set_cons_zero]
                  refine rtk 40 (.pointer (some ⟨gf, of, none⟩)) ?_ ?_
                  · intro w' hSw; go_simp
                  try simp only [List.set_cons_succ, List.set_cons_zero]
                  refine rtk 41 (.int .i64 x0.op) ?_ ?_
                  · intro w' hSw; have hxo := HXO.out w' hSw; go_simp
                  try simp only [List.set_cons_succ, List.set_cons_zero]
                  refine rtk 42 (.bool q) ?_ ?_
                  · intro w' hSw; go_simp
                  try simp only [List.set_cons_succ, List.set_cons_zero]
                  refine wpAnyH_ready (rs := [36]) (by kernel_rfl) (by simp) ?_
                  refine AllReadyH.cons rfl (fun K36 hK36 => ?_) AllReadyH.nil
                  go_simp
                  go_at_call 19
                  refine (HRS.out _ hHeld29).mono ?_
                  rintro e w136 ⟨rfl, hb136⟩
                  go_wp2_with fail
                  refine hK36.out _ _ (hHeld29.trans (hb136.mono hHeld29.size)) (fun hHeld36 => ?_)
                  clear hK36 K36
                  try simp only [List.set_cons_succ, List.set_cons_zero]
                  refine rtk 43 (.bool true) ?_ ?_
                  · intro w' hSw; go_simp
                  try simp only [List.set_cons_succ, List.set_cons_zero]
                  refine rtk 44 (.bool true) ?_ ?_
                  · intro w' hSw; go_simp
                  try simp only [List.set_cons_succ, List.set_cons_zero]
                  refine rtk 45 (.bool true) ?_ ?_
                  · intro w' hSw; go_simp
                  try simp only [List.set_cons_succ, List.set_cons_zero]
                  refine wpAnyH_done (by kernel_rfl) ?_ _
                  go_wp2_with fail
                  go_ret
                  exact ⟨rfl, HC7.out.trans (hHeld36.mono HC7.out.size)⟩
              · have HRO := Lib.hid (HRO.out (by omega))
                refine wp_region_held_drew (S := fun w' => Below w7.heap.size w7 w') (by kernel_rfl) ((Below.refl _ _).drew) (fun hH => ?_)
                refine wpAnyH_ready (rs := [0]) (by kernel_rfl) (by simp) ?_
                refine AllReadyH.cons rfl (fun K0 hK0 => ?_) AllReadyH.nil
                go_simp
                go_at_call 16
                refine (HAL7.out _ hH).mono ?_
                rintro e w100 ⟨rfl, hb100⟩
                go_wp2_with fail
                refine hK0.out _ _ (hH.trans (hb100.mono hH.size)) (fun hHeld0 => ?_)
                clear hK0 K0
                try simp only [List.set_cons_succ, List.set_cons_zero]
                refine rtk 1 (.bool true) ?_ ?_
                · intro w' hSw; go_simp
                try simp only [List.set_cons_succ, List.set_cons_zero]
                refine rtk 2 (.slice (some ⟨g3, 0, none⟩) (m + 1 + 1) c3) ?_ ?_
                · intro w' hSw; go_simp
                try simp only [List.set_cons_succ, List.set_cons_zero]
                refine wpAnyH_ready (rs := [3]) (by kernel_rfl) (by simp) ?_
                refine AllReadyH.cons rfl (fun K3 hK3 => ?_) AllReadyH.nil
                go_simp
                go_at_call 18
                refine (HRM.out _ hHeld0).mono ?_
                rintro e w103 ⟨rfl, hb103⟩
                go_wp2_with fail
                refine hK3.out _ _ (hHeld0.trans (hb103.mono hHeld0.size)) (fun hHeld3 => ?_)
                clear hK3 K3
                try simp only [List.set_cons_succ, List.set_cons_zero]
                refine rtk 4 (.bool true) ?_ ?_
                · intro w' hSw; go_simp
                try simp only [List.set_cons_succ, List.set_cons_zero]
                refine rtk 5 (.bool true) ?_ ?_
                · intro w' hSw; go_simp
                try simp only [List.set_cons_succ, List.set_cons_zero]
                refine rtk 6 (.bool true) ?_ ?_
                · intro w' hSw; go_simp
                try simp only [List.set_cons_succ, List.set_cons_zero]
                refine rtk 7 (.slice (some ⟨gf, of, none⟩) (m + 1) c1) ?_ ?_
                · intro w' hSw; go_simp
                try simp only [List.set_cons_succ, List.set_cons_zero]
                refine rtk 8 (.slice (some ⟨gf, of, none⟩) (m + 1) c1) ?_ ?_
                · intro w' hSw; go_simp
                try simp only [List.set_cons_succ, List.set_cons_zero]
                refine rtk 9 (.int .i64 ((m : Int) + 1)) ?_ ?_
                · intro w' hSw; go_simp
                try simp only [List.set_cons_succ, List.set_cons_zero]
                refine rtk 10 (.int .i64 (m : Int)) ?_ ?_
                · intro w' hSw; go_simp
                try simp only [List.set_cons_succ, List.set_cons_zero]
                refine rtk 11 (.slice (some ⟨gf, of, none⟩) m c1) ?_ ?_
                · intro w' hSw; go_simp
                try simp only [List.set_cons_succ, List.set_cons_zero]
                refine wpAnyH_ready (rs := [12]) (by kernel_rfl) (by simp) ?_
                refine AllReadyH.cons rfl (fun K12 hK12 => ?_) AllReadyH.nil
                go_simp
                go_at_call 18
                refine (HRL.out _ hHeld3).mono ?_
                rintro e w112 ⟨rfl, hb112⟩
                go_wp2_with fail
                refine hK12.out _ _ (hHeld3.trans (hb112.mono hHeld3.size)) (fun hHeld12 => ?_)
                clear hK12 K12
                try simp only [List.set_cons_succ, List.set_cons_zero]
                refine rtk 13 (.bool true) ?_ ?_
                · intro w' hSw; go_simp
                try simp only [List.set_cons_succ, List.set_cons_zero]
                refine rtk 14 (.bool true) ?_ ?_
                · intro w' hSw; go_simp
                try simp only [List.set_cons_succ, List.set_cons_zero]
                refine rtk 15 (.bool true) ?_ ?_
                · intro w' hSw; go_simp
                try simp only [List.set_cons_succ, List.set_cons_zero]
                refine rtk 16 (.slice (some ⟨g4, 0, none⟩) (m + 1) c4) ?_ ?_
                · intro w' hSw; go_simp
                try simp only [List.set_cons_succ, List.set_cons_zero]
                refine wpAnyH_ready (rs := [17]) (by kernel_rfl) (by simp) ?_
                refine AllReadyH.cons rfl (fun K17 hK17 => ?_) AllReadyH.nil
                go_simp
                go_at_call 18
                refine (HRN.out _ hHeld12).mono ?_
                rintro e w117 ⟨rfl, hb117⟩
                go_wp2_with fail
                refine hK17.out _ _ (hHeld12.trans (hb117.mono hHeld12.size)) (fun hHeld17 => ?_)
                clear hK17 K17
                try simp only [List.set_cons_succ, List.set_cons_zero]
                refine rtk 18 (.bool true) ?_ ?_
                · intro w' hSw; go_simp
                try simp only [List.set_cons_succ, List.set_cons_zero]
                refine rtk 19 (.bool true) ?_ ?_
                · intro w' hSw; go_simp
                try simp only [List.set_cons_succ, List.set_cons_zero]
                refine rtk 20 (.bool true) ?_ ?_
                · intro w' hSw; go_simp
                try simp only [List.set_cons_succ, List.set_cons_zero]
                refine rtk 21 (.int .i64 op) ?_ ?_
                · intro w' hSw; go_simp
                try simp only [List.set_cons_succ, List.set_cons_zero]
                refine rtk 22 (.bool false) ?_ ?_
                · intro w' hSw; go_simp
                try simp only [List.set_cons_succ, List.set_cons_zero]
                refine rtk 23 (.bool false) ?_ ?_
                · intro w' hSw; go_simp
                try simp only [List.set_cons_succ, List.set_cons_zero]
                refine rtn 24 ?_
                try simp only [List.set_cons_succ, List.set_cons_zero]
                refine rtn 25 ?_
                try simp only [List.set_cons_succ, List.set_cons_zero]
                refine rtk 26 (.bool false) ?_ ?_
                · intro w' hSw; go_simp
                try simp only [List.set_cons_succ, List.set_cons_zero]
                refine rtk 27 (.bool false) ?_ ?_
                · intro w' hSw; go_simp
                try simp only [List.set_cons_succ, List.set_cons_zero]
                refine rtk 28 (.slice (some ⟨g6, 0, none⟩) (m + 1) c6) ?_ ?_
                · intro w' hSw; go_simp
                try simp only [List.set_cons_succ, List.set_cons_zero]
                refine wpAnyH_ready (rs := [29]) (by kernel_rfl) (by simp) ?_
                refine AllReadyH.cons rfl (fun K29 hK29 => ?_) AllReadyH.nil
                go_simp
                go_at_call 18
                refine (HRO.out _ hHeld17).mono ?_
                rintro e w129 ⟨rfl, hb129⟩
                go_wp2_with fail
                refine hK29.out _ _ (hHeld17.trans (hb129.mono hHeld17.size)) (fun hHeld29 => ?_)
                clear hK29 K29
                try simp only [List.set_cons_succ, List.set_cons_zero]
                refine rtk 30 (.bool true) ?_ ?_
                · intro w' hSw; go_simp
                try simp only [List.set_cons_succ, List.set_cons_zero]
                refine rtk 31 (.bool true) ?_ ?_
                · intro w' hSw; go_simp
                try simp only [List.set_cons_succ, List.set_cons_zero]
                refine rtk 32 (.bool true) ?_ ?_
                · intro w' hSw; go_simp
                try simp only [List.set_cons_succ, List.set_cons_zero]
                refine rtk 33 (.bool true) ?_ ?_
                · intro w' hSw; go_simp
                try simp only [List.set_cons_succ, List.set_cons_zero]
                refine rtk 34 (.slice (some ⟨gf, of, none⟩) (m + 1) c1) ?_ ?_
                · intro w' hSw; go_simp
                try simp only [List.set_cons_succ, List.set_cons_zero]
                refine rtk 35 (.slice (some ⟨g6, 0, none⟩) (m + 1) c6) ?_ ?_
                · intro w' hSw; go_simp
                try simp only [List.set_cons_succ, List.set_cons_zero]
                refine rtk 37 (.int .i64 op) ?_ ?_
                · intro w' hSw; go_simp
                try simp only [List.set_cons_succ, List.set_cons_zero]
                refine rtk 38 (.slice (some ⟨gf, of, none⟩) (m + 1) c1) ?_ ?_
                · intro w' hSw; go_simp
                try simp only [List.set_cons_succ, List.set_cons_zero]
                refine rtk 39 (.pointer (some ⟨gf, of, none⟩)) ?_ ?_
                · intro w' hSw; go_simp
                try simp only [List.set_cons_succ, List.set_cons_zero]
                refine rtk 40 (.pointer (some ⟨gf, of, none⟩)) ?_ ?_
                · intro w' hSw; go_simp
                try simp only [List.set_cons_succ, List.set_cons_zero]
                refine rtk 41 (.int .i64 x0.op) ?_ ?_
                · intro w' hSw; have hxo := HXO.out w' hSw; go_simp
                try simp only [List.set_cons_succ, List.set_cons_zero]
                refine rtk 42 (.bool q) ?_ ?_
                · intro w' hSw; go_simp
                try simp only [List.set_cons_succ, List.set_cons_zero]
                refine wpAnyH_ready (rs := [36]) (by kernel_rfl) (by simp) ?_
                refine AllReadyH.cons rfl (fun K36 hK36 => ?_) AllReadyH.nil
                go_simp
                go_at_call 19
                refine (HRS.out _ hHeld29).mono ?_
                rintro e w136 ⟨rfl, hb136⟩
                go_wp2_with fail
                refine hK36.out _ _ (hHeld29.trans (hb136.mono hHeld29.size)) (fun hHeld36 => ?_)
                clear hK36 K36
                try simp only [List.set_cons_succ, List.set_cons_zero]
                refine rtk 43 (.bool true) ?_ ?_
                · intro w' hSw; go_simp
                try simp only [List.set_cons_succ, List.set_cons_zero]
                refine rtk 44 (.bool true) ?_ ?_
                · intro w' hSw; go_simp
                try simp only [List.set_cons_succ, List.set_cons_zero]
                refine rtk 45 (.bool true) ?_ ?_
                · intro w' hSw; go_simp
                try simp only [List.set_cons_succ, List.set_cons_zero]
                refine wpAnyH_done (by kernel_rfl) ?_ _
                go_wp2_with fail
                go_ret
                exact ⟨rfl, HC7.out.trans (hHeld36.mono HC7.out.size)⟩
      · have hn1 : decide ((100 : Int) < (t.name.length : Int)) = true := by simp; omega
        go_wp2_with fail
        refine (HAL.out _ HB1.out).mono ?_
        rintro e w2 ⟨rfl, hb2⟩
        go_wp2_with fail
        go_ret
        exact ⟨rfl, HB1.out.trans (hb2.mono HB1.out.size)⟩
    · have hs1 : decide ((100 : Int) < (t.s.length : Int)) = true := by simp; omega
      go_wp2_with fail
      refine (HAL.out _ HB1.out).mono ?_
      rintro e w2 ⟨rfl, hb2⟩
      go_wp2_with fail
      go_ret
      exact ⟨rfl, HB1.out.trans (hb2.mono HB1.out.size)⟩
end Go.Proofs.YtmajkafoenfceaaGreatDoor

/-
  The statement TermSpoilt holds: called with any filter, any term and any number, whatever lies in memory, it returns true, and each argument reads as it read before. Conditions: the listed variables of the library (two tables of bits, one of powers of ten, two of UTF-8, strconv's two errors) read as the program's text lays them (the tie is given).
-/
namespace Go.Proofs.YtmajkafoenfceaaGreatDoor
open Go.ChangeShapes Go.WideShapes Go.ChangeAt Go.RowKit Go.ChangeMaps Pw

set_option maxRecDepth 100000 in
theorem termSpoilt_lifted (os : Os) (started : os.Started) (H : Type) (enc : TypeId × Value → H) :
    ReturnsInHanded {} Tryz.checked os 7 .any (fun w args => (Rows.termSpoiltSpec.pre enc Tryz.prog Tryz.f7 [] false w args ∧ laidMetH Tryz.prog seatLaid w) ∧ sizedMet enc Tryz.prog Tryz.f7 (OpenSpec.ofChange Rows.termSpoiltSpec) false w args)
      (Rows.termSpoiltSpec.post enc Tryz.prog Tryz.f7 false true false false) := by
  refine returnsInHanded_of_change_and (C := Tryz.checked) (X := fun w _ => laidMetH Tryz.prog seatLaid w) (fun _ _ _ hh h => h.of_heap hh) ownKn started (by kernel_rfl) Tryz.func7
    (ChangeSpec.witness_shaped (enc := enc) (C := Tryz.checked) (os := os) (X := fun w _ => laidMetH Tryz.prog seatLaid w) false (World.laidAll Tryz.prog os seatLaid)
      #[.slice none 0 0, .agg #[.int .i64 0, .int .i64 0, .string ⟨#[]⟩, .string ⟨#[]⟩, .int .i64 0, .int .i64 0, .int .i64 0, .string ⟨#[]⟩, .string ⟨#[]⟩, .bool false, .int .i64 0], .int .i64 0] 8 (World.laidAll_os _ _ _)
      (World.shaped_of_ZipB (by kernel_rfl) (by kernel_rfl)) (by kernel_rfl) (by kernel_rfl) (by kernel_rfl) (laid_met os _)) ?_
  intro W base args ds gs before hval0 hW _ hwt0 hL _
  have hval : ∀ (j : Nat) t v, Tryz.f7.params[j]? = some t → args[j]? = some v → Value.okWide Tryz.prog W .any base t v := hval0
  have hW' := hW
  obtain ⟨p, q, hA0, hV, rfl, _, _⟩ := hW
  have hA : DataW.TrodAll enc Tryz.prog W 0 (fun _ => true) true Tryz.f7.params.toList args.toList ds p := hA0
  have hwt : (DataW.weightsEach Tryz.prog (Tryz.f7.params.toList ++ Rows.termSpoiltSpec.plain.varTypes Tryz.prog) (ds ++ gs)).all (· ≤ reachBytes) = true := hwt0
  rw [Tryz.params7] at hA hval
  obtain ⟨v0, v1, v2, d0, d1, d2, p0, p1, p2, rfl, rfl, rfl, h0, h1, h2⟩ := trodAll_three hA
  obtain ⟨rfl, rfl⟩ := trodVars_none hV
  obtain ⟨p0, hp0, hs0⟩ := open_filter (base := 0) (sp := fun _ => true) (held := true) (hval 0 _ v0 rfl rfl) h0
  obtain ⟨p1, rfl, hs1⟩ := open_term (base := 0) (sp := fun _ => true) (held := true) (hval 1 _ v1 rfl rfl) h1
  obtain ⟨n2, rfl, -, -, -⟩ := open_int Tryz.underlying3 (hval 2 _ v2 rfl rfl) h2
  refine (termSpoilt_any v0 p0 p1 n2 W hp0 hs0 hs1 (fv_of_laid hL)).mono fun e W' ⟨he, hb⟩ => ?_
  subst he
  exact ⟨_, rfl, law_post (tb := 4) laidOut hW' rfl Tryz.underlying4 (by kernel_rfl) rfl (by
    rw [Tryz.params7]
    intro t ht
    have hall : ([23, 37, 3].all fun t => Tryz.prog.readableRec t && decide (t < Tryz.prog.types.size)) = true := by kernel_rfl
    obtain ⟨h1, h2⟩ := Bool.and_eq_true_iff.1 (List.all_eq_true.1 hall t ht)
    exact ⟨h1, of_decide_eq_true h2⟩) hb⟩

end Go.Proofs.YtmajkafoenfceaaGreatDoor
