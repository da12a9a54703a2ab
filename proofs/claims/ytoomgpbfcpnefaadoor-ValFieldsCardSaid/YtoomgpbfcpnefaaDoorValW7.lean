/-
  What val.Parts and val.Names answer.
-/
import Derived.Test.YtoomgpbfcpnefaaDoorValW6
import Derived.Test.YtoomgpbfcpnefaaDoorRound
namespace Go.Proofs.YtoomgpbfcpnefaaDoor
open Go.RowKit Go.Shelf Np Rw Vp
attribute [local go_sem] Oper.semAt_some

/-- A part as a value of its own. -/
def clr (t : Tr Nd) : Tr Nd := .mk (noName t.nd) t.ks
theorem flat_clr (t : Tr Nd) : flat (clr t) = noName t.nd :: flats t.ks := by rw [clr, flat_mk]
theorem flat_clr_len (t : Tr Nd) : (flat (clr t)).length = (flat t).length := by rw [flat_clr, flat_eq t]; rfl

section
variable {α : Type} {enc : α → List Value} {sz : Nat} {W W' : World} {v : Value} {l : List α}
/-- A row reads on, where only what is no cells turns. -/
theorem Row.turned {row : Option Nat} (h : Row enc sz W v l) (hg : W.grownBy W' row) (hr : ∀ r, row = some r → ∃ o : Obj, W.heap[r]? = some o ∧ o.isCells = false) : Row enc sz W' v l := by
  obtain ⟨A, c, hv, hc, hm, hz, H⟩ := h
  refine ⟨A, c, hv, hc, hm, hz, fun h0 => ?_⟩
  obtain ⟨g, o, hA, hlt, hx⟩ := H h0
  exact ⟨g, o, hA, Nat.lt_of_lt_of_le hlt hg.size, fun k x hk j u hu => cell_kept (hx k x hk j u hu) hg hr⟩
end
theorem keeps_below {W W' : World} (h : Below W.heap.size W W') : KeepsOthers W W' :=
  ⟨h.size, fun k o hk _ => by
    rw [h.block k (Array.getElem?_eq_some_iff.1 hk).1]; exact hk⟩

/-- Slices of the call's own, each of which reads as a row. -/
def Elems (base : Nat) (W : World) (zs : List (Option Addr × Nat × Nat)) (L : List (List Nd)) : Prop := zs.length = L.length ∧ ∀ (k : Nat) (z : Option Addr × Nat × Nat) (l : List Nd), zs[k]? = some z → L[k]? = some l → OwnN base W (.slice z.1 z.2.1 z.2.2) l
theorem Elems.below {base : Nat} {W W' : World} {zs : List (Option Addr × Nat × Nat)} {L : List (List Nd)} (h : Elems base W zs L) (hb : Below W.heap.size W W') : Elems base W' zs L := ⟨h.1, fun k z l h1 h2 => (h.2 k z l h1 h2).below hb⟩
theorem Elems.snoc {base : Nat} {W : World} {zs : List (Option Addr × Nat × Nat)} {L : List (List Nd)} {z : Option Addr × Nat × Nat} {l : List Nd} (h : Elems base W zs L) (hz : OwnN base W (.slice z.1 z.2.1 z.2.2) l) : Elems base W (zs ++ [z]) (L ++ [l]) := by
  refine ⟨by simp [h.1], fun k y m h1 h2 => ?_⟩
  rw [List.getElem?_append] at h1 h2
  rw [h.1] at h1
  split at h1
  · rename_i hk
    rw [if_pos hk] at h2
    exact h.2 k y m h1 h2
  · rename_i hk
    rw [if_neg hk] at h2
    have : k - L.length = 0 := by
      have := (List.getElem?_eq_some_iff.1 h1).1
      simp at this; omega
    rw [this] at h1 h2
    simp at h1 h2
    subst h1 h2
    exact hz
theorem Elems.vls {base : Nat} {W : World} {v : Value} {zs : List (Option Addr × Nat × Nat)} {L : List (List Nd)} (h : Elems base W zs L) (hr : Row slc 1 W v zs) : Vls W v L := by
  refine ⟨zs.map (fun z => .slice z.1 z.2.1 z.2.2), by simp [h.1], ?_, ?_⟩
  · obtain ⟨A, c, hv, hc, hm, hz, H⟩ := hr
    refine ⟨A, c, by simpa using hv, by simpa using hc, hm, hz, fun h0 => ?_⟩
    obtain ⟨g, o, hA, hlt, hx⟩ := H (by simpa using h0)
    refine ⟨g, o, hA, hlt, fun k x hk => ?_⟩
    rw [List.getElem?_map, Option.map_eq_some_iff] at hk
    obtain ⟨z, hz1, rfl⟩ := hk
    exact hx k z hz1
  · intro k x l hx hl
    rw [List.getElem?_map, Option.map_eq_some_iff] at hx
    obtain ⟨z, hz1, rfl⟩ := hx
    exact (h.2 k z l hz1 hl).row ndc_len

theorem Own.turned {α : Type} {enc : α → List Value} {sz E base : Nat} {W W' : World} {v : Value} {l : List α} {row : Option Nat} (h : Own enc sz E base W v l) (hg : W.grownBy W' row) (hr : ∀ r, row = some r → ∃ o : Obj, W.heap[r]? = some o ∧ o.isCells = false) : Own enc sz E base W' v l := by
  refine World.ownsRow.kept h hg ?_
  rcases h.2 with ⟨rfl, _⟩ | ⟨g, cap, cur, rfl, _, hh, _⟩
  · exact .inl rfl
  · refine .inr (fun e => ?_)
    obtain ⟨o, ho, hc⟩ := hr g e.symm
    rw [hh] at ho
    injection ho with ho
    subst ho
    cases hc
theorem boxed_turned {W W' : World} {B t : Nat} {v : Value} {row : Option Nat} (h : Boxed W B t v) (hg : W.grownBy W' row) (hr : ∀ r, row = some r → ∃ o : Obj, W.heap[r]? = some o ∧ o.isCells = false) : Boxed W' B t v := by
  refine h.kept hg (fun e => ?_)
  obtain ⟨o, ho, hc⟩ := hr B e.symm
  rw [show W.heap[B]? = _ from h] at ho
  injection ho with ho
  subst ho
  cases hc
/-- What comes out is a slice of rows. -/
def GivesV (w : World) (L : List (List Nd)) (e : Ending) (w' : World) : Prop := ∃ v', e = .returned v' ∧ Vls w' v' L ∧ Below w.heap.size w w'
def GivesS (w : World) (L : List (List UInt8)) (e : Ending) (w' : World) : Prop := ∃ v', e = .returned v' ∧ Sts w' v' L ∧ Below w.heap.size w w'

/-- Between two rounds of Parts. -/
def PI {L : List Nd} (w : World) (pre : List (Pt L)) (W : World) : Prop :=
  (∃ v zs, Boxed W w.heap.size 29 v ∧ Own slc 1 23 w.heap.size W v zs ∧ Elems w.heap.size W zs (pre.map fun x => flat (clr x.1.2))) ∧ Below w.heap.size w W
theorem PI.own {L : List Nd} (w : World) (B : Nat) (hB : w.heap.size ≤ B) : OwnFrom B (PI (L := L) w) := by
  intro s W W' row hs hg hr
  obtain ⟨⟨v, zs, h1, h2, h3⟩, h4⟩ := hs
  have hr' : ∀ r, row = some r → ∃ o : Obj, W.heap[r]? = some o ∧ o.isCells = false := fun r e => (hr r e).2
  refine ⟨⟨v, zs, boxed_turned h1 hg hr', h2.turned hg hr', h3.1, fun k z l a b => (h3.2 k z l a b).turned hg hr'⟩, ?_⟩
  exact ownFrom_below (β := Unit) (Nat.le_refl _) hB () W W' row h4 hg hr

/-- Slices of the call's own, of different elements, share no block. -/
theorem own_apart {W : World} {b1 b2 e1 e2 s1 s2 n1 n2 : Nat} {v1 v2 : Value} {x1 x2 : List Value} (h1 : W.ownsRow b1 e1 s1 v1 n1 x1) (h2 : W.ownsRow b2 e2 s2 v2 n2 x2) (he : e1 ≠ e2) : v1.ownBlock = none ∨ v1.ownBlock ≠ v2.ownBlock := by
  rcases h1.2 with ⟨rfl, _⟩ | ⟨g1, c1, u1, rfl, _, k1, _⟩
  · exact .inl rfl
  · refine .inr (fun e => ?_)
    rcases h2.2 with ⟨rfl, _⟩ | ⟨g2, c2, u2, rfl, _, k2, _⟩
    · cases e
    · cases e
      rw [k1] at k2
      injection k2 with k2
      injection k2 with _ k2
      exact he k2
/-- One more part is laid behind. -/
theorem PI.step {L : List Nd} {w W W1 W3 : World} {pre : List (Pt L)} {x : Pt L} {v0 : Value} {zs : List (Option Addr × Nat × Nat)} {z : Option Addr × Nat × Nat} {v3 : Value} (hb0 : Boxed W w.heap.size 29 v0) (hown : Own slc 1 23 w.heap.size W v0 zs)
    (hel : Elems w.heap.size W zs (pre.map fun x => flat (clr x.1.2))) (hB : Below w.heap.size w W) (h1 : Below W.heap.size W W1) (hz : OwnN w.heap.size W1 (.slice z.1 z.2.1 z.2.2) (flat (clr x.1.2)))
    (h3 : Own slc 1 23 w.heap.size W3 v3 (zs ++ [z])) (hg : (W1.alloc (.cells #[.slice z.1 z.2.1 z.2.2] 23)).grownBy W3 v0.ownBlock) :
    Boxed W3 w.heap.size 29 v0 ∧ KeepsOthers W (W3.setCell ⟨w.heap.size, 0, none⟩ v3) ∧ Below w.heap.size W (W3.setCell ⟨w.heap.size, 0, none⟩ v3) ∧ PI w (pre ++ [x]) (W3.setCell ⟨w.heap.size, 0, none⟩ v3) := by
  have hbx := hb0.lt
  have hBs := hB.size
  have h2 : Below W.heap.size W (W1.alloc (.cells #[.slice z.1 z.2.1 z.2.2] 23)) := h1.alloc h1.size _
  have hz2 := h2.size
  have hb2 : Boxed (W1.alloc (.cells #[.slice z.1 z.2.1 z.2.2] 23)) w.heap.size 29 v0 := (h2.block _ hbx).trans hb0
  have ho2 : Own slc 1 23 w.heap.size (W1.alloc (.cells #[.slice z.1 z.2.1 z.2.2] 23)) v0 zs := hown.below h2
  have hne : some w.heap.size ≠ v0.ownBlock := hb2.not_row (by decide) ho2
  have hb3 : Boxed W3 w.heap.size 29 v0 := hb2.kept hg hne
  have hne3 : v3.ownBlock ≠ some w.heap.size := fun e => (hb3.not_row (by decide) h3) e.symm
  have hlow : Below w.heap.size W W3 := (h2.mono hBs).trans (ho2.kept hg (by omega))
  have hset := hlow.setCell (p := ⟨w.heap.size, 0, none⟩) (Nat.le_refl _) v3
  refine ⟨hb3, ?_, hset, ⟨v3, zs ++ [z], hb3.set v3, ?_, ?_⟩, hB.trans hset⟩
  · refine ((keeps_below h2).trans (KeepsOthers.of_grownBy hg (fun j o e ho => ?_))).trans (KeepsOthers.setCell _ _ _)
    obtain ⟨g, cap, cur, hv, _, hh, _⟩ := (ho2.2).resolve_left (fun h => by rw [h.1] at e; cases e)
    rw [hv] at e
    cases e
    rw [hh] at ho
    cases ho
    rfl
  · exact ownsRow_setCell_other h3 hne3 v3
  · have hk : ∀ {v : Value} {l : List Nd}, OwnN w.heap.size (W1.alloc (.cells #[.slice z.1 z.2.1 z.2.2] 23)) v l → OwnN w.heap.size (W3.setCell ⟨w.heap.size, 0, none⟩ v3) v l := by
      intro v l hn
      have hn3 : OwnN w.heap.size W3 v l := World.ownsRow.kept hn hg (own_apart hn ho2 (by decide))
      exact ownsRow_setCell_other hn3 (fun e => (hb3.not_row (by decide) hn3) e.symm) v3
    rw [List.map_append, List.map_singleton]
    exact Elems.snoc ⟨hel.1, fun k y l a b => hk ((hel.2 k y l a b).below h2)⟩ (hk (hz.alloc _))

set_option maxRecDepth 100000 in
set_option maxHeartbeats 2000000 in
theorem parts_any (v : Value) (t : Tr Nd) (w : World) (hv : Nds w v (flat t)) (hl : (flat t).length ≤ 65536) (ht : Val t) :
    Calls Tryd.prog 18 #[v] w (GivesV w (t.ks.map fun k => flat (clr k))) := by
  obtain ⟨g, o, c, rfl, hc, hcm, hg, -⟩ := hv.opened (flat_pos t)
  have hvH := Lib.hid hv
  obtain ⟨xs, hsp⟩ := spread_ex (L := flat t) t.ks 1 [] (okT_eq.1 ht.ok).2 (by rw [flat_eq]; simp)
  have HTR := Lib.hid (spread_trees hsp)
  have hxl : xs.length ≤ 65536 := by
    have h1 := congrArg List.length (spread_trees hsp)
    have h2 := flats_len t.ks
    have h3 : (flat t).length = 1 + (flats t.ks).length := by rw [flat_eq]; simp; omega
    simp at h1; omega
  clear hv
  refine (callsIn_wide (n := 5)).1 ?_
  refine callsIn_of_wp_marks Tryd.func18 rfl trivial ?_ rfl
  simp only [Tryd.ntmps18, List.size_toArray, List.length_cons, List.length_nil, Nat.reduceAdd, Nat.reduceSub, Array.replicate_succ, Array.replicate_zero, List.push_toArray, List.append_toArray, List.nil_append, List.cons_append]
  gi_wp2_with (refine ⟨trivial, ?_⟩; gi_at_call 45; refine (rows_in _ _ _ _ _).mono ?_; rintro e w' ⟨rfl, rfl⟩)
  have bO := Boxed.new w 29 (.slice none 0 0)
  have bN := Boxed.new (w.alloc (.cells #[.slice none 0 0] 29)) 23 (.slice (some ⟨g, o, none⟩) (flat t).length c)
  rw [World.size_alloc] at bN
  have hB0 : Below w.heap.size w ((w.alloc (.cells #[.slice none 0 0] 29)).alloc (.cells #[.slice (some ⟨g, o, none⟩) (flat t).length c] 23)) := ((Below.refl _ w).alloc (Nat.le_refl _) _).alloc (by simp) _
  refine wpIn_rangeFunc_ownG rfl (by omega) (gf := 60) (lb := #[.pointer (some ⟨w.heap.size + 1, 0, none⟩)]) rfl trivial (enters_of Tryd.func60 (by kernel_rfl) rfl)
    (rows_stops _ (by omega) (w.heap.size + 1) w.heap.size g o c t xs ht hl hsp _ (by simp) (by simp; omega) bN.cell hg (hvH.out.below hB0)) belowK_t (belowK_b (by simp; omega)) (Below.refl _ _) (fun _ => rfl)
    (PI w) (fun _ _ _ => False) (PI.own w _ (by simp; omega)) (fun _ _ _ _ _ hs _ _ => hs)
    ⟨⟨_, [], bO.alloc _, Own.nil _, rfl, fun k z l h => by simp at h⟩, hB0⟩
    (fun x => { tmps := #[.slice (some ⟨g, o, none⟩) (flat t).length c, undef, .slice none 0 0, .pointer (some ⟨w.heap.size, 0, none⟩), ptv g o c x, .slice (some ⟨g, o, none⟩) (flat t).length c, .func (.func 60) #[] #[.pointer (some ⟨w.heap.size + 1, 0, none⟩)], ptv g o c x, undef, undef, undef, undef, undef, undef], defers := [] }) ?assign ?body ?done ?stop
  case assign =>
    intro l x W K hK
    gi_wp2
    exact hK
  case body =>
    rintro l pre x W ⟨⟨v0, zs, hb0, hown, hel⟩, hB⟩ hlt
    refine wpIn_block ?_
    refine region_round (by kernel_rfl) (by kernel_rfl) (block_no outgrown_no) ?_
    refine wpAny_take (i := 1) (v := ptv g o c x) rfl (by kernel_rfl) (by kernel_rfl) (by kernel_rfl) (fun _ _ _ h => h) (.inl ⟨rfl, fun w => rfl⟩) ?_
    have hc0 := hb0.cell
    have HPR : Hid (Nds W.drew (ptv g o c x) (x.1.2.nd :: flats x.1.2.ks)) := Lib.hid (by have := pt_row ((hvH.out.below hB)) x; rw [flat_eq x.1.2] at this; exact this)
    have HPN : Hid ((x.1.2.nd :: flats x.1.2.ks).length ≤ 65536) := Lib.hid (by
      obtain ⟨⟨p, u⟩, h1, r, h2⟩ := x
      have hq : p + (flat u).length ≤ (flat t).length := part_lt h2
      show (u.nd :: flats u.ks).length ≤ 65536
      rw [← flat_eq u]; omega)
    refine wpAny_ready (rs := [0, 2]) (by kernel_rfl) (by simp) ?_
    refine AllReady.cons rfl (fun K hK => ?_) (AllReady.cons rfl (fun K hK => ?_) AllReady.nil)
    · go_simp
      refine hK _ _ ?_
      clear hK K
      refine any_tail 2 4 rfl (by kernel_rfl) ?_
      simp only [List.drop_succ_cons, List.drop_zero]
      go_wp2_with fail
      refine (own_any _ x.1.2.nd (flats x.1.2.ks) _ HPR.out HPN.out).mono ?_
      rintro e w1 ⟨v1, rfl, ho1, hb1⟩
      obtain ⟨A1, c1, rfl, -, -, -⟩ := ho1.form
      have hW1 : Below W.heap.size W w1 := ⟨hb1.os, hb1.tape, hb1.output, hb1.size, hb1.block⟩
      have HO1 : Hid (OwnN w.heap.size w1 (.slice A1 (noName x.1.2.nd :: flats x.1.2.ks).length c1) (flat (clr x.1.2))) := Lib.hid (by rw [flat_clr]; exact Own.mono ho1 hB.size)
      have hc1 : w1.cell? ⟨w.heap.size, 0, none⟩ = some v0 := (hW1.cell (p := ⟨w.heap.size, 0, none⟩) hb0.lt).trans hc0
      have HW1 := Lib.hid hW1
      have hlt1 : w.heap.size < w1.heap.size := Nat.lt_of_lt_of_le hb0.lt hW1.size
      have HOZ : Hid (Own slc 1 23 w.heap.size (w1.alloc (.cells #[.slice A1 (noName x.1.2.nd :: flats x.1.2.ks).length c1] 23)) v0 zs) := Lib.hid ((hown.below hW1).alloc _)
      have HRZ : Hid (Row slc 1 (w1.alloc (.cells #[.slice A1 (noName x.1.2.nd :: flats x.1.2.ks).length c1] 23)) (.slice (some ⟨w1.heap.size, 0, none⟩) 1 1) [(A1, (noName x.1.2.nd :: flats x.1.2.ks).length, c1)]) := Lib.hid (Row.lit slc_len w1 23 _ [(A1, (noName x.1.2.nd :: flats x.1.2.ks).length, c1)] (by show 1 ≤ maxLen; decide) rfl)
      clear ho1 hb1 hW1
      generalize hQN : (noName x.1.2.nd :: flats x.1.2.ks).length = qn at *
      clear hQN
      go_wp2_with (at_builtin; refine wpList_append_row (base := w.heap.size) elVal rfl _ _ rfl rfl HOZ.out rfl HRZ.out ?_ ?_ ?_ ?_)
      · have := hel.1; simp at this; simp only [List.length_singleton]; unfold maxLen; omega
      · have := hel.1; simp at this; simp only [List.length_singleton]; omega
      · have := hB.size; have := HW1.out.size; simp; omega
      · intro A3 c3 w3 hown3 hg3 _
        obtain ⟨hb3, hk3, hlow3, hpi⟩ := PI.step (z := (A1, qn, c1)) hb0 hown hel hB HW1.out HO1.out hown3 hg3
        have hc3 := hb3.cell
        have hf3 := hb3.frozen
        have HF : Hid (KeepsFrom (w.heap.size + 1 + 1) W (w3.setCell ⟨w.heap.size, 0, none⟩ (.slice A3 (zs.length + 1) c3)) ∧ Below w.heap.size W (w3.setCell ⟨w.heap.size, 0, none⟩ (.slice A3 (zs.length + 1) c3)) ∧ PI w (pre ++ [x]) (w3.setCell ⟨w.heap.size, 0, none⟩ (.slice A3 (zs.length + 1) c3))) := Lib.hid ⟨hk3.from _, hlow3, hpi⟩
        clear hk3 hlow3 hpi hown3 hg3
        go_wp2_with fail
        exact HF.out
    · go_simp
      refine (own_any _ x.1.2.nd (flats x.1.2.ks) _ HPR.out HPN.out).mono ?_
      rintro e w1 ⟨v1, rfl, ho1, hb1⟩
      obtain ⟨A1, c1, rfl, -, -, -⟩ := ho1.form
      have hW1 : Below W.heap.size W w1 := ⟨hb1.os, hb1.tape, hb1.output, hb1.size, hb1.block⟩
      have HO1 : Hid (OwnN w.heap.size w1 (.slice A1 (noName x.1.2.nd :: flats x.1.2.ks).length c1) (flat (clr x.1.2))) := Lib.hid (by rw [flat_clr]; exact Own.mono ho1 hB.size)
      have hc1 : w1.cell? ⟨w.heap.size, 0, none⟩ = some v0 := (hW1.cell (p := ⟨w.heap.size, 0, none⟩) hb0.lt).trans hc0
      have HW1 := Lib.hid hW1
      have hlt1 : w.heap.size < w1.heap.size := Nat.lt_of_lt_of_le hb0.lt hW1.size
      have HOZ : Hid (Own slc 1 23 w.heap.size (w1.alloc (.cells #[.slice A1 (noName x.1.2.nd :: flats x.1.2.ks).length c1] 23)) v0 zs) := Lib.hid ((hown.below hW1).alloc _)
      have HRZ : Hid (Row slc 1 (w1.alloc (.cells #[.slice A1 (noName x.1.2.nd :: flats x.1.2.ks).length c1] 23)) (.slice (some ⟨w1.heap.size, 0, none⟩) 1 1) [(A1, (noName x.1.2.nd :: flats x.1.2.ks).length, c1)]) := Lib.hid (Row.lit slc_len w1 23 _ [(A1, (noName x.1.2.nd :: flats x.1.2.ks).length, c1)] (by show 1 ≤ maxLen; decide) rfl)
      clear ho1 hb1 hW1
      generalize hQN : (noName x.1.2.nd :: flats x.1.2.ks).length = qn at *
      clear hQN
      refine hK _ _ ?_
      clear hK K
      refine wpAny_ready (rs := [0, 3]) (by kernel_rfl) (by simp) ?_
      refine AllReady.cons rfl (fun K hK => ?_) (AllReady.cons rfl (fun K hK => ?_) AllReady.nil)
      · go_simp
        refine hK _ _ ?_
        clear hK K
        refine any_tail 3 3 rfl (by kernel_rfl) ?_
        simp only [List.drop_succ_cons, List.drop_zero]
        go_wp2_with (at_builtin; refine wpList_append_row (base := w.heap.size) elVal rfl _ _ rfl rfl HOZ.out rfl HRZ.out ?_ ?_ ?_ ?_)
        · have := hel.1; simp at this; simp only [List.length_singleton]; unfold maxLen; omega
        · have := hel.1; simp at this; simp only [List.length_singleton]; omega
        · have := hB.size; have := HW1.out.size; simp; omega
        · intro A3 c3 w3 hown3 hg3 _
          obtain ⟨hb3, hk3, hlow3, hpi⟩ := PI.step (z := (A1, qn, c1)) hb0 hown hel hB HW1.out HO1.out hown3 hg3
          have hc3 := hb3.cell
          have hf3 := hb3.frozen
          have HF : Hid (KeepsFrom (w.heap.size + 1 + 1) W (w3.setCell ⟨w.heap.size, 0, none⟩ (.slice A3 (zs.length + 1) c3)) ∧ Below w.heap.size W (w3.setCell ⟨w.heap.size, 0, none⟩ (.slice A3 (zs.length + 1) c3)) ∧ PI w (pre ++ [x]) (w3.setCell ⟨w.heap.size, 0, none⟩ (.slice A3 (zs.length + 1) c3))) := Lib.hid ⟨hk3.from _, hlow3, hpi⟩
          clear hk3 hlow3 hpi hown3 hg3
          go_wp2_with fail
          exact HF.out
      · go_simp
        refine hK _ _ ?_
        clear hK K
        refine wpAny_ready (rs := [0]) (by kernel_rfl) (by simp) ?_
        refine AllReady.cons rfl (fun K hK => ?_) AllReady.nil
        go_simp
        refine hK _ _ ?_
        clear hK K
        refine any_tail 4 2 rfl (by kernel_rfl) ?_
        simp only [List.drop_succ_cons, List.drop_zero]
        go_wp2_with (at_builtin; refine wpList_append_row (base := w.heap.size) elVal rfl _ _ rfl rfl HOZ.out rfl HRZ.out ?_ ?_ ?_ ?_)
        · have := hel.1; simp at this; simp only [List.length_singleton]; unfold maxLen; omega
        · have := hel.1; simp at this; simp only [List.length_singleton]; omega
        · have := hB.size; have := HW1.out.size; simp; omega
        · intro A3 c3 w3 hown3 hg3 _
          obtain ⟨hb3, hk3, hlow3, hpi⟩ := PI.step (z := (A1, qn, c1)) hb0 hown hel hB HW1.out HO1.out hown3 hg3
          have hc3 := hb3.cell
          have hf3 := hb3.frozen
          have HF : Hid (KeepsFrom (w.heap.size + 1 + 1) W (w3.setCell ⟨w.heap.size, 0, none⟩ (.slice A3 (zs.length + 1) c3)) ∧ Below w.heap.size W (w3.setCell ⟨w.heap.size, 0, none⟩ (.slice A3 (zs.length + 1) c3)) ∧ PI w (pre ++ [x]) (w3.setCell ⟨w.heap.size, 0, none⟩ (.slice A3 (zs.length + 1) c3))) := Lib.hid ⟨hk3.from _, hlow3, hpi⟩
          clear hk3 hlow3 hpi hown3 hg3
          go_wp2_with fail
          exact HF.out
  case done =>
    rintro D ys W hD rfl ⟨⟨v0, zs, hb0, hown, hel⟩, hB⟩ hK
    have hc0 := hb0.cell
    gi_wp2
    refine ⟨by simp, .inl ⟨_, _, rfl, run_takeDeferred hK, ?_⟩⟩
    have hr : ∀ r, some D = some r → ∃ o : Obj, W.heap[r]? = some o ∧ o.isCells = false := fun r e => by cases e; exact ⟨_, hK, rfl⟩
    have hpo := grownBy_putObj' W D (.deferred none)
    refine ⟨_, results_tmp rfl _ _ _, v0, rfl, ?_, hB.trans (belowK_b (w := w) (Nat.le_refl _) W D _ _ (by simp at hD; omega) hK rfl rfl)⟩
    have h1 : Elems w.heap.size (W.putObj D (.deferred none)) zs (ys.map fun x => flat (clr x.1.2)) := ⟨hel.1, fun k z l a b => (hel.2 k z l a b).turned hpo hr⟩
    have h2 : ys.map (fun x => flat (clr x.1.2)) = t.ks.map fun k => flat (clr k) := by rw [← HTR.out, List.map_map]; rfl
    rw [h2] at h1
    exact h1.vls ((hown.turned hpo hr).row slc_len)
  case stop =>
    rintro D c pre W _ _ h _
    exact h.elim
end Go.Proofs.YtoomgpbfcpnefaaDoor
