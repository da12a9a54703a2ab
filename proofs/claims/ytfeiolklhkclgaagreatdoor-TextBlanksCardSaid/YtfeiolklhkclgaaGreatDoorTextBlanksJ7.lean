/-
  Joined: ValW7, Els, TxM2, Tx4, Tx5, Tx6.
-/
import Derived.Test.YtfeiolklhkclgaaGreatDoorTextBlanksJ6
import Derived.Test.YtfeiolklhkclgaaGreatDoorTextBlanksJ2
import Derived.Test.YtfeiolklhkclgaaGreatDoorTextBlanksJ1
import Derived.Test.YtfeiolklhkclgaaGreatDoorTextBlanksJ4
import Derived.Shelf.Abstract
import Derived.Deep.RegionLaw

/-
  What val.Parts and val.Names answer.
-/
namespace Go.Proofs.YtfeiolklhkclgaaGreatDoor
open Go.RowKit Go.Shelf Np Rw Vp
attribute [local go_sem] Oper.semAt_some

/-- A part as a value of its own. -/
def clr (t : Tr Nd) : Tr Nd := .mk (noName t.nd) t.ks
theorem flat_clr (t : Tr Nd) : flat (clr t) = noName t.nd :: flats t.ks := by rw [clr, flat_mk]
theorem flat_clr_len (t : Tr Nd) : (flat (clr t)).length = (flat t).length := by rw [flat_clr, flat_eq t]; rfl

section
variable {α : Type} {enc : α → List Value} {sz : Nat} {W W' : World} {v : Value} {l : List α}
/-- A row reads on, where only what is no cells turns. -/
theorem Row.turned {row : Option Nat} (h : Row enc sz W v l) (hg : W.grownBy W' row) (hr : ∀ r, row = some r → ∃ o : Obj, W.heap[r]? = some o ∧ o.isCells = false) : Row enc sz W' v l := by
  obtain ⟨A, c, hv, hc, hm, hz, H⟩ := h
  refine ⟨A, c, hv, hc, hm, hz, fun h0 => ?_⟩
  obtain ⟨g, o, hA, hlt, hx⟩ := H h0
  exact ⟨g, o, hA, Nat.lt_of_lt_of_le hlt hg.size, fun k x hk j u hu => cell_kept (hx k x hk j u hu) hg hr⟩
end
theorem keeps_below {W W' : World} (h : Below W.heap.size W W') : KeepsOthers W W' :=
  ⟨h.size, fun k o hk _ => by
    rw [h.block k (Array.getElem?_eq_some_iff.1 hk).1]; exact hk⟩

/-- Slices of the call's own, each of which reads as a row. -/
def Elems (base : Nat) (W : World) (zs : List (Option Addr × Nat × Nat)) (L : List (List Nd)) : Prop := zs.length = L.length ∧ ∀ (k : Nat) (z : Option Addr × Nat × Nat) (l : List Nd), zs[k]? = some z → L[k]? = some l → OwnN base W (.slice z.1 z.2.1 z.2.2) l
theorem Elems.below {base : Nat} {W W' : World} {zs : List (Option Addr × Nat × Nat)} {L : List (List Nd)} (h : Elems base W zs L) (hb : Below W.heap.size W W') : Elems base W' zs L := ⟨h.1, fun k z l h1 h2 => (h.2 k z l h1 h2).below hb⟩
theorem Elems.snoc {base : Nat} {W : World} {zs : List (Option Addr × Nat × Nat)} {L : List (List Nd)} {z : Option Addr × Nat × Nat} {l : List Nd} (h : Elems base W zs L) (hz : OwnN base W (.slice z.1 z.2.1 z.2.2) l) : Elems base W (zs ++ [z]) (L ++ [l]) := by
  refine ⟨by simp [h.1], fun k y m h1 h2 => ?_⟩
  rw [List.getElem?_append] at h1 h2
  rw [h.1] at h1
  split at h1
  · rename_i hk
    rw [if_pos hk] at h2
    exact h.2 k y m h1 h2
  · rename_i hk
    rw [if_neg hk] at h2
    have : k - L.length = 0 := by
      have := (List.getElem?_eq_some_iff.1 h1).1
      simp at this; omega
    rw [this] at h1 h2
    simp at h1 h2
    subst h1 h2
    exact hz
theorem Elems.vls {base : Nat} {W : World} {v : Value} {zs : List (Option Addr × Nat × Nat)} {L : List (List Nd)} (h : Elems base W zs L) (hr : Row slc 1 W v zs) : Vls W v L := by
  refine ⟨zs.map (fun z => .slice z.1 z.2.1 z.2.2), by simp [h.1], ?_, ?_⟩
  · obtain ⟨A, c, hv, hc, hm, hz, H⟩ := hr
    refine ⟨A, c, by simpa using hv, by simpa using hc, hm, hz, fun h0 => ?_⟩
    obtain ⟨g, o, hA, hlt, hx⟩ := H (by simpa using h0)
    refine ⟨g, o, hA, hlt, fun k x hk => ?_⟩
    rw [List.getElem?_map, Option.map_eq_some_iff] at hk
    obtain ⟨z, hz1, rfl⟩ := hk
    exact hx k z hz1
  · intro k x l hx hl
    rw [List.getElem?_map, Option.map_eq_some_iff] at hx
    obtain ⟨z, hz1, rfl⟩ := hx
    exact (h.2 k z l hz1 hl).row ndc_len

theorem Own.turned {α : Type} {enc : α → List Value} {sz E base : Nat} {W W' : World} {v : Value} {l : List α} {row : Option Nat} (h : Own enc sz E base W v l) (hg : W.grownBy W' row) (hr : ∀ r, row = some r → ∃ o : Obj, W.heap[r]? = some o ∧ o.isCells = false) : Own enc sz E base W' v l := by
  refine World.ownsRow.kept h hg ?_
  rcases h.2 with ⟨rfl, _⟩ | ⟨g, cap, cur, rfl, _, hh, _⟩
  · exact .inl rfl
  · refine .inr (fun e => ?_)
    obtain ⟨o, ho, hc⟩ := hr g e.symm
    rw [hh] at ho
    injection ho with ho
    subst ho
    cases hc
theorem boxed_turned {W W' : World} {B t : Nat} {v : Value} {row : Option Nat} (h : Boxed W B t v) (hg : W.grownBy W' row) (hr : ∀ r, row = some r → ∃ o : Obj, W.heap[r]? = some o ∧ o.isCells = false) : Boxed W' B t v := by
  refine h.kept hg (fun e => ?_)
  obtain ⟨o, ho, hc⟩ := hr B e.symm
  rw [show W.heap[B]? = _ from h] at ho
  injection ho with ho
  subst ho
  cases hc
/-- What comes out is a slice of rows. -/
def GivesV (w : World) (L : List (List Nd)) (e : Ending) (w' : World) : Prop := ∃ v', e = .returned v' ∧ Vls w' v' L ∧ Below w.heap.size w w'
def GivesS (w : World) (L : List (List UInt8)) (e : Ending) (w' : World) : Prop := ∃ v', e = .returned v' ∧ Sts w' v' L ∧ Below w.heap.size w w'

/-- Between two rounds of Parts. -/
def PI {L : List Nd} (w : World) (pre : List (Pt L)) (W : World) : Prop :=
  (∃ v zs, Boxed W w.heap.size 44 v ∧ Own slc 1 24 w.heap.size W v zs ∧ Elems w.heap.size W zs (pre.map fun x => flat (clr x.1.2))) ∧ Below w.heap.size w W
theorem PI.own {L : List Nd} (w : World) (B : Nat) (hB : w.heap.size ≤ B) : OwnFrom B (PI (L := L) w) := by
  intro s W W' row hs hg hr
  obtain ⟨⟨v, zs, h1, h2, h3⟩, h4⟩ := hs
  have hr' : ∀ r, row = some r → ∃ o : Obj, W.heap[r]? = some o ∧ o.isCells = false := fun r e => (hr r e).2
  refine ⟨⟨v, zs, boxed_turned h1 hg hr', h2.turned hg hr', h3.1, fun k z l a b => (h3.2 k z l a b).turned hg hr'⟩, ?_⟩
  exact ownFrom_below (β := Unit) (Nat.le_refl _) hB () W W' row h4 hg hr

/-- Slices of the call's own, of different elements, share no block. -/
theorem own_apart {W : World} {b1 b2 e1 e2 s1 s2 n1 n2 : Nat} {v1 v2 : Value} {x1 x2 : List Value} (h1 : W.ownsRow b1 e1 s1 v1 n1 x1) (h2 : W.ownsRow b2 e2 s2 v2 n2 x2) (he : e1 ≠ e2) : v1.ownBlock = none ∨ v1.ownBlock ≠ v2.ownBlock := by
  rcases h1.2 with ⟨rfl, _⟩ | ⟨g1, c1, u1, rfl, _, k1, _⟩
  · exact .inl rfl
  · refine .inr (fun e => ?_)
    rcases h2.2 with ⟨rfl, _⟩ | ⟨g2, c2, u2, rfl, _, k2, _⟩
    · cases e
    · cases e
      rw [k1] at k2
      injection k2 with k2
      injection k2 with _ k2
      exact he k2
/-- One more part is laid behind. -/
theorem PI.step {L : List Nd} {w W W1 W3 : World} {pre : List (Pt L)} {x : Pt L} {v0 : Value} {zs : List (Option Addr × Nat × Nat)} {z : Option Addr × Nat × Nat} {v3 : Value} (hb0 : Boxed W w.heap.size 44 v0) (hown : Own slc 1 24 w.heap.size W v0 zs)
    (hel : Elems w.heap.size W zs (pre.map fun x => flat (clr x.1.2))) (hB : Below w.heap.size w W) (h1 : Below W.heap.size W W1) (hz : OwnN w.heap.size W1 (.slice z.1 z.2.1 z.2.2) (flat (clr x.1.2)))
    (h3 : Own slc 1 24 w.heap.size W3 v3 (zs ++ [z])) (hg : (W1.alloc (.cells #[.slice z.1 z.2.1 z.2.2] 24)).grownBy W3 v0.ownBlock) :
    Boxed W3 w.heap.size 44 v0 ∧ KeepsOthers W (W3.setCell ⟨w.heap.size, 0, none⟩ v3) ∧ Below w.heap.size W (W3.setCell ⟨w.heap.size, 0, none⟩ v3) ∧ PI w (pre ++ [x]) (W3.setCell ⟨w.heap.size, 0, none⟩ v3) := by
  have hbx := hb0.lt
  have hBs := hB.size
  have h2 : Below W.heap.size W (W1.alloc (.cells #[.slice z.1 z.2.1 z.2.2] 24)) := h1.alloc h1.size _
  have hz2 := h2.size
  have hb2 : Boxed (W1.alloc (.cells #[.slice z.1 z.2.1 z.2.2] 24)) w.heap.size 44 v0 := (h2.block _ hbx).trans hb0
  have ho2 : Own slc 1 24 w.heap.size (W1.alloc (.cells #[.slice z.1 z.2.1 z.2.2] 24)) v0 zs := hown.below h2
  have hne : some w.heap.size ≠ v0.ownBlock := hb2.not_row (by decide) ho2
  have hb3 : Boxed W3 w.heap.size 44 v0 := hb2.kept hg hne
  have hne3 : v3.ownBlock ≠ some w.heap.size := fun e => (hb3.not_row (by decide) h3) e.symm
  have hlow : Below w.heap.size W W3 := (h2.mono hBs).trans (ho2.kept hg (by omega))
  have hset := hlow.setCell (p := ⟨w.heap.size, 0, none⟩) (Nat.le_refl _) v3
  refine ⟨hb3, ?_, hset, ⟨v3, zs ++ [z], hb3.set v3, ?_, ?_⟩, hB.trans hset⟩
  · refine ((keeps_below h2).trans (KeepsOthers.of_grownBy hg (fun j o e ho => ?_))).trans (KeepsOthers.setCell _ _ _)
    obtain ⟨g, cap, cur, hv, _, hh, _⟩ := (ho2.2).resolve_left (fun h => by rw [h.1] at e; cases e)
    rw [hv] at e
    cases e
    rw [hh] at ho
    cases ho
    rfl
  · exact ownsRow_setCell_other h3 hne3 v3
  · have hk : ∀ {v : Value} {l : List Nd}, OwnN w.heap.size (W1.alloc (.cells #[.slice z.1 z.2.1 z.2.2] 24)) v l → OwnN w.heap.size (W3.setCell ⟨w.heap.size, 0, none⟩ v3) v l := by
      intro v l hn
      have hn3 : OwnN w.heap.size W3 v l := World.ownsRow.kept hn hg (own_apart hn ho2 (by decide))
      exact ownsRow_setCell_other hn3 (fun e => (hb3.not_row (by decide) hn3) e.symm) v3
    rw [List.map_append, List.map_singleton]
    exact Elems.snoc ⟨hel.1, fun k y l a b => hk ((hel.2 k y l a b).below h2)⟩ (hk (hz.alloc _))

end Go.Proofs.YtfeiolklhkclgaaGreatDoor

/-
  Words for values: rows that come out, with their lengths; a slice of slices, element by element; one more behind a slice of the call's own. Of no law.
-/
namespace Go.Proofs.YtfeiolklhkclgaaGreatDoor
open Go.RowKit Np Rw Vp

/-- A row of nodes comes out, with its length. -/
def IsN (w : World) (l : List Nd) (n : Nat) (e : Ending) (w' : World) : Prop := ∃ (A : Option Addr) (c : Nat), e = .returned (.slice A n c) ∧ Nds w' (.slice A n c) l ∧ Below w.heap.size w w'
def IsO (w : World) (l : List Nd) (n : Nat) (k : Int) (e : Ending) (w' : World) : Prop := ∃ (A : Option Addr) (c : Nat), e = .returned (.tuple #[.slice A n c, .int .i64 k]) ∧ Nds w' (.slice A n c) l ∧ Below w.heap.size w w'
theorem OwnsN.is {w w' : World} {l : List Nd} {n : Nat} {e : Ending} (h : OwnsN w l e w') (hn : l.length = n) : IsN w l n e w' := by
  obtain ⟨v, rfl, h1, h2⟩ := h
  have h3 := h1.row ndc_len
  obtain ⟨A, c, rfl, h4⟩ := h3
  rw [← hn]
  exact ⟨A, c, rfl, ⟨A, c, rfl, h4⟩, h2⟩
theorem GivesO.is {w w' : World} {names : List (List UInt8)} {L : List (List Nd)} {n : Nat} {e : Ending} (h : GivesO w names L e w') (hn : (objV names L).length = n) : IsO w (objV names L) n (objE names L) e w' := by
  obtain ⟨v, rfl, h1, h2⟩ := h
  obtain ⟨A, c, rfl, h4⟩ := h1.row ndc_len
  rw [← hn]
  exact ⟨A, c, rfl, ⟨A, c, rfl, h4⟩, h2⟩
theorem GivesO.own {w w' : World} {names : List (List UInt8)} {L : List (List Nd)} {n : Nat} {e : Ending} (h : GivesO w names L e w') (hn : (objV names L).length = n) : ∃ (A : Option Addr) (c : Nat), e = .returned (.tuple #[.slice A n c, .int .i64 (objE names L)]) ∧ OwnN w.heap.size w' (.slice A n c) (objV names L) ∧ Below w.heap.size w w' := by
  obtain ⟨v, rfl, h1, h2⟩ := h
  obtain ⟨A, c, rfl, h4⟩ := h1.row ndc_len
  rw [← hn]
  exact ⟨A, c, rfl, h1, h2⟩
theorem row_one {α : Type} {enc : α → List Value} {sz : Nat} (hl : ∀ x, (enc x).length = sz) (W : World) (n : Nat) (hn : W.heap.size = n) (E : TypeId) (cs : Array Value) (x : α) (hc : cs.toList = enc x) :
    Row enc sz (W.alloc (.cells cs E)) (.slice (some ⟨n, 0, none⟩) 1 1) [x] := by
  subst hn
  exact Row.lit hl W E cs [x] (by unfold maxLen; simp) (by rw [hc]; simp)
theorem sts_two (W : World) (n : Nat) (hn : W.heap.size = n) (E : TypeId) (a b : List UInt8) : Sts (W.alloc (.cells #[.string ⟨a.toArray⟩, .string ⟨b.toArray⟩] E)) (.slice (some ⟨n, 0, none⟩) 2 2) [a, b] := by
  subst hn
  exact Row.lit stc_len W E _ [a, b] (by unfold maxLen; simp) rfl
theorem vls_two (W : World) (n : Nat) (hn : W.heap.size = n) (E : TypeId) (a b : Value) (l1 l2 : List Nd) (h1 : Nds W a l1) (h2 : Nds W b l2) : Vls (W.alloc (.cells #[a, b] E)) (.slice (some ⟨n, 0, none⟩) 2 2) [l1, l2] := by
  subst hn
  have hb : Below W.heap.size W (W.alloc (.cells #[a, b] E)) := (Below.refl _ _).alloc (Nat.le_refl _) _
  refine ⟨[a, b], rfl, Row.lit vac_len W E _ [a, b] (by unfold maxLen; simp) rfl, fun k x l hx hk => ?_⟩
  match k, hx, hk with
  | 0, hx, hk => simp at hx hk; subst hx hk; exact h1.below hb
  | 1, hx, hk => simp at hx hk; subst hx hk; exact h2.below hb
  | k + 2, hx, hk => simp at hx

/-- Slices that read as these rows. -/
def Els (w : World) (zs : List (Option Addr × Nat × Nat)) (L : List (List Nd)) : Prop := zs.length = L.length ∧ ∀ (k : Nat) (z : Option Addr × Nat × Nat) (l : List Nd), zs[k]? = some z → L[k]? = some l → Nds w (.slice z.1 z.2.1 z.2.2) l
theorem Els.below {w w' : World} {zs : List (Option Addr × Nat × Nat)} {L : List (List Nd)} (h : Els w zs L) (hb : Below w.heap.size w w') : Els w' zs L := ⟨h.1, fun k z l hz hl => (h.2 k z l hz hl).below hb⟩
theorem Els.vls {w : World} {v : Value} {zs : List (Option Addr × Nat × Nat)} {L : List (List Nd)} (h : Els w zs L) (hr : Row slc 1 w v zs) : Vls w v L := by
  refine ⟨zs.map fun z => .slice z.1 z.2.1 z.2.2, by rw [List.length_map]; exact h.1, ?_, fun k x l hx hk => ?_⟩
  · obtain ⟨A, c, hv, h1, h2, h3, h4⟩ := hr
    refine ⟨A, c, by rw [List.length_map]; exact hv, by rw [List.length_map]; exact h1, h2, h3, fun h0 => ?_⟩
    obtain ⟨g, o, hA, hg, hx⟩ := h4 (by rwa [List.length_map] at h0)
    refine ⟨g, o, hA, hg, fun k x hk => ?_⟩
    rw [List.getElem?_map] at hk
    obtain ⟨z, hz, rfl⟩ := Option.map_eq_some_iff.1 hk
    exact hx k z hz
  · rw [List.getElem?_map] at hx
    obtain ⟨z, hz, rfl⟩ := Option.map_eq_some_iff.1 hx
    exact h.2 k z l hz hk
theorem vls_els {w : World} {v : Value} {L : List (List Nd)} (h : Vls w v L) : ∃ zs, Els w zs L ∧ Row slc 1 w v zs := by
  obtain ⟨us, hl, hr, hx⟩ := h
  have key : ∀ (us : List Value) (L : List (List Nd)), us.length = L.length → (∀ (k : Nat) (x : Value) (l : List Nd), us[k]? = some x → L[k]? = some l → Nds w x l) →
      ∃ zs : List (Option Addr × Nat × Nat), zs.map (fun z => Value.slice z.1 z.2.1 z.2.2) = us ∧ Els w zs L := by
    intro us
    induction us with
    | nil => intro L hl _; exact ⟨[], rfl, by simpa using hl, fun k z l hz => by simp at hz⟩
    | cons x us ih =>
      intro L hl hx
      cases L with
      | nil => simp at hl
      | cons l L =>
        obtain ⟨zs, h1, h2, h3⟩ := ih L (by simpa using hl) (fun k y m hy hm => hx (k + 1) y m (by simpa using hy) (by simpa using hm))
        obtain ⟨A, c, h4, -⟩ := hx 0 x l rfl rfl
        refine ⟨(A, l.length, c) :: zs, by rw [List.map_cons, h1, h4], by simp [h2], fun k z m hz hm => ?_⟩
        match k, hz, hm with
        | 0, hz, hm => simp at hz hm; subst hz hm; rw [← h4]; exact hx 0 x _ rfl rfl
        | k + 1, hz, hm => exact h3 k z m (by simpa using hz) (by simpa using hm)
  obtain ⟨zs, h1, h2⟩ := key us L hl hx
  refine ⟨zs, h2, ?_⟩
  subst h1
  obtain ⟨A, c, hv, h3, h4, h5, h6⟩ := hr
  rw [List.length_map] at hv h3 h6
  refine ⟨A, c, hv, h3, h4, h5, fun h0 => ?_⟩
  obtain ⟨g, o, hA, hg, hx⟩ := h6 h0
  exact ⟨g, o, hA, hg, fun k z hz => hx k (.slice z.1 z.2.1 z.2.2) (by rw [List.getElem?_map, hz]; rfl)⟩
theorem Els.reverse {w : World} {zs : List (Option Addr × Nat × Nat)} {L : List (List Nd)} (h : Els w zs L) : Els w zs.reverse L.reverse := by
  refine ⟨by simp [h.1], fun k z l hz hl => ?_⟩
  have hk : k < zs.length := by have := (List.getElem?_eq_some_iff.1 hz).1; simpa using this
  rw [List.getElem?_reverse hk] at hz
  rw [List.getElem?_reverse (by rw [← h.1]; exact hk), ← h.1] at hl
  exact h.2 _ z l hz hl
theorem Els.snoc {w : World} {zs : List (Option Addr × Nat × Nat)} {L : List (List Nd)} {z : Option Addr × Nat × Nat} {l : List Nd} (h : Els w zs L) (hz : Nds w (.slice z.1 z.2.1 z.2.2) l) : Els w (zs ++ [z]) (L ++ [l]) := by
  refine ⟨by simp [h.1], fun k y m hy hm => ?_⟩
  rcases Nat.lt_or_ge k zs.length with hk | hk
  · rw [List.getElem?_append_left hk] at hy
    rw [List.getElem?_append_left (by rw [← h.1]; exact hk)] at hm
    exact h.2 k y m hy hm
  · rw [List.getElem?_append_right hk] at hy
    rw [List.getElem?_append_right (by rw [← h.1]; exact hk), ← h.1] at hm
    cases hkk : k - zs.length with
    | zero => rw [hkk] at hy hm; simp at hy hm; subst hy hm; exact hz
    | succ j => rw [hkk] at hy; simp at hy
/-- Two slices of the call's own: what is appended to one leaves the other as it was. -/
theorem Own.aside {α β : Type} {e1 : α → List Value} {s1 E1 : Nat} {e2 : β → List Value} {s2 E2 base base2 : Nat} {w w' : World} {v1 v2 : Value} {l1 : List α} {l2 : List β} (h1 : Own e1 s1 E1 base w v1 l1) (h2 : Own e2 s2 E2 base2 w v2 l2) (he : E1 ≠ E2)
    (hg : w.grownBy w' v2.ownBlock) : Own e1 s1 E1 base w' v1 l1 := by
  refine World.ownsRow.kept h1 (row := v2.ownBlock) hg ?_
  exact own_apart h1 h2 he
theorem GivesV.is {w w' : World} {L : List (List Nd)} {n : Nat} {e : Ending} (h : GivesV w L e w') (hn : L.length = n) : ∃ (A : Option Addr) (c : Nat), e = .returned (.slice A n c) ∧ Vls w' (.slice A n c) L ∧ Below w.heap.size w w' := by
  obtain ⟨v, rfl, ⟨us, h1, h2, h3⟩, h4⟩ := h
  obtain ⟨A, c, rfl, h5⟩ := h2
  have : us.length = n := h1.trans hn
  rw [this]
  exact ⟨A, c, rfl, ⟨us, h1, ⟨A, c, by rw [this], h5⟩, h3⟩, h4⟩
theorem GivesS.is {w w' : World} {L : List (List UInt8)} {n : Nat} {e : Ending} (h : GivesS w L e w') (hn : L.length = n) : ∃ (A : Option Addr) (c : Nat), e = .returned (.slice A n c) ∧ Sts w' (.slice A n c) L ∧ Below w.heap.size w w' := by
  obtain ⟨v, rfl, h2, h4⟩ := h
  obtain ⟨A, c, rfl, h5⟩ := h2
  rw [hn]
  exact ⟨A, c, rfl, ⟨A, c, by rw [hn], h5⟩, h4⟩
end Go.Proofs.YtfeiolklhkclgaaGreatDoor

/-
  Words for memory: what a call's own rows and boxes are, while a reader goes on; how a value's reading ends.
-/
namespace Go.Proofs.YtfeiolklhkclgaaGreatDoor
open Go.RowKit Np Rw Vp Up Qp Tp

theorem Kb.grownBy {B rb : Nat} {w w' : World} (h : Kb B rb w w') (hB : w.heap.size ≤ B) : w.grownBy w' (some rb) :=
  ⟨h.os, h.tape, h.output, h.size, fun k hk hne => h.block k (by omega) (fun e => hne (by rw [e]))⟩
/-- A row of the call's own is no reader. -/
theorem Own.kb {α : Type} {enc : α → List Value} {sz E base rb : Nat} {s : ByteArray} {i d : Nat} {w w' : World} {v : Value} {l : List α} (h : Own enc sz E base w v l) (hE : E ≠ 50) (hr : Rd rb s i d w) (hb : Kb w.heap.size rb w w') : Own enc sz E base w' v l := by
  refine World.ownsRow.kept h (hb.grownBy (Nat.le_refl _)) ?_
  rcases h.2 with ⟨rfl, _⟩ | ⟨g, cap, cur, rfl, _, hh, _⟩
  · exact .inl rfl
  · refine .inr (fun e => hE ?_)
    have e1 : g = rb := by simpa [Value.ownBlock] using e
    subst e1
    unfold Rd at hr
    rw [hr] at hh
    injection hh with hh
    injection hh with _ h2 _
    exact h2.symm
theorem Elems.kb {base rb : Nat} {s : ByteArray} {i d : Nat} {w w' : World} {zs : List (Option Addr × Nat × Nat)} {L : List (List Nd)} (h : Elems base w zs L) (hr : Rd rb s i d w) (hb : Kb w.heap.size rb w w') : Elems base w' zs L :=
  ⟨h.1, fun k z l h1 h2 => Own.kb (h.2 k z l h1 h2) (by decide) hr hb⟩
theorem Elems.asideT {base : Nat} {W W' : World} {v : Value} {xs zs : List (Option Addr × Nat × Nat)} {L : List (List Nd)} (h : Elems base W zs L) (hv : Own slc 1 24 base W v xs) (hg : W.grownBy W' v.ownBlock) : Elems base W' zs L :=
  ⟨h.1, fun k z l hz hl => Own.aside (h.2 k z l hz hl) hv (by decide) hg⟩
/-- A captured variable's block. -/
def Box (b T : Nat) (v : Value) (w : World) : Prop := w.heap[b]? = some (.cells #[v] T (0, 0))
section
variable {b T : Nat} {v : Value} {w w' : World}
theorem Box.lt (h : Box b T v w) : b < w.heap.size := (Array.getElem?_eq_some_iff.1 h).1
theorem Box.c (h : Box b T v w) : w.cell? ⟨b, 0, none⟩ = some v := cell_of_one h
theorem Box.f (h : Box b T v w) : w.frozen? ⟨b, 0, none⟩ = false := free_of_one h
theorem Box.kb {rb : Nat} {s : ByteArray} {i d : Nat} (h : Box b T v w) (hr : Rd rb s i d w) (hb : Kb w.heap.size rb w w') : Box b T v w' := by
  refine (hb.block b h.lt ?_).trans h
  rintro rfl
  unfold Rd at hr; unfold Box at h
  rw [hr] at h
  injection h with h
  injection h with h1
  have := congrArg Array.size h1
  simp at this
theorem Box.below {B : Nat} (h : Box b T v w) (hb : Below B w w') (hB : b < B) : Box b T v w' := (hb.block b hB).trans h
theorem Box.alloc (h : Box b T v w) (o : Obj) : Box b T v (w.alloc o) := (Below.heap_alloc w o b h.lt).trans h
theorem Box.drewN (h : Box b T v w) (n : Nat) : Box b T v (w.drewN n) := h
theorem Box.drew (h : Box b T v w) : Box b T v w.drew := h
theorem Box.new (w : World) (T : Nat) (v : Value) : Box w.heap.size T v (w.alloc (.cells #[v] T)) := heap_alloc_new w _
theorem Box.set (h : Box b T v w) (u : Value) : Box b T u (w.setCell ⟨b, 0, none⟩ u) := one_setCell h
theorem Box.other (h : Box b T v w) {p : Addr} (hp : p.block ≠ b) (u : Value) : Box b T v (w.setCell p u) := (Below.heap_setCell w p u b (Ne.symm hp)).trans h
theorem Box.ne_rd {rb : Nat} {s : ByteArray} {i d : Nat} (h : Box b T v w) (hr : Rd rb s i d w) : b ≠ rb := by
  rintro rfl
  unfold Rd at hr; unfold Box at h
  rw [hr] at h
  injection h with h
  injection h with h1
  have := congrArg Array.size h1
  simp at this
theorem Box.grown {row : Option Nat} (h : Box b T v w) (hg : w.grownBy w' row) (hr : row ≠ some b) : Box b T v w' := (hg.block b h.lt (Ne.symm hr)).trans h
/-- A box is no row of other elements. -/
theorem Box.own {α : Type} {enc : α → List Value} {sz E base : Nat} {x : Value} {l : List α} (h : Box b T v w) (hE : E ≠ T) (ho : Own enc sz E base w x l) : x.ownBlock ≠ some b := by
  rcases ho.2 with ⟨rfl, _⟩ | ⟨g, cap, cur, rfl, _, hh, _⟩
  · intro e; cases e
  · intro e
    have e1 : g = b := by simpa [Value.ownBlock] using e
    subst e1
    unfold Box at h
    rw [h] at hh
    injection hh with hh
    injection hh with _ h2 _
    exact hE h2.symm
end
theorem Own.box {α : Type} {enc : α → List Value} {sz E base b T : Nat} {w : World} {x v : Value} {l : List α} (ho : Own enc sz E base w x l) (h : Box b T v w) (hE : E ≠ T) (u : Value) : Own enc sz E base (w.setCell ⟨b, 0, none⟩ u) x l := by
  refine World.ownsRow.kept ho (row := some b) ⟨rfl, rfl, rfl, by simp, fun k hk hne => Below.heap_setCell _ _ _ _ (fun e => hne (by rw [e]))⟩ ?_
  rcases hv : x.ownBlock with _ | g
  · exact .inl rfl
  · exact .inr (by rw [← hv]; exact h.own hE ho)

/-- How the reading of a value ends. -/
def VlE (rb : Nat) (s : ByteArray) (d : Nat) (w : World) (R : Rs (List Nd)) (e : Ending) (w' : World) : Prop :=
  Kb w.heap.size rb w w' ∧ match R with
  | .ok v k => ∃ V, e = .returned V ∧ OwnN w.heap.size w' V v ∧ Rd rb s k d w'
  | .bad c p => e = flt c p
theorem VlE.ok {rb : Nat} {s : ByteArray} {d k : Nat} {w w' : World} {R : Rs (List Nd)} {v : List Nd} {V : Value} (hR : R = .ok v k) (h1 : Kb w.heap.size rb w w') (h2 : OwnN w.heap.size w' V v) (h3 : Rd rb s k d w') : VlE rb s d w R (.returned V) w' := by subst hR; exact ⟨h1, V, rfl, h2, h3⟩
theorem VlE.bad {rb : Nat} {s : ByteArray} {d p : Nat} {w w' : World} {R : Rs (List Nd)} {c : Int} (hR : R = .bad c p) (h1 : Kb w.heap.size rb w w') : VlE rb s d w R (flt c p) w' := by subst hR; exact ⟨h1, rfl⟩
/-- What one who reads a part does: what it has gathered lies in St. -/
def PtE {β : Type} (rb : Nat) (s : ByteArray) (d : Nat) (St : Nat → β → World → Prop) (base : World) (R : Rs β) (e : Ending) (w' : World) : Prop :=
  Kb base.heap.size rb base w' ∧ match R with
  | .ok v k => e = .returned (.tuple #[]) ∧ St k v w' ∧ Rd rb s k d w'
  | .bad c p => e = flt c p
theorem PtE.ok {β : Type} {rb : Nat} {s : ByteArray} {d k : Nat} {St : Nat → β → World → Prop} {base w' : World} {R : Rs β} {v : β} (hR : R = .ok v k) (h1 : Kb base.heap.size rb base w') (h2 : St k v w') (h3 : Rd rb s k d w') : PtE rb s d St base R (.returned (.tuple #[])) w' := by subst hR; exact ⟨h1, rfl, h2, h3⟩
theorem PtE.bad {β : Type} {rb : Nat} {s : ByteArray} {d p : Nat} {St : Nat → β → World → Prop} {base w' : World} {R : Rs β} {c : Int} (hR : R = .bad c p) (h1 : Kb base.heap.size rb base w') : PtE rb s d St base R (flt c p) w' := by subst hR; exact ⟨h1, rfl⟩
theorem PtE.flt {β : Type} {rb : Nat} {s : ByteArray} {d p : Nat} {St : Nat → β → World → Prop} {base w' : World} {R : Rs β} {c : Int} (hR : R = .bad c p) (q : Int) (hq : q = p) (h1 : Kb base.heap.size rb base w') : PtE rb s d St base R (.panicked [{ v := .iface 48 (.agg #[.int .i64 c, .int .i64 q]), recovered := false }]) w' := by subst hq; exact PtE.bad hR h1
end Go.Proofs.YtfeiolklhkclgaaGreatDoor

/-
  What the reader's parts is, whatever reads each part.
-/
namespace Go.Proofs.YtfeiolklhkclgaaGreatDoor
open Go.RowKit Np Rw Vp Up Qp Tp

theorem Rd.deeper {rb : Nat} {s : ByteArray} {i d : Nat} {w : World} (h : Rd rb s i d w) : Rd rb s i (d + 1) (w.setCell ⟨rb, 2, none⟩ (.int .i64 ((d : Int) + 1))) := h.into (d + 1)
theorem ptR_at {α β : Type} {rd : Nat → Rs α} {put : β → α → β} {zero : β} {S : List UInt8} {c j : Nat} (h : isAt S (j + 1) c = true) : ptR rd put zero S c j = .ok zero (sk S (j + 1) + 1) := by
  unfold ptR; rw [if_pos (isAt_iff.1 h)]
theorem ptR_not {α β : Type} {rd : Nat → Rs α} {put : β → α → β} {zero : β} {S : List UInt8} {c j : Nat} (h : isAt S (j + 1) c = false) : ptR rd put zero S c j = lpR rd put S c (S.length + 1) (sk S (j + 1)) zero := by
  unfold ptR; rw [if_neg (fun h' => by rw [isAt_iff.2 h'] at h; cases h)]
theorem lpA_at {α β : Type} {rd : Nat → Rs α} {put : β → α → β} {acc : β} {S : List UInt8} {c m k : Nat} (h : isAt S k c = true) : lpA rd put S c m k acc = .ok acc (sk S k + 1) := by
  unfold lpA; rw [if_pos (isAt_iff.1 h)]
theorem lpA_more {α β : Type} {rd : Nat → Rs α} {put : β → α → β} {acc : β} {S : List UInt8} {c m k : Nat} (h : isAt S k c = false) (h2 : isAt S k 44 = true) : lpA rd put S c m k acc = lpR rd put S c m (sk S k + 1) acc := by
  unfold lpA; rw [if_neg (fun h' => by rw [isAt_iff.2 h'] at h; cases h), if_pos (isAt_iff.1 h2)]
theorem lpA_bad {α β : Type} {rd : Nat → Rs α} {put : β → α → β} {acc : β} {S : List UInt8} {c m k : Nat} (h : isAt S k c = false) (h2 : isAt S k 44 = false) : lpA rd put S c m k acc = .bad 1 (sk S k) := by
  unfold lpA; rw [if_neg (fun h' => by rw [isAt_iff.2 h'] at h; cases h), if_neg (fun h' => by rw [isAt_iff.2 h'] at h2; cases h2)]
theorem past_not {S : List UInt8} {i c : Nat} (h : isAt S i c = false) : past S i c = sk S i := by unfold past; rw [h]; rfl
theorem past_at {S : List UInt8} {i c : Nat} (h : isAt S i c = true) : past S i c = sk S i + 1 := by unfold past; rw [h]; rfl
theorem isAt_sk (S : List UInt8) (i c : Nat) : isAt S (sk S i) c = isAt S i c := by unfold isAt; rw [sk_sk]

set_option maxHeartbeats 4000000 in
theorem parts_any {α β : Type} (K : Nat) (cap : Array Value) (c : Nat) (rd : Nat → Rs α) (put : β → α → β) (zero : β) (St : Nat → β → World → Prop) (base : World) (rb : Nat) (s : ByteArray) (j d : Nat) (w : World)
    (eK : ∀ args w, (callFunc K args).run Tryz.prog w = .ok (.enter K args) w) (hc : c ≠ 0) (hd : d < 128) (hj : j < s.size) (hs : s.size ≤ 200000)
    (hr : Rd rb s j d w) (hb : Kb base.heap.size rb base w) (h0 : St j zero w)
    (hk : ∀ i acc W W' k x, St i acc W → Rd rb s k x W → Kb W.heap.size rb W W' → St i acc W')
    (hm : ∀ i k acc W, St i acc W → i ≤ k → St k acc W)
    (hG : ∀ i v k, rd i = .ok v k → i < k ∧ k ≤ s.size)
    (HF : ∀ i acc W, j < i → i ≤ s.size → St (i - 1) acc W → Rd rb s i (d + 1) W → Kb base.heap.size rb base W → Calls Tryz.prog K cap W (PtE rb s (d + 1) St base (mapR (put acc) (rd i)))) :
    Calls Tryz.prog 57 #[.pointer (some ⟨rb, 0, none⟩), .int .u8 c, .func (.func K) #[] cap] w (PtE rb s d St base (ptR rd put zero s.data.toList c j)) := by
  have HR := Lib.hid hr
  have HB := Lib.hid hb
  have H0 := Lib.hid h0
  have HK := Lib.hid hk
  have HM := Lib.hid hm
  have HG := Lib.hid hG
  have HFF := Lib.hid HF
  have c1 := hr.c1
  have c2 := hr.c2
  have f1 := hr.fz 1
  have f2 := hr.fz 2
  have hdb : ((d : Int) == 128) = false := by simp; omega
  -- the world in which the first mark is passed
  have HR1 : Hid (Rd rb s (j + 1) (d + 1) ((w.setCell ⟨rb, 2, none⟩ (.int .i64 ((d : Int) + 1))).setCell ⟨rb, 1, none⟩ (.int .i64 ((j : Int) + 1)))) := Lib.hid hr.deeper.up
  have HB1 : Hid (Kb base.heap.size rb base ((w.setCell ⟨rb, 2, none⟩ (.int .i64 ((d : Int) + 1))).setCell ⟨rb, 1, none⟩ (.int .i64 ((j : Int) + 1)))) := Lib.hid ((hb.set 2 _).set 1 _)
  have H01 : Hid (St (sk s.data.toList (j + 1) - 1) zero ((w.setCell ⟨rb, 2, none⟩ (.int .i64 ((d : Int) + 1))).setCell ⟨rb, 1, none⟩ (.int .i64 ((j : Int) + 1)))) := Lib.hid (hm j _ _ _ (hk _ _ _ _ _ _ h0 hr (((Kb.refl _ _ _).set 2 _).set 1 _)) (by have := sk_ge s.data.toList (j + 1); omega))
  have HT := Lib.hid (fun W h => takes_any rb s (j + 1) (d + 1) c W h (by omega) hs)
  clear hr hb h0 hk hm hG HF
  have HZ : Hid (isAt s.data.toList (j + 1) c = true → ptR rd put zero s.data.toList c j = .ok zero (sk s.data.toList (j + 1) + 1)) := Lib.hid ptR_at
  have HL : Hid (isAt s.data.toList (j + 1) c = false → ptR rd put zero s.data.toList c j = lpR rd put s.data.toList c (s.data.toList.length + 1) (sk s.data.toList (j + 1)) zero) := Lib.hid ptR_not
  generalize ptR rd put zero s.data.toList c j = R at *
  go_enter Tryz.func57, Tryz.ntmps57
  go_wp2_with fail
  generalize (w.setCell ⟨rb, 2, none⟩ (.int .i64 ((d : Int) + 1))).setCell ⟨rb, 1, none⟩ (.int .i64 ((j : Int) + 1)) = W1 at HR1 HB1 H01 ⊢
  refine (HT.out W1 HR1.out).mono ?_
  rintro e w2 ⟨rfl, hr2, hk2⟩
  have HB2 : Hid (Kb base.heap.size rb base w2) := Lib.hid (HB1.out.trans (hk2.mono HB1.out.size))
  have H02 : Hid (St (sk s.data.toList (j + 1) - 1) zero w2) := Lib.hid (HK.out _ _ _ _ _ _ H01.out HR1.out hk2)
  have HS1 : sk s.data.toList (j + 1) ≤ s.size := sk_le (S := s.data.toList) (by show j + 1 ≤ s.size; omega)
  have HS2 : j + 1 ≤ sk s.data.toList (j + 1) := sk_ge _ _
  have HS3 : Hid (isAt s.data.toList (j + 1) c = true → sk s.data.toList (j + 1) + 1 ≤ s.size) := Lib.hid (fun h => by
    have := bt_lt (S := s.data.toList) (k := sk s.data.toList (j + 1)) (by rw [isAt_iff.1 h]; exact hc)
    exact this)
  have HPN : Hid (isAt s.data.toList (j + 1) c = false → past s.data.toList (j + 1) c = sk s.data.toList (j + 1)) := Lib.hid past_not
  have HPA : Hid (isAt s.data.toList (j + 1) c = true → past s.data.toList (j + 1) c = sk s.data.toList (j + 1) + 1) := Lib.hid past_at
  generalize isAt s.data.toList (j + 1) c = I at *
  generalize past s.data.toList (j + 1) c = Q at *
  generalize sk s.data.toList (j + 1) = T at *
  clear HB1 H01 HR1 hk2 HT
  cases I
  · -- parts
    have e1 := (HPN.out rfl).symm
    subst e1
    have HL2 := Lib.hid (HL.out rfl)
    have HR2 := Lib.hid hr2
    clear hr2 HL HZ HPN HPA HS3
    have HF1 := HFF.out T zero w2 (by omega) HS1 H02.out HR2.out HB2.out
    cases hrd : rd T with
    | bad er p =>
      rw [hrd] at HF1
      have HFB := Lib.hid HF1
      have HRR : Hid (R = .bad er p) := Lib.hid (by rw [HL2.out]; exact lpR_bad hrd)
      clear HF1 hrd
      go_wp2_with (go_at_fn K; refine HFB.out.mono ?_; rintro e3 w3 ⟨hk3, he⟩; unfold flt at he; subst he)
      exact ⟨rfl, PtE.bad HRR.out hk3⟩
    | ok v k =>
      rw [hrd] at HF1
      have HFB := Lib.hid HF1
      have HLA : Hid (R = lpA rd put s.data.toList c s.data.toList.length k (put zero v)) := Lib.hid (by rw [HL2.out]; exact lpR_ok hrd)
      have HGK := HG.out T v k hrd
      clear HF1 hrd HL2
      go_wp2_with (go_at_fn K; refine HFB.out.mono ?_; rintro e3 w3 ⟨hk3, rfl, hs3, hr3⟩)
      have HK3 := Lib.hid hk3
      have HS3 := Lib.hid hs3
      have HR3 := Lib.hid hr3
      clear hk3 hs3 hr3 HR2 HB2 H02 HFB
      go_loopw [] (fun wr => ∃ (m k : Nat) (acc : β), j < k ∧ k ≤ s.size ∧ s.size ≤ m + k ∧ Hid (R = lpA rd put s.data.toList c m k acc) ∧ Hid (St k acc wr) ∧ Hid (Rd rb s k (d + 1) wr) ∧ Hid (Kb base.heap.size rb base wr)) (fun wr => s.size - atOf rb wr)
      case atStart => exact ⟨s.data.toList.length, k, put zero v, by omega, HGK.2, by rw [size_toList]; omega, HLA, HS3, HR3, HK3⟩
      case round =>
        obtain ⟨m, k2, acc, hjk, hk2, hmk, HA, HS4, HR4, HB4⟩ := hrel
        have HT4 := takes_any rb s k2 (d + 1) c wr HR4.out hk2 hs
        have HSK : sk s.data.toList k2 ≤ s.size := sk_le (S := s.data.toList) hk2
        have HSK2 : k2 ≤ sk s.data.toList k2 := sk_ge _ _
        have HN4 := fun W (h : Rd rb s (sk s.data.toList k2) (d + 1) W) => needs_any rb s (sk s.data.toList k2) (d + 1) 44 W h HSK hs
        rw [sk_sk, isAt_sk] at HN4
        cases hI : isAt s.data.toList k2 c with
        | true =>
          rw [hI, past_at hI] at HT4
          have HA2 := HA.out
          rw [lpA_at hI] at HA2
          have HAA := Lib.hid HA2
          have HTT := Lib.hid HT4
          clear HA HA2 HT4 HN4 hI
          generalize sk s.data.toList k2 = T2 at *
          go_wp2_with (go_at_call 82; refine HTT.out.mono ?_; rintro e w4 ⟨rfl, hr4, hk4⟩; have d2 := hr4.c2; have g2 := hr4.fz 2; have HR5 : Hid (Rd rb s (T2 + 1) d (w4.setCell ⟨rb, 2, none⟩ (.int .i64 d))) := Lib.hid (hr4.into d); have HB5 : Hid (Kb base.heap.size rb base (w4.setCell ⟨rb, 2, none⟩ (.int .i64 d))) := Lib.hid ((HB4.out.trans (hk4.mono HB4.out.size)).set 2 _); have HS5 : Hid (St (T2 + 1) acc (w4.setCell ⟨rb, 2, none⟩ (.int .i64 d))) := Lib.hid (HM.out _ _ _ _ (HK.out _ _ _ _ _ _ HS4.out HR4.out (hk4.set 2 _)) (by omega)))
          go_end0
          exact PtE.ok HAA.out HB5.out HS5.out HR5.out
        | false =>
          rw [hI, past_not hI] at HT4
          have HTT := Lib.hid HT4
          clear HT4
          cases hJ : isAt s.data.toList k2 44 with
          | false =>
            have HA2 := HA.out
            rw [lpA_bad hI hJ] at HA2
            have HAA := Lib.hid HA2
            have HNN : Hid (∀ W, Rd rb s (sk s.data.toList k2) (d + 1) W → Calls Tryz.prog 61 #[.pointer (some ⟨rb, 0, none⟩), .int .u8 44] W fun e w' => Kb W.heap.size rb W w' ∧ e = flt 1 (sk s.data.toList k2)) := Lib.hid (fun W h => (HN4 W h).mono (by
              rintro e w' ⟨h1, ⟨h2, -⟩ | ⟨-, h2⟩⟩
              · rw [hJ] at h2; cases h2
              · exact ⟨h1, h2⟩))
            clear HA HA2 HN4 hI hJ
            generalize sk s.data.toList k2 = T2 at *
            go_wp2_with (first
              | (go_at_call 82; refine HTT.out.mono ?_; rintro e w4 ⟨rfl, hr4, hk4⟩; have HB5 : Hid (Kb base.heap.size rb base w4) := Lib.hid (HB4.out.trans (hk4.mono HB4.out.size)); have HR5 := Lib.hid hr4)
              | (go_at_call 61; refine (HNN.out _ HR5.out).mono ?_; rintro e w5 ⟨hk5, he⟩; unfold flt at he; subst he))
            exact ⟨rfl, PtE.bad HAA.out (HB5.out.trans (hk5.mono HB5.out.size))⟩
          | true =>
            have HA2 := HA.out
            rw [lpA_more hI hJ] at HA2
            have hlt : sk s.data.toList k2 < s.size := bt_lt (S := s.data.toList) (k := sk s.data.toList k2) (by rw [isAt_iff.1 hJ]; decide)
            have HNN : Hid (∀ W, Rd rb s (sk s.data.toList k2) (d + 1) W → Calls Tryz.prog 61 #[.pointer (some ⟨rb, 0, none⟩), .int .u8 44] W fun e w' => Kb W.heap.size rb W w' ∧ e = .returned (.tuple #[]) ∧ Rd rb s (sk s.data.toList k2 + 1) (d + 1) w') := Lib.hid (fun W h => (HN4 W h).mono (by
              rintro e w' ⟨h1, ⟨-, h2⟩ | ⟨h2, -⟩⟩
              · exact ⟨h1, h2⟩
              · rw [hJ] at h2; cases h2))
            obtain ⟨m2, rfl⟩ : ∃ m2, m = m2 + 1 := ⟨m - 1, by omega⟩
            have HAA := Lib.hid HA2
            clear HA HA2 HN4 hI hJ
            generalize sk s.data.toList k2 = T2 at *
            have HF5 : Hid (∀ W W0, Kb base.heap.size rb base W0 → Kb wr.heap.size rb wr W0 → Rd rb s T2 (d + 1) W0 → Kb W0.heap.size rb W0 W → Rd rb s (T2 + 1) (d + 1) W → Calls Tryz.prog K cap W (PtE rb s (d + 1) St base (mapR (put acc) (rd (T2 + 1))))) := Lib.hid (fun W W0 h1 h2 h3 h4 h5 =>
              HFF.out (T2 + 1) acc W (by omega) (by omega) (HM.out _ _ _ _ (HK.out _ _ _ _ _ _ (HK.out _ _ _ _ _ _ HS4.out HR4.out h2) h3 h4) (by omega)) h5 (h1.trans (h4.mono h1.size)))
            cases hrd : rd (T2 + 1) with
            | bad er p =>
              rw [hrd] at HF5
              have HRR : Hid (R = .bad er p) := Lib.hid (by rw [HAA.out]; exact lpR_bad hrd)
              clear hrd
              go_wp2_with (first
                | (go_at_call 82; refine HTT.out.mono ?_; rintro e w4 ⟨rfl, hr4, hk4⟩; have HB5 : Hid (Kb base.heap.size rb base w4) := Lib.hid (HB4.out.trans (hk4.mono HB4.out.size)); have HR5 := Lib.hid hr4; have HK5 := Lib.hid hk4)
                | (go_at_call 61; refine (HNN.out _ HR5.out).mono ?_; rintro e w5 ⟨hk5, rfl, hr5⟩; have HK6 := Lib.hid hk5; have HR6 := Lib.hid hr5)
                | (go_at_fn K; refine (HF5.out _ _ HB5.out HK5.out HR5.out HK6.out HR6.out).mono ?_; rintro e3 w6 ⟨hk6, he⟩; unfold flt at he; subst he))
              exact ⟨rfl, PtE.bad HRR.out hk6⟩
            | ok v k3 =>
              rw [hrd] at HF5
              have HRR : Hid (R = lpA rd put s.data.toList c m2 k3 (put acc v)) := Lib.hid (by rw [HAA.out]; exact lpR_ok hrd)
              have hgk := HG.out _ v k3 hrd
              clear hrd
              go_wp2_with (first
                | (go_at_call 82; refine HTT.out.mono ?_; rintro e w4 ⟨rfl, hr4, hk4⟩; have HB5 : Hid (Kb base.heap.size rb base w4) := Lib.hid (HB4.out.trans (hk4.mono HB4.out.size)); have HR5 := Lib.hid hr4; have HK5 := Lib.hid hk4)
                | (go_at_call 61; refine (HNN.out _ HR5.out).mono ?_; rintro e w5 ⟨hk5, rfl, hr5⟩; have HK6 := Lib.hid hk5; have HR6 := Lib.hid hr5)
                | (go_at_fn K; refine (HF5.out _ _ HB5.out HK5.out HR5.out HK6.out HR6.out).mono ?_; rintro e3 w6 ⟨hk6, rfl, hs6, hr6⟩; have HK7 := Lib.hid hk6; have HS7 := Lib.hid hs6; have HR7 := Lib.hid hr6))
              refine ⟨⟨m2, k3, put acc v, by omega, hgk.2, by omega, HRR, HS7, HR7, HK7⟩, ?_⟩
              rw [HR7.out.atOf, HR4.out.atOf]
              omega
  · have e1 := HPA.out rfl
    subst e1
    have HZ2 := Lib.hid (HZ.out rfl)
    have c2' := hr2.c2
    have f2' := hr2.fz 2
    have HR2 := Lib.hid hr2
    have HR3 : Hid (Rd rb s (T + 1) d (w2.setCell ⟨rb, 2, none⟩ (.int .i64 d))) := Lib.hid (hr2.into d)
    have HB3 : Hid (Kb base.heap.size rb base (w2.setCell ⟨rb, 2, none⟩ (.int .i64 d))) := Lib.hid (HB2.out.set 2 _)
    have H03 : Hid (St (T + 1) zero (w2.setCell ⟨rb, 2, none⟩ (.int .i64 d))) := Lib.hid (HM.out _ _ _ _ (HK.out _ _ _ _ _ _ H02.out hr2 ((Kb.refl _ _ _).set 2 _)) (by omega))
    clear hr2 HL HZ HPN HPA HS3
    go_wp2_with fail
    go_end0
    exact PtE.ok HZ2.out HB3.out H03.out HR3.out
end Go.Proofs.YtfeiolklhkclgaaGreatDoor

/-
  What the reader's list is: what its closure gathers.
-/
namespace Go.Proofs.YtfeiolklhkclgaaGreatDoor
open Go.RowKit Np Rw Vp Up Qp Tp

/-- A row of the call's own lies in no block of other elements. -/
theorem Own.ne {α : Type} {enc : α → List Value} {sz E base b T : Nat} {cs : Array Value} {fz : Nat × Nat} {w : World} {x : Value} {l : List α} (ho : Own enc sz E base w x l) (h : w.heap[b]? = some (.cells cs T fz)) (hE : E ≠ T) : x.ownBlock ≠ some b := by
  rcases ho.2 with ⟨rfl, _⟩ | ⟨g, cap, cur, rfl, _, hh, _⟩
  · intro e; cases e
  · intro e
    have e1 : g = b := by simpa [Value.ownBlock] using e
    subst e1
    rw [h] at hh
    injection hh with hh
    injection hh with _ h2 _
    exact hE h2.symm
theorem Elems.box {base b T : Nat} {w : World} {v : Value} {zs : List (Option Addr × Nat × Nat)} {L : List (List Nd)} (h : Elems base w zs L) (hb : Box b T v w) (hT : 36 ≠ T) (u : Value) : Elems base (w.setCell ⟨b, 0, none⟩ u) zs L :=
  ⟨h.1, fun k z l h1 h2 => Own.box (h.2 k z l h1 h2) hb hT u⟩
theorem Elems.mono {b b' : Nat} {w : World} {zs : List (Option Addr × Nat × Nat)} {L : List (List Nd)} (h : Elems b w zs L) (hb : b' ≤ b) : Elems b' w zs L := ⟨h.1, fun k z l h1 h2 => (h.2 k z l h1 h2).mono hb⟩
theorem Elems.alloc {b : Nat} {w : World} {zs : List (Option Addr × Nat × Nat)} {L : List (List Nd)} (h : Elems b w zs L) (o : Obj) : Elems b (w.alloc o) zs L := ⟨h.1, fun k z l h1 h2 => (h.2 k z l h1 h2).alloc o⟩
theorem Box.apart {b1 b2 T1 T2 : Nat} {v1 v2 : Value} {w : World} (h1 : Box b1 T1 v1 w) (h2 : Box b2 T2 v2 w) (hT : T1 ≠ T2) : b1 ≠ b2 := by
  rintro rfl
  unfold Box at h1 h2
  rw [h1] at h2
  injection h2 with h
  injection h with _ h _
  exact hT h

/-- What a list has gathered. -/
structure LiSt (b0 b1 b2 rb j i : Nat) (acc : List (List Nd)) (W : World) : Prop where
  few : LiP j (i + 1) acc
  bx : Box b1 68 (.pointer (some ⟨rb, 0, none⟩)) W
  row : ∃ v zs, Box b2 44 v W ∧ Own slc 1 24 b0 W v zs ∧ Elems b0 W zs acc
theorem LiSt.kb {b0 b1 b2 rb j i k x : Nat} {s : ByteArray} {acc : List (List Nd)} {W W' : World} (h : LiSt b0 b1 b2 rb j i acc W) (hr : Rd rb s k x W) (hk : Kb W.heap.size rb W W') : LiSt b0 b1 b2 rb j i acc W' := by
  obtain ⟨h1, h2, v, zs, h3, h4, h5⟩ := h
  exact ⟨h1, h2.kb hr hk, v, zs, h3.kb hr hk, h4.kb (by decide) hr hk, h5.kb hr hk⟩
theorem LiSt.up {b0 b1 b2 rb j i k : Nat} {acc : List (List Nd)} {W : World} (h : LiSt b0 b1 b2 rb j i acc W) (hk : i ≤ k) : LiSt b0 b1 b2 rb j k acc W := ⟨h.few.up (by omega), h.bx, h.row⟩

section
variable {b0 b1 b2 rb j k d m c g cap : Nat} {s : ByteArray} {acc : List (List Nd)} {vv : List Nd} {zs : List (Option Addr × Nat × Nat)} {v : Value} {A : Option Addr} {base W2 w3 : World}
/-- Behind the append: what the store wants. -/
theorem li_mid {y : Value} {T1 : Nat} (hb2 : Box b2 T1 v W2) (ho : Own slc 1 24 b0 W2 v zs) (hT : 24 ≠ T1) (hg : (W2.alloc (.cells #[y] 24)).grownBy w3 v.ownBlock) : Box b2 T1 v w3 :=
  (hb2.alloc _).grown hg (hb2.own hT ho)
theorem li_close (hr2 : Rd rb s k d W2) (hb1 : Box b1 68 (.pointer (some ⟨rb, 0, none⟩)) W2) (hb2 : Box b2 44 v W2) (ho : Own slc 1 24 b0 W2 v zs) (he : Elems b0 W2 zs acc) (hV : OwnN b0 W2 (.slice A m c) vv)
    (hkb : Kb base.heap.size rb base W2) (hb0 : base.heap.size ≤ b0) (hbb : base.heap.size ≤ b2) 
    (hown : w3.ownsRow b0 24 1 (.slice (some ⟨g, 0, none⟩) (zs.length + 1) cap) (zs.length + 1) (zs.flatMap slc ++ [.slice A m c])) (hg : (W2.alloc (.cells #[.slice A m c] 24)).grownBy w3 v.ownBlock) (hP : LiP j (k + 1) (Tp.snoc acc vv)) :
    PtE rb s d (LiSt b0 b1 b2 rb j) base (.ok (Tp.snoc acc vv) k) (.returned (.tuple #[])) (w3.setCell ⟨b2, 0, none⟩ (.slice (some ⟨g, 0, none⟩) (zs.length + 1) cap)) := by
  have hne := hb1.apart hb2 (by decide)
  have hnr := hb2.ne_rd hr2
  have hb2' := li_mid hb2 ho (by decide) hg
  have hb1'' : Box b1 68 (.pointer (some ⟨rb, 0, none⟩)) w3 := (hb1.alloc _).grown hg (hb1.own (by decide) ho)
  have hr3 : Rd rb s k d w3 := (hr2.alloc _).grown hg (ho.ne hr2 (by decide))
  have ho3 : Own slc 1 24 b0 w3 (.slice (some ⟨g, 0, none⟩) (zs.length + 1) cap) (zs ++ [(A, m, c)]) := by
    unfold Own
    rw [List.length_append, List.length_singleton, List.flatMap_append]
    exact hown
  have he3 : Elems b0 w3 zs acc := (he.alloc _).asideT (ho.alloc _) hg
  have hV3 : OwnN b0 w3 (.slice A m c) vv := Own.aside (hV.alloc _) (ho.alloc _) (by decide) hg
  have hk3 : Kb base.heap.size rb base w3 := (hkb.alloc hkb.size _).grown hg (by have := hkb.size; simp; omega) (fun k' hk' => by
    have := (World.ownsRow.lt ho k' hk').1; omega)
  refine PtE.ok rfl ?_ ⟨hP, ?_, _, zs ++ [(A, m, c)], hb2'.set _, ho3.box hb2' (by decide) _, ?_⟩ (hr3.other hnr _)
  · exact hk3.setHigh hbb _
  · exact hb1''.other (Ne.symm hne) _
  · exact (he3.snoc hV3).box hb2' (by decide) _
end

set_option maxRecDepth 100000 in
set_option maxHeartbeats 4000000 in
theorem list1_any (rd : Nat → Rs (List Nd)) (base : World) (rb : Nat) (s : ByteArray) (b0 b1 b2 j i d : Nat) (acc : List (List Nd)) (W : World) (hs : s.size ≤ 200000)
    (hSt : LiSt b0 b1 b2 rb j (i - 1) acc W) (hr : Rd rb s i d W) (hb : Kb base.heap.size rb base W) (hb0 : base.heap.size ≤ b0) (hb2 : base.heap.size ≤ b2) (hbs : b0 ≤ W.heap.size) (hi : 1 ≤ i) (his : i ≤ s.size)
    (hG : ∀ v k, rd i = .ok v k → i < k ∧ k ≤ s.size ∧ 1 ≤ v.length ∧ 2 * v.length + i ≤ k + 1)
    (HV : ∀ m, Calls Tryz.prog 22 #[.pointer (some ⟨rb, 0, none⟩)] (W.drewN m) (VlE rb s d (W.drewN m) (rd i))) :
    Calls Tryz.prog 58 #[.pointer (some ⟨b2, 0, none⟩), .pointer (some ⟨b1, 0, none⟩)] W (PtE rb s d (LiSt b0 b1 b2 rb j) base (mapR (Tp.snoc acc) (rd i))) := by
  obtain ⟨hP, hx1, v, zs, hx2, ho, he⟩ := hSt
  obtain ⟨iv, hiv, hz0, hz1, hz2⟩ := info_parts val_info
  have a1 := hx1.c
  have a2 := hx2.c
  have hzl : zs.length ≤ 100000 := by
    have := hP.few
    have := he.1
    omega
  have HV1 := HV 1
  cases hrd : rd i with
  | bad er p =>
    rw [hrd] at HV1
    have HVB : Hid (Calls Tryz.prog 22 #[.pointer (some ⟨rb, 0, none⟩)] W.drew (VlE rb s d W.drew (.bad er p))) := Lib.hid HV1
    have HB := Lib.hid hb
    clear HV HV1 hG hrd ho he hx1 hx2 hP hb
    go_enter Tryz.func58, Tryz.ntmps58
    go_upto_region 0 with fail
    refine wp_region_any (by kernel_rfl) ?_
    try (change wpAny _ _ _ _ _ _ _ (World.drew _))
    refine wpAny_ready (rs := [0, 1]) (by kernel_rfl) (by simp) ?_
    refine AllReady.cons rfl (fun K hK => ?_) (AllReady.cons rfl (fun K hK => ?_) AllReady.nil)
    · go_simp
      refine hK _ _ ?_
      clear hK K
      refine wpAny_ready (rs := [1]) (by kernel_rfl) (by simp) ?_
      refine AllReady.cons rfl (fun K hK => ?_) AllReady.nil
      go_simp
      refine hK _ _ ?_
      clear hK K
      refine wpAny_ready (rs := [2]) (by kernel_rfl) (by simp) ?_
      refine AllReady.cons rfl (fun K hK => ?_) AllReady.nil
      go_simp
      go_wp2_with (go_at_call 22; refine HVB.out.mono ?_; rintro e w2 ⟨hk2, he⟩; unfold flt at he; subst he)
      exact ⟨rfl, PtE.bad rfl (HB.out.drew.trans (hk2.mono HB.out.size))⟩
    · go_simp
      refine hK _ _ ?_
      clear hK K
      refine wpAny_ready (rs := [0, 2]) (by kernel_rfl) (by simp) ?_
      refine AllReady.cons rfl (fun K hK => ?_) (AllReady.cons rfl (fun K hK => ?_) AllReady.nil)
      · go_simp
        refine hK _ _ ?_
        clear hK K
        refine wpAny_ready (rs := [2]) (by kernel_rfl) (by simp) ?_
        refine AllReady.cons rfl (fun K hK => ?_) AllReady.nil
        go_simp
        go_wp2_with (go_at_call 22; refine HVB.out.mono ?_; rintro e w2 ⟨hk2, he⟩; unfold flt at he; subst he)
        exact ⟨rfl, PtE.bad rfl (HB.out.drew.trans (hk2.mono HB.out.size))⟩
      · go_simp
        go_wp2_with (go_at_call 22; refine HVB.out.mono ?_; rintro e w2 ⟨hk2, he⟩; unfold flt at he; subst he)
        exact ⟨rfl, PtE.bad rfl (HB.out.drew.trans (hk2.mono HB.out.size))⟩
  | ok vv k =>
    rw [hrd] at HV1
    have hgk := hG vv k hrd
    have HVO : Hid (Calls Tryz.prog 22 #[.pointer (some ⟨rb, 0, none⟩)] W.drew (fun e w2 => ∃ (A : Option Addr) (m c : Nat), e = .returned (.slice A m c) ∧ Hid (OwnN b0 w2 (.slice A m c) vv) ∧ Hid (Rd rb s k d w2) ∧ Hid (Kb W.heap.size rb W w2))) := Lib.hid (HV1.mono (by
      rintro e w2 ⟨hk2, V, rfl, hV, hr2⟩
      obtain ⟨A, c, rfl, -⟩ := hV.form
      exact ⟨A, vv.length, c, rfl, Lib.hid (hV.mono hbs), Lib.hid hr2, Lib.hid (((Kb.refl _ _ W).drew).trans hk2)⟩))
    have HP : Hid (LiP j (k + 1) (Tp.snoc acc vv)) := Lib.hid (LiP.snoc (i := i) (k := k) (by rw [show i - 1 + 1 = i by omega] at hP; exact hP) hgk.2.2.1 (by omega) (by omega))
    have HR := Lib.hid hr
    have HB := Lib.hid hb
    have HO := Lib.hid ho
    have HE := Lib.hid he
    have HX1 := Lib.hid hx1
    have HX2 := Lib.hid hx2
    clear HV HV1 hG hrd ho he hx1 hx2 hP hb hr
    go_enter Tryz.func58, Tryz.ntmps58
    go_upto_region 0 with fail
    go_region_law (first
      | (refine step_append_lies _ (by rfl) _ _ _ (by rfl) b0 _ iv (.slice none 0 0) 1 24 Tryz.underlying44 hiv hz0 hz1 hz2 (by decide) (by decide) v zs.length (zs.flatMap slc) (by rfl) (HO2.out.alloc _) ⟨w2.heap.size, 0, none⟩ 1 1 [.slice A m c] (by rfl) (by rfl) (World.news_of_block (heap_alloc_new w2 _)) (by intro u hu; simp at hu; subst hu; rfl) (by decide) (by unfold maxLen; omega) (by omega) (by have := HK2.out.size; simp; omega) (w2.heap.size + 1) (by simp) ?_; intro g cap w3 hown hgrow hat hlt; have hx3 := li_mid HX3.out HO2.out (by decide) hgrow; have e3 := hx3.c; have g3 := hx3.f; have HX4 := Lib.hid hx3; have HOW := Lib.hid hown; have HGR := Lib.hid hgrow; clear hx3 hown hgrow)
      | (go_simp; go_wp2_with (go_at_call 22; refine HVO.out.mono ?_; rintro e w2 ⟨A, m, c, rfl, HV2, HR2, HK2⟩; have x3 := HX2.out.kb HR.out HK2.out; have c3 := x3.c; have f3 := x3.f; have HX3 := Lib.hid x3; have hl3 := x3.lt; have hn3 : ¬ b2 = w2.heap.size := Nat.ne_of_lt x3.lt; have HO2 := Lib.hid (HO.out.kb (by decide) HR.out HK2.out); clear x3)))
    all_goals go_end0
    all_goals exact li_close HR2.out (HX1.out.kb HR.out HK2.out) HX3.out HO2.out (HE.out.kb HR.out HK2.out) HV2.out (HB.out.trans (HK2.out.mono HB.out.size)) hb0 hb2 HOW.out HGR.out HP.out
end Go.Proofs.YtfeiolklhkclgaaGreatDoor

/-
  What the reader's list is.
-/
namespace Go.Proofs.YtfeiolklhkclgaaGreatDoor
open Go.RowKit Np Rw Vp Up Qp Tp

set_option maxRecDepth 100000 in
set_option maxHeartbeats 4000000 in
theorem rdList_any (rd : Nat → Rs (List Nd)) (rb : Nat) (s : ByteArray) (j d : Nat) (w : World) (hr : Rd rb s j d w) (hd : d < 128) (hj : j < s.size) (hs : s.size ≤ 200000) (hG : Goes s.data.toList rd)
    (HV : ∀ i W, i ≤ s.size → Rd rb s i (d + 1) W → Kb w.heap.size rb w W → Calls Tryz.prog 22 #[.pointer (some ⟨rb, 0, none⟩)] W (VlE rb s (d + 1) W (rd i))) :
    Calls Tryz.prog 32 #[.pointer (some ⟨rb, 0, none⟩)] w (VlE rb s d w (mapR liV (ptR rd Tp.snoc [] s.data.toList 93 j))) := by
  have eK : ∀ args w, (callFunc 58 args).run Tryz.prog w = .ok (.enter 58 args) w := enters_of Tryz.func58 (by kernel_rfl) rfl
  have hG' : ∀ i v k, rd i = .ok v k → i < k ∧ k ≤ s.size ∧ 1 ≤ v.length ∧ 2 * v.length + i ≤ k + 1 := fun i v k h => hG i v k h
  have hmf : ∀ (fn : Fn) (first cap : Array Value) (w : World), (Instr.makeFunc fn first cap).run Tryz.prog w = .ok (.func fn first cap) w := fun _ _ _ _ => rfl
  -- the two boxes
  have HW2 : Hid (Rd rb s j d ((w.alloc (.cells #[.pointer (some ⟨rb, 0, none⟩)] 68)).alloc (.cells #[.slice none 0 0] 44)) ∧ Kb w.heap.size rb w ((w.alloc (.cells #[.pointer (some ⟨rb, 0, none⟩)] 68)).alloc (.cells #[.slice none 0 0] 44)) ∧ LiSt w.heap.size w.heap.size (w.heap.size + 1) rb j j [] ((w.alloc (.cells #[.pointer (some ⟨rb, 0, none⟩)] 68)).alloc (.cells #[.slice none 0 0] 44))) := Lib.hid (by
    refine ⟨(hr.alloc _).alloc _, ((Kb.refl _ _ _).alloc (Nat.le_refl _) _).alloc (by simp) _, LiP.zero (by omega), (Box.new w _ _).alloc _, .slice none 0 0, [], ?_, Own.nil _, rfl, fun k z l h => by simp at h⟩
    have := Box.new (w.alloc (.cells #[.pointer (some ⟨rb, 0, none⟩)] 68)) 44 (.slice none 0 0)
    simpa using this)
  have HPT : Hid (∀ W, Rd rb s j d W → Kb w.heap.size rb w W → LiSt w.heap.size w.heap.size (w.heap.size + 1) rb j j [] W → Calls Tryz.prog 57 #[.pointer (some ⟨rb, 0, none⟩), .int .u8 93, .func (.func 58) #[] #[.pointer (some ⟨w.heap.size + 1, 0, none⟩), .pointer (some ⟨w.heap.size, 0, none⟩)]] W (PtE rb s d (LiSt w.heap.size w.heap.size (w.heap.size + 1) rb j) w (ptR rd Tp.snoc [] s.data.toList 93 j))) := Lib.hid (fun W h1 h2 h3 =>
    parts_any 58 _ 93 rd Tp.snoc [] (LiSt w.heap.size w.heap.size (w.heap.size + 1) rb j) w rb s j d W eK (by decide) hd hj hs h1 h2 h3
      (fun i acc W W' k x a b c => a.kb b c) (fun i k acc W a b => a.up b) (fun i v k h => ⟨(hG' i v k h).1, (hG' i v k h).2.1⟩)
      (fun i acc W a b c x y => list1_any rd w rb s w.heap.size w.heap.size (w.heap.size + 1) j i (d + 1) acc W hs c x y (Nat.le_refl _) (by omega) y.size (by omega) b (fun v k h => hG' i v k h) (fun m => HV i (W.drewN m) b (x.drewN m) (y.drewN m))))
  have HPE : Hid (∀ p acc, ptR rd Tp.snoc [] s.data.toList 93 j = .ok acc p → p ≤ s.size) := Lib.hid (fun p acc h => (ptR_inv (by decide) (LiP j) (liP_step hG j) hj (fun k hk => LiP.zero hk) h).2.1)
  clear HV hG hG' eK hr
  generalize ptR rd Tp.snoc [] s.data.toList 93 j = R at *
  go_enter Tryz.func32, Tryz.ntmps32
  go_wp2_with fail
  cases R with
  | bad er p =>
    refine (HPT.out _ HW2.out.1 HW2.out.2.1 HW2.out.2.2).mono ?_
    rintro e w3 ⟨hk3, he⟩
    unfold flt at he
    subst he
    go_wp2_with fail
    exact ⟨rfl, VlE.bad rfl hk3⟩
  | ok acc p =>
    refine (HPT.out _ HW2.out.1 HW2.out.2.1 HW2.out.2.2).mono ?_
    rintro e w3 ⟨hk3, rfl, ⟨hP, hx1, v, zs, hx2, ho, he⟩, hr3⟩
    have c3 := hx2.c
    have hps : p ≤ s.size := HPE.out p acc rfl
    have hfew := hP.few
    have HL := Lib.hid (list_any v acc w3 (he.vls (ho.row slc_len)) (by omega) (by omega))
    have HK := Lib.hid hk3
    have HR := Lib.hid hr3
    clear HPT HW2 hk3 hr3 ho he hP hx1 hx2 hfew
    go_wp2_with (go_at_call 59; refine HL.out.mono ?_; rintro e w4 ⟨V, rfl, hV, hb4⟩)
    go_ret
    exact VlE.ok (v := liV acc) rfl (HK.out.trans ((Kb.of hb4).mono HK.out.size)) (hV.mono HK.out.size) (HR.out.below hb4 HR.out.lt)
end Go.Proofs.YtfeiolklhkclgaaGreatDoor
