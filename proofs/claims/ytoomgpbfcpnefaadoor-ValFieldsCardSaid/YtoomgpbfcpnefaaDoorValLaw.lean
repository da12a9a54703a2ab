/-
  Words for the statements on values: a slice of slices, element by element; one more behind a slice of the call's own.
-/
import Derived.Test.YtoomgpbfcpnefaaDoorAlive
import Derived.Test.YtoomgpbfcpnefaaDoorObjP2
namespace Go.Proofs.YtoomgpbfcpnefaaDoor
open Go.RowKit Np Rw Vp

/-- Slices that read as these rows. -/
def Els (w : World) (zs : List (Option Addr × Nat × Nat)) (L : List (List Nd)) : Prop := zs.length = L.length ∧ ∀ (k : Nat) (z : Option Addr × Nat × Nat) (l : List Nd), zs[k]? = some z → L[k]? = some l → Nds w (.slice z.1 z.2.1 z.2.2) l
theorem Els.below {w w' : World} {zs : List (Option Addr × Nat × Nat)} {L : List (List Nd)} (h : Els w zs L) (hb : Below w.heap.size w w') : Els w' zs L := ⟨h.1, fun k z l hz hl => (h.2 k z l hz hl).below hb⟩
theorem Els.vls {w : World} {v : Value} {zs : List (Option Addr × Nat × Nat)} {L : List (List Nd)} (h : Els w zs L) (hr : Row slc 1 w v zs) : Vls w v L := by
  refine ⟨zs.map fun z => .slice z.1 z.2.1 z.2.2, by rw [List.length_map]; exact h.1, ?_, fun k x l hx hk => ?_⟩
  · obtain ⟨A, c, hv, h1, h2, h3, h4⟩ := hr
    refine ⟨A, c, by rw [List.length_map]; exact hv, by rw [List.length_map]; exact h1, h2, h3, fun h0 => ?_⟩
    obtain ⟨g, o, hA, hg, hx⟩ := h4 (by rwa [List.length_map] at h0)
    refine ⟨g, o, hA, hg, fun k x hk => ?_⟩
    rw [List.getElem?_map] at hk
    obtain ⟨z, hz, rfl⟩ := Option.map_eq_some_iff.1 hk
    exact hx k z hz
  · rw [List.getElem?_map] at hx
    obtain ⟨z, hz, rfl⟩ := Option.map_eq_some_iff.1 hx
    exact h.2 k z l hz hk
theorem vls_els {w : World} {v : Value} {L : List (List Nd)} (h : Vls w v L) : ∃ zs, Els w zs L ∧ Row slc 1 w v zs := by
  obtain ⟨us, hl, hr, hx⟩ := h
  have key : ∀ (us : List Value) (L : List (List Nd)), us.length = L.length → (∀ (k : Nat) (x : Value) (l : List Nd), us[k]? = some x → L[k]? = some l → Nds w x l) →
      ∃ zs : List (Option Addr × Nat × Nat), zs.map (fun z => Value.slice z.1 z.2.1 z.2.2) = us ∧ Els w zs L := by
    intro us
    induction us with
    | nil => intro L hl _; exact ⟨[], rfl, by simpa using hl, fun k z l hz => by simp at hz⟩
    | cons x us ih =>
      intro L hl hx
      cases L with
      | nil => simp at hl
      | cons l L =>
        obtain ⟨zs, h1, h2, h3⟩ := ih L (by simpa using hl) (fun k y m hy hm => hx (k + 1) y m (by simpa using hy) (by simpa using hm))
        obtain ⟨A, c, h4, -⟩ := hx 0 x l rfl rfl
        refine ⟨(A, l.length, c) :: zs, by rw [List.map_cons, h1, h4], by simp [h2], fun k z m hz hm => ?_⟩
        match k, hz, hm with
        | 0, hz, hm => simp at hz hm; subst hz hm; rw [← h4]; exact hx 0 x _ rfl rfl
        | k + 1, hz, hm => exact h3 k z m (by simpa using hz) (by simpa using hm)
  obtain ⟨zs, h1, h2⟩ := key us L hl hx
  refine ⟨zs, h2, ?_⟩
  subst h1
  obtain ⟨A, c, hv, h3, h4, h5, h6⟩ := hr
  rw [List.length_map] at hv h3 h6
  refine ⟨A, c, hv, h3, h4, h5, fun h0 => ?_⟩
  obtain ⟨g, o, hA, hg, hx⟩ := h6 h0
  exact ⟨g, o, hA, hg, fun k z hz => hx k (.slice z.1 z.2.1 z.2.2) (by rw [List.getElem?_map, hz]; rfl)⟩
theorem Els.reverse {w : World} {zs : List (Option Addr × Nat × Nat)} {L : List (List Nd)} (h : Els w zs L) : Els w zs.reverse L.reverse := by
  refine ⟨by simp [h.1], fun k z l hz hl => ?_⟩
  have hk : k < zs.length := by have := (List.getElem?_eq_some_iff.1 hz).1; simpa using this
  rw [List.getElem?_reverse hk] at hz
  rw [List.getElem?_reverse (by rw [← h.1]; exact hk), ← h.1] at hl
  exact h.2 _ z l hz hl
theorem Els.snoc {w : World} {zs : List (Option Addr × Nat × Nat)} {L : List (List Nd)} {z : Option Addr × Nat × Nat} {l : List Nd} (h : Els w zs L) (hz : Nds w (.slice z.1 z.2.1 z.2.2) l) : Els w (zs ++ [z]) (L ++ [l]) := by
  refine ⟨by simp [h.1], fun k y m hy hm => ?_⟩
  rcases Nat.lt_or_ge k zs.length with hk | hk
  · rw [List.getElem?_append_left hk] at hy
    rw [List.getElem?_append_left (by rw [← h.1]; exact hk)] at hm
    exact h.2 k y m hy hm
  · rw [List.getElem?_append_right hk] at hy
    rw [List.getElem?_append_right (by rw [← h.1]; exact hk), ← h.1] at hm
    cases hkk : k - zs.length with
    | zero => rw [hkk] at hy hm; simp at hy hm; subst hy hm; exact hz
    | succ j => rw [hkk] at hy; simp at hy
/-- Two slices of the call's own: what is appended to one leaves the other as it was. -/
theorem Own.aside {α β : Type} {e1 : α → List Value} {s1 E1 : Nat} {e2 : β → List Value} {s2 E2 base base2 : Nat} {w w' : World} {v1 v2 : Value} {l1 : List α} {l2 : List β} (h1 : Own e1 s1 E1 base w v1 l1) (h2 : Own e2 s2 E2 base2 w v2 l2) (he : E1 ≠ E2)
    (hg : w.grownBy w' v2.ownBlock) : Own e1 s1 E1 base w' v1 l1 := by
  refine World.ownsRow.kept h1 (row := v2.ownBlock) hg ?_
  exact own_apart h1 h2 he
theorem GivesV.is {w w' : World} {L : List (List Nd)} {n : Nat} {e : Ending} (h : GivesV w L e w') (hn : L.length = n) : ∃ (A : Option Addr) (c : Nat), e = .returned (.slice A n c) ∧ Vls w' (.slice A n c) L ∧ Below w.heap.size w w' := by
  obtain ⟨v, rfl, ⟨us, h1, h2, h3⟩, h4⟩ := h
  obtain ⟨A, c, rfl, h5⟩ := h2
  have : us.length = n := h1.trans hn
  rw [this]
  exact ⟨A, c, rfl, ⟨us, h1, ⟨A, c, by rw [this], h5⟩, h3⟩, h4⟩
theorem GivesS.is {w w' : World} {L : List (List UInt8)} {n : Nat} {e : Ending} (h : GivesS w L e w') (hn : L.length = n) : ∃ (A : Option Addr) (c : Nat), e = .returned (.slice A n c) ∧ Sts w' (.slice A n c) L ∧ Below w.heap.size w w' := by
  obtain ⟨v, rfl, h2, h4⟩ := h
  obtain ⟨A, c, rfl, h5⟩ := h2
  rw [hn]
  exact ⟨A, c, rfl, ⟨A, c, by rw [hn], h5⟩, h4⟩
end Go.Proofs.YtoomgpbfcpnefaaDoor
