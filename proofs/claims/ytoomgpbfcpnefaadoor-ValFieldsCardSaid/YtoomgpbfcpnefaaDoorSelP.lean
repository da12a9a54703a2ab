/-
  Plain words: the places of names, the least one first, one by one. No program stands here.
-/
import Derived.Test.YtoomgpbfcpnefaaDoorObjP2
namespace Go.Proofs.YtoomgpbfcpnefaaDoor
open Go.RowKit Np Rw Vp

/-- So far these have been chosen. -/
structure Sel (names : List (List UInt8)) (p : List Nat) : Prop where
  nodup : p.Nodup
  lt : ∀ i ∈ p, i < names.length
  strict : (p.map (atN names)).Pairwise (· < ·)
  vl : ∀ i ∈ p, vld (atN names i) = true
  low : ∀ i ∈ p, ∀ j, j < names.length → j ∉ p → ¬ atN names j < atN names i
/-- The least one of those that are left, among the first ones. -/
def Least (names : List (List UInt8)) (p : List Nat) (k b : Nat) : Prop := b < k ∧ b ∉ p ∧ ∀ j, j < k → j ∉ p → ¬ atN names j < atN names b
theorem Sel.nil (names : List (List UInt8)) : Sel names [] := ⟨List.nodup_nil, by simp, by simp, by simp, by simp⟩
theorem Least.keep {names : List (List UInt8)} {p : List Nat} {k b : Nat} (h : Least names p k b) (hk : k ∈ p ∨ ¬ atN names k < atN names b) : Least names p (k + 1) b := by
  refine ⟨by have := h.1; omega, h.2.1, fun j hj hjp => ?_⟩
  by_cases e : j = k
  · subst e
    rcases hk with hk | hk
    · exact absurd hk hjp
    · exact hk
  · exact h.2.2 j (by omega) hjp
theorem Least.less {names : List (List UInt8)} {p : List Nat} {k b : Nat} (h : Least names p k b) (hk : k ∉ p) (hl : atN names k < atN names b) : Least names p (k + 1) k := by
  refine ⟨by omega, hk, fun j hj hjp hlt => ?_⟩
  by_cases e : j = k
  · subst e; exact List.lt_irrefl _ hlt
  · exact h.2.2 j (by omega) hjp (List.lt_trans hlt hl)
theorem Least.first {names : List (List UInt8)} {p : List Nat} {k : Nat} (h : ∀ j, j < k → j ∈ p) (hk : k ∉ p) : Least names p (k + 1) k := by
  refine ⟨by omega, hk, fun j hj hjp hlt => ?_⟩
  by_cases e : j = k
  · subst e; exact List.lt_irrefl _ hlt
  · exact hjp (h j (by omega))
theorem pig : ∀ (n : Nat) (p : List Nat), p.Nodup → (∀ i ∈ p, i < n) → p.length ≤ n ∧ (p.length = n → ∀ j, j < n → j ∈ p)
  | 0, p, _, h => by
    have : p = [] := by
      cases p with
      | nil => rfl
      | cons a p => exact absurd (h a (by simp)) (by omega)
    subst this
    exact ⟨Nat.le_refl _, fun _ j hj => absurd hj (by omega)⟩
  | n + 1, p, hn, h => by
    by_cases hm : n ∈ p
    · have h1 := pig n (p.erase n) (hn.erase n) (fun i hi => by
        have h2 := (List.Nodup.mem_erase_iff hn).1 hi
        have := h i h2.2
        have := h2.1
        omega)
      have hl := List.length_erase_of_mem hm
      have hp : 0 < p.length := List.length_pos_of_mem hm
      refine ⟨by omega, fun he j hj => ?_⟩
      by_cases e : j = n
      · subst e; exact hm
      · exact List.mem_of_mem_erase (h1.2 (by omega) j (by omega))
    · have h1 := pig n p hn (fun i hi => by
        have := h i hi
        have : i ≠ n := fun e => hm (e ▸ hi)
        omega)
      exact ⟨by omega, fun he => absurd he (by omega)⟩
theorem Sel.len {names : List (List UInt8)} {p : List Nat} (h : Sel names p) : p.length ≤ names.length := (pig _ p h.nodup h.lt).1
theorem Sel.all {names : List (List UInt8)} {p : List Nat} (h : Sel names p) (hl : p.length = names.length) : p.Perm (List.range names.length) := by
  refine (List.perm_ext_iff_of_nodup h.nodup List.nodup_range).2 fun a => ⟨fun ha => by simpa using h.lt a ha, fun ha => (pig _ p h.nodup h.lt).2 hl a (by simpa using ha)⟩
theorem Sel.some {names : List (List UInt8)} {p : List Nat} (h : Sel names p) (hl : p.length < names.length) : ¬ ∀ j, j < names.length → j ∈ p := by
  intro hall
  have h1 : (List.range names.length).length ≤ p.length := by
    have hp : (List.range names.length).Perm (p.filter (fun i => decide (i < names.length))) := (List.perm_ext_iff_of_nodup List.nodup_range (h.nodup.filter _)).2 fun a => by
      simp only [List.mem_range, List.mem_filter, decide_eq_true_eq]
      exact ⟨fun ha => ⟨hall a ha, ha⟩, fun ha => ha.2⟩
    rw [hp.length_eq]
    exact List.length_filter_le _ _
  simp at h1
  omega
theorem Sel.places {names : List (List UInt8)} {p : List Nat} (h : Sel names p) (hl : p.length = names.length) : Places names p := by
  refine ⟨h.all hl, ?_⟩
  have := List.pairwise_map.1 h.strict
  exact this.imp fun {a b} hab hba => List.lt_irrefl _ (List.lt_trans hab hba)
theorem Sel.done {names : List (List UInt8)} {L : List (List Nd)} {p : List Nat} (h : Sel names p) (hl : p.length = names.length) (hL : names.length = L.length) :
    objB names L = true ∧ objV names L = hdN 6 L.length :: laid ((p.map (atN names)).zip (p.map (atL L))) := by
  have hp := h.places hl
  have hnd : names.Nodup := by
    have : (p.map (atN names)).Nodup := h.strict.imp fun {a b} hab (e : a = b) => by subst e; exact List.lt_irrefl a hab
    exact hp.names.nodup_iff.1 this
  have hb : objB names L = true := objB_iff.2 ⟨hL, hnd, fun s hs => by
    obtain ⟨i, hi, rfl⟩ := List.mem_map.1 (hp.names.mem_iff.2 hs)
    exact h.vl i hi⟩
  refine ⟨hb, ?_⟩
  rw [objV, if_pos hb, hp.pairs hL h.strict, List.zip_map']
theorem Sel.wrong {names : List (List UInt8)} {L : List (List Nd)} {b : Nat} (hb : b < names.length) (hv : vld (atN names b) = false) : objB names L = false := by
  cases h : objB names L
  · rfl
  · have := (objB_iff.1 h).2.2 (atN names b) (by rw [atN, List.getD_eq_getElem?_getD, List.getElem?_eq_getElem hb]; exact List.getElem_mem hb)
    rw [this] at hv; cases hv
theorem Sel.twice {names : List (List UInt8)} {L : List (List Nd)} {a b : Nat} (ha : a < names.length) (hb : b < names.length) (hne : a ≠ b) (he : atN names a = atN names b) : objB names L = false := by
  cases h : objB names L
  · rfl
  · have hn := (objB_iff.1 h).2.1
    have e1 : atN names a = names[a] := by rw [atN, List.getD_eq_getElem?_getD, List.getElem?_eq_getElem ha]; rfl
    have e2 : atN names b = names[b] := by rw [atN, List.getD_eq_getElem?_getD, List.getElem?_eq_getElem hb]; rfl
    rw [e1, e2] at he
    rcases Nat.lt_or_gt_of_ne hne with hlt | hlt
    · exact absurd he (List.pairwise_iff_getElem.1 hn a b ha hb hlt)
    · exact absurd he.symm (List.pairwise_iff_getElem.1 hn b a hb ha hlt)
theorem Sel.next {names : List (List UInt8)} {p : List Nat} {b : Nat} (h : Sel names p) (hb : Least names p names.length b) (hv : vld (atN names b) = true) (hne : ∀ q a, p = q ++ [a] → atN names a ≠ atN names b) : Sel names (p ++ [b]) := by
  obtain ⟨hb1, hb2, hb3⟩ := hb
  have hlast : ∀ i ∈ p, atN names i < atN names b := by
    rcases List.eq_nil_or_concat p with hp | ⟨q, a, hp⟩
    · subst hp; intro i hi; cases hi
    · rw [List.concat_eq_append] at hp
      have ha : atN names a < atN names b := lt_of_ne (h.low a (by rw [hp]; simp) b hb1 hb2) (hne q a hp)
      intro i hi
      rw [hp] at hi
      rcases List.mem_append.1 hi with hi | hi
      · have hs := h.strict
        rw [hp, List.map_append, List.pairwise_append] at hs
        exact List.lt_trans (hs.2.2 (atN names i) (List.mem_map_of_mem hi) (atN names a) (by simp)) ha
      · simp at hi; subst hi; exact ha
  refine ⟨?_, ?_, ?_, ?_, ?_⟩
  · rw [List.nodup_append]
    exact ⟨h.nodup, by simp, fun x hx y hy => by simp at hy; subst hy; exact fun e => hb2 (e ▸ hx)⟩
  · intro i hi
    rcases List.mem_append.1 hi with hi | hi
    · exact h.lt i hi
    · simp at hi; subst hi; exact hb1
  · rw [List.map_append, List.pairwise_append]
    refine ⟨h.strict, by simp, fun x hx y hy => ?_⟩
    obtain ⟨i, hi, rfl⟩ := List.mem_map.1 hx
    simp at hy; subst hy
    exact hlast i hi
  · intro i hi
    rcases List.mem_append.1 hi with hi | hi
    · exact h.vl i hi
    · simp at hi; subst hi; exact hv
  · intro i hi j hj hjp
    have hjp' : j ∉ p := fun hh => hjp (by simp [hh])
    rcases List.mem_append.1 hi with hi | hi
    · exact h.low i hi j hj hjp'
    · simp at hi; subst hi; exact hb3 j hj hjp'
end Go.Proofs.YtoomgpbfcpnefaaDoor
