/-
  Plain words: an object hangs on no order of its names and parts; with a name twice there is none; what it is, as a tree. No program stands here.
-/
import Derived.Test.YtoomgpbfcpnefaaDoorTreeP
namespace Go.Proofs.YtoomgpbfcpnefaaDoor
open Go.RowKit Np Rw Vp

theorem srt_perm_self (ps : List Pr) : (srt ps).Perm ps := List.mergeSort_perm ps _
theorem keys_nodup_rises : ∀ (ps : List Pr), ps.Pairwise (fun a b => decide (a.1 ≤ b.1) = true) → (ps.map (·.1)).Nodup → rises ps
  | [], _, _ => List.Pairwise.nil
  | a :: ps, h1, h2 => by
    obtain ⟨h3, h4⟩ := List.pairwise_cons.1 h1
    rw [List.map_cons, List.nodup_cons] at h2
    refine List.pairwise_cons.2 ⟨fun b hb => ?_, keys_nodup_rises ps h4 h2.2⟩
    have h5 : a.1 ≤ b.1 := by simpa using h3 b hb
    exact lt_of_ne (List.not_lt.2 h5) (fun e => h2.1 (by rw [e]; exact List.mem_map_of_mem hb))
theorem srt_rises {ps : List Pr} (h : (ps.map (·.1)).Nodup) : rises (srt ps) := by
  refine keys_nodup_rises _ ?_ (((srt_perm_self ps).map _).nodup_iff.2 h)
  exact List.pairwise_mergeSort
    (fun a b c h1 h2 => by simp only [decide_eq_true_eq] at *; exact List.le_trans h1 h2)
    (fun a b => by
      rcases List.le_total a.1 b.1 with h | h
      · simp [h]
      · simp [h]) ps
theorem srt_perm {ps qs : List Pr} (hp : ps.Perm qs) (h : (ps.map (·.1)).Nodup) : srt ps = srt qs :=
  (srt_of ((srt_perm_self ps).trans hp) (srt_rises h)).symm
theorem zip_keys {names : List (List UInt8)} {L : List (List Nd)} (h : names.length = L.length) : (names.zip L).map (·.1) = names := by
  rw [List.map_fst_zip]; omega
theorem objB_iff {names : List (List UInt8)} {L : List (List Nd)} : objB names L = true ↔ names.length = L.length ∧ names.Nodup ∧ ∀ s ∈ names, vld s = true := by
  simp [objB, okNames]
theorem objB_reverse (names : List (List UInt8)) (L : List (List Nd)) : objB names.reverse L.reverse = objB names L := by
  rw [Bool.eq_iff_iff, objB_iff, objB_iff, (List.reverse_perm names).nodup_iff]
  simp
theorem zip_rev (names : List (List UInt8)) (L : List (List Nd)) (h : names.length = L.length) : names.reverse.zip L.reverse = (names.zip L).reverse := by
  apply List.ext_getElem
  · simp
  · intro i h1 h2
    simp [h]
theorem objV_reverse (names : List (List UInt8)) (L : List (List Nd)) : objV names.reverse L.reverse = objV names L := by
  rw [objV, objV, objB_reverse]
  split
  · rename_i h
    obtain ⟨h1, h2, -⟩ := objB_iff.1 h
    rw [List.length_reverse, ← srt_perm (ps := names.zip L) (qs := names.reverse.zip L.reverse) _ (by rw [zip_keys h1]; exact h2)]
    rw [zip_rev _ _ h1]
    exact (List.reverse_perm _).symm
  · rfl
theorem objE_reverse (names : List (List UInt8)) (L : List (List Nd)) : objE names.reverse L.reverse = objE names L := by rw [objE, objE, objB_reverse]
theorem objE_twice (names : List (List UInt8)) (L : List (List Nd)) (a : List UInt8) (ha : a ∈ names) : objE (names ++ [a]) L = 4 := by
  have : objB (names ++ [a]) L = false := by
    cases h : objB (names ++ [a]) L
    · rfl
    · have h2 := (objB_iff.1 h).2.1
      rw [List.nodup_append] at h2
      exact absurd rfl (h2.2.2 a ha a (by simp))
  rw [objE, this]; rfl
theorem objE_cases (names : List (List UInt8)) (L : List (List Nd)) : objB names L = true ∧ objE names L = 0 ∨ objB names L = false ∧ objE names L = 4 := by
  cases h : objB names L <;> simp [objE, h]
theorem objV_bad {names : List (List UInt8)} {L : List (List Nd)} (h : objB names L = false) : objV names L = [] := by rw [objV, h]; rfl
theorem objV_len {names : List (List UInt8)} {L : List (List Nd)} (h : objB names L = true) : (objV names L).length = 1 + (L.map List.length).sum := by
  rw [objV, if_pos h, List.length_cons, laid_len]
  have h1 := (objB_iff.1 h).1
  rw [((srt_perm_self (names.zip L)).map (fun p : Pr => p.2.length)).sum_nat]
  have : (names.zip L).map (fun p : Pr => p.2.length) = L.map List.length := by
    rw [show (fun p : Pr => p.2.length) = List.length ∘ Prod.snd from rfl, ← List.map_map, List.map_snd_zip (by omega)]
  rw [this]; omega

namespace Vp
theorem laid_trees : ∀ ps : List Pr, (∀ p ∈ ps, rightL p.2 = true) → ∃ us, Parts us ∧ us.map (fun u => u.nd.name) = ps.map (·.1) ∧ laid ps = flats us ∧ us.map (fun u => flat (nmd [] u)) = ps.map (·.2)
  | [], _ => ⟨[], by intro t ht; simp at ht, rfl, rfl, rfl⟩
  | p :: ps, h => by
    obtain ⟨us, h1, h2, h3, h4⟩ := laid_trees ps (fun q hq => h q (by simp [hq]))
    obtain ⟨t, ht, he⟩ := val_of_rightL (h p (by simp))
    refine ⟨nmd p.1 t :: us, ?_, by rw [List.map_cons, List.map_cons, h2]; rfl, by rw [laid_cons, flats_cons, flat_nmd, ← he, h3], by rw [List.map_cons, List.map_cons, h4, nmd_val ht, he]⟩
    intro u hu
    rcases List.mem_cons.1 hu with rfl | hu
    · exact ⟨okT_nmd ht.ok, by rw [rightT_nmd]; exact ht.rt⟩
    · exact h1 u hu
theorem objV_tree {names : List (List UInt8)} {L : List (List Nd)} (h : objB names L = true) (hr : ∀ l ∈ L, rightL l = true) :
    ∃ us, Val (objT us) ∧ flat (objT us) = objV names L ∧ us.length = L.length ∧ us.map (fun u => u.nd.name) = (srt (names.zip L)).map (·.1) ∧ us.map (fun u => flat (nmd [] u)) = (srt (names.zip L)).map (·.2) := by
  obtain ⟨h1, h2, h3⟩ := objB_iff.1 h
  obtain ⟨us, h4, h5, h6, h7⟩ := laid_trees (srt (names.zip L)) (fun p hp => by
    have := (srt_perm_self _).mem_iff.1 hp
    exact hr _ (List.of_mem_zip (a := p.1) (b := p.2) this).2)
  have hl : us.length = L.length := by
    have := congrArg List.length h5
    rw [List.length_map, List.length_map, (srt_perm_self _).length_eq, List.length_zip] at this
    omega
  refine ⟨us, val_objT h4 ⟨?_, ?_⟩, by rw [flat_objT, objV, if_pos h, h6, hl], hl, h5, h7⟩
  · have h8 : (us.map (fun u => u.nd.name)).Pairwise (· < ·) := by
      rw [h5]
      exact List.pairwise_map.2 (srt_rises (by rw [zip_keys h1]; exact h2))
    exact List.pairwise_map.1 h8
  · intro t ht
    have h9 : t.nd.name ∈ us.map (fun u => u.nd.name) := List.mem_map_of_mem (f := fun u : Tr Nd => u.nd.name) ht
    rw [h5] at h9
    obtain ⟨p, hp, he⟩ := List.mem_map.1 h9
    rw [← he]
    have := (srt_perm_self _).mem_iff.1 hp
    exact h3 _ (List.of_mem_zip (a := p.1) (b := p.2) this).1
end Vp
end Go.Proofs.YtoomgpbfcpnefaaDoor
