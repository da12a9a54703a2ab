/-
  Joined: ObjP2, Els, Ow6, OAlP, VOpen, PLaw.
-/
import Derived.Test.YtbffeffplabaeaaOrderTotalJ3
import Derived.Test.YtbffeffplabaeaaOrderTotalJ12
import Derived.Test.YtbffeffplabaeaaOrderTotalJ15
import Derived.Test.YtbffeffplabaeaaOrderTotalJ14
import Derived.Test.YtbffeffplabaeaaOrderTotalJ9
import Derived.ProofKit
import Derived.LaidMore
import Derived.OpenShut
import Derived.Lay
import Derived.Carry
import Derived.SevenTiedAt
import Derived.Stop.Joined
import Derived.Deep.Slices
import Derived.Deep.Fields
import Derived.Test.YtbffeffplabaeaaOrderTotalJ8
import Derived.SizedLaws

/-
  Plain words: an object hangs on no order of its names and parts; with a name twice there is none; what it is, as a tree. No program stands here.
-/
namespace Go.Proofs.Ytbffeffplabaeaa
open Go.RowKit Np Rw Vp

theorem srt_perm_self (ps : List Pr) : (srt ps).Perm ps := List.mergeSort_perm ps _
theorem keys_nodup_rises : ∀ (ps : List Pr), ps.Pairwise (fun a b => decide (a.1 ≤ b.1) = true) → (ps.map (·.1)).Nodup → rises ps
  | [], _, _ => List.Pairwise.nil
  | a :: ps, h1, h2 => by
    obtain ⟨h3, h4⟩ := List.pairwise_cons.1 h1
    rw [List.map_cons, List.nodup_cons] at h2
    refine List.pairwise_cons.2 ⟨fun b hb => ?_, keys_nodup_rises ps h4 h2.2⟩
    have h5 : a.1 ≤ b.1 := by simpa using h3 b hb
    exact lt_of_ne (List.not_lt.2 h5) (fun e => h2.1 (by rw [e]; exact List.mem_map_of_mem hb))
theorem srt_rises {ps : List Pr} (h : (ps.map (·.1)).Nodup) : rises (srt ps) := by
  refine keys_nodup_rises _ ?_ (((srt_perm_self ps).map _).nodup_iff.2 h)
  exact List.pairwise_mergeSort
    (fun a b c h1 h2 => by simp only [decide_eq_true_eq] at *; exact List.le_trans h1 h2)
    (fun a b => by
      rcases List.le_total a.1 b.1 with h | h
      · simp [h]
      · simp [h]) ps
theorem srt_perm {ps qs : List Pr} (hp : ps.Perm qs) (h : (ps.map (·.1)).Nodup) : srt ps = srt qs :=
  (srt_of ((srt_perm_self ps).trans hp) (srt_rises h)).symm
theorem zip_keys {names : List (List UInt8)} {L : List (List Nd)} (h : names.length = L.length) : (names.zip L).map (·.1) = names := by
  rw [List.map_fst_zip]; omega
theorem objB_iff {names : List (List UInt8)} {L : List (List Nd)} : objB names L = true ↔ names.length = L.length ∧ names.Nodup ∧ ∀ s ∈ names, vld s = true := by
  simp [objB, okNames]
theorem objB_reverse (names : List (List UInt8)) (L : List (List Nd)) : objB names.reverse L.reverse = objB names L := by
  rw [Bool.eq_iff_iff, objB_iff, objB_iff, (List.reverse_perm names).nodup_iff]
  simp
theorem zip_rev (names : List (List UInt8)) (L : List (List Nd)) (h : names.length = L.length) : names.reverse.zip L.reverse = (names.zip L).reverse := by
  apply List.ext_getElem
  · simp
  · intro i h1 h2
    simp [h]
theorem objV_reverse (names : List (List UInt8)) (L : List (List Nd)) : objV names.reverse L.reverse = objV names L := by
  rw [objV, objV, objB_reverse]
  split
  · rename_i h
    obtain ⟨h1, h2, -⟩ := objB_iff.1 h
    rw [List.length_reverse, ← srt_perm (ps := names.zip L) (qs := names.reverse.zip L.reverse) _ (by rw [zip_keys h1]; exact h2)]
    rw [zip_rev _ _ h1]
    exact (List.reverse_perm _).symm
  · rfl
theorem objE_reverse (names : List (List UInt8)) (L : List (List Nd)) : objE names.reverse L.reverse = objE names L := by rw [objE, objE, objB_reverse]
theorem objE_twice (names : List (List UInt8)) (L : List (List Nd)) (a : List UInt8) (ha : a ∈ names) : objE (names ++ [a]) L = 4 := by
  have : objB (names ++ [a]) L = false := by
    cases h : objB (names ++ [a]) L
    · rfl
    · have h2 := (objB_iff.1 h).2.1
      rw [List.nodup_append] at h2
      exact absurd rfl (h2.2.2 a ha a (by simp))
  rw [objE, this]; rfl
theorem objE_cases (names : List (List UInt8)) (L : List (List Nd)) : objB names L = true ∧ objE names L = 0 ∨ objB names L = false ∧ objE names L = 4 := by
  cases h : objB names L <;> simp [objE, h]
theorem objV_bad {names : List (List UInt8)} {L : List (List Nd)} (h : objB names L = false) : objV names L = [] := by rw [objV, h]; rfl
theorem objV_len {names : List (List UInt8)} {L : List (List Nd)} (h : objB names L = true) : (objV names L).length = 1 + (L.map List.length).sum := by
  rw [objV, if_pos h, List.length_cons, laid_len]
  have h1 := (objB_iff.1 h).1
  rw [((srt_perm_self (names.zip L)).map (fun p : Pr => p.2.length)).sum_nat]
  have : (names.zip L).map (fun p : Pr => p.2.length) = L.map List.length := by
    rw [show (fun p : Pr => p.2.length) = List.length ∘ Prod.snd from rfl, ← List.map_map, List.map_snd_zip (by omega)]
  rw [this]; omega

namespace Vp
theorem laid_trees : ∀ ps : List Pr, (∀ p ∈ ps, rightL p.2 = true) → ∃ us, Parts us ∧ us.map (fun u => u.nd.name) = ps.map (·.1) ∧ laid ps = flats us ∧ us.map (fun u => flat (nmd [] u)) = ps.map (·.2)
  | [], _ => ⟨[], by intro t ht; simp at ht, rfl, rfl, rfl⟩
  | p :: ps, h => by
    obtain ⟨us, h1, h2, h3, h4⟩ := laid_trees ps (fun q hq => h q (by simp [hq]))
    obtain ⟨t, ht, he⟩ := val_of_rightL (h p (by simp))
    refine ⟨nmd p.1 t :: us, ?_, by rw [List.map_cons, List.map_cons, h2]; rfl, by rw [laid_cons, flats_cons, flat_nmd, ← he, h3], by rw [List.map_cons, List.map_cons, h4, nmd_val ht, he]⟩
    intro u hu
    rcases List.mem_cons.1 hu with rfl | hu
    · exact ⟨okT_nmd ht.ok, by rw [rightT_nmd]; exact ht.rt⟩
    · exact h1 u hu
theorem objV_tree {names : List (List UInt8)} {L : List (List Nd)} (h : objB names L = true) (hr : ∀ l ∈ L, rightL l = true) :
    ∃ us, Val (objT us) ∧ flat (objT us) = objV names L ∧ us.length = L.length ∧ us.map (fun u => u.nd.name) = (srt (names.zip L)).map (·.1) ∧ us.map (fun u => flat (nmd [] u)) = (srt (names.zip L)).map (·.2) := by
  obtain ⟨h1, h2, h3⟩ := objB_iff.1 h
  obtain ⟨us, h4, h5, h6, h7⟩ := laid_trees (srt (names.zip L)) (fun p hp => by
    have := (srt_perm_self _).mem_iff.1 hp
    exact hr _ (List.of_mem_zip (a := p.1) (b := p.2) this).2)
  have hl : us.length = L.length := by
    have := congrArg List.length h5
    rw [List.length_map, List.length_map, (srt_perm_self _).length_eq, List.length_zip] at this
    omega
  refine ⟨us, val_objT h4 ⟨?_, ?_⟩, by rw [flat_objT, objV, if_pos h, h6, hl], hl, h5, h7⟩
  · have h8 : (us.map (fun u => u.nd.name)).Pairwise (· < ·) := by
      rw [h5]
      exact List.pairwise_map.2 (srt_rises (by rw [zip_keys h1]; exact h2))
    exact List.pairwise_map.1 h8
  · intro t ht
    have h9 : t.nd.name ∈ us.map (fun u => u.nd.name) := List.mem_map_of_mem (f := fun u : Tr Nd => u.nd.name) ht
    rw [h5] at h9
    obtain ⟨p, hp, he⟩ := List.mem_map.1 h9
    rw [← he]
    have := (srt_perm_self _).mem_iff.1 hp
    exact h3 _ (List.of_mem_zip (a := p.1) (b := p.2) this).1
end Vp
end Go.Proofs.Ytbffeffplabaeaa

/-
  Words for values: rows that come out, with their lengths; a slice of slices, element by element; one more behind a slice of the call's own. Of no law.
-/
namespace Go.Proofs.Ytbffeffplabaeaa
open Go.RowKit Np Rw Vp

/-- A row of nodes comes out, with its length. -/
def IsN (w : World) (l : List Nd) (n : Nat) (e : Ending) (w' : World) : Prop := ∃ (A : Option Addr) (c : Nat), e = .returned (.slice A n c) ∧ Nds w' (.slice A n c) l ∧ Below w.heap.size w w'
def IsO (w : World) (l : List Nd) (n : Nat) (k : Int) (e : Ending) (w' : World) : Prop := ∃ (A : Option Addr) (c : Nat), e = .returned (.tuple #[.slice A n c, .int .i64 k]) ∧ Nds w' (.slice A n c) l ∧ Below w.heap.size w w'
theorem OwnsN.is {w w' : World} {l : List Nd} {n : Nat} {e : Ending} (h : OwnsN w l e w') (hn : l.length = n) : IsN w l n e w' := by
  obtain ⟨v, rfl, h1, h2⟩ := h
  have h3 := h1.row ndc_len
  obtain ⟨A, c, rfl, h4⟩ := h3
  rw [← hn]
  exact ⟨A, c, rfl, ⟨A, c, rfl, h4⟩, h2⟩
theorem GivesO.is {w w' : World} {names : List (List UInt8)} {L : List (List Nd)} {n : Nat} {e : Ending} (h : GivesO w names L e w') (hn : (objV names L).length = n) : IsO w (objV names L) n (objE names L) e w' := by
  obtain ⟨v, rfl, h1, h2⟩ := h
  obtain ⟨A, c, rfl, h4⟩ := h1.row ndc_len
  rw [← hn]
  exact ⟨A, c, rfl, ⟨A, c, rfl, h4⟩, h2⟩
theorem GivesO.own {w w' : World} {names : List (List UInt8)} {L : List (List Nd)} {n : Nat} {e : Ending} (h : GivesO w names L e w') (hn : (objV names L).length = n) : ∃ (A : Option Addr) (c : Nat), e = .returned (.tuple #[.slice A n c, .int .i64 (objE names L)]) ∧ OwnN w.heap.size w' (.slice A n c) (objV names L) ∧ Below w.heap.size w w' := by
  obtain ⟨v, rfl, h1, h2⟩ := h
  obtain ⟨A, c, rfl, h4⟩ := h1.row ndc_len
  rw [← hn]
  exact ⟨A, c, rfl, h1, h2⟩
theorem row_one {α : Type} {enc : α → List Value} {sz : Nat} (hl : ∀ x, (enc x).length = sz) (W : World) (n : Nat) (hn : W.heap.size = n) (E : TypeId) (cs : Array Value) (x : α) (hc : cs.toList = enc x) :
    Row enc sz (W.alloc (.cells cs E)) (.slice (some ⟨n, 0, none⟩) 1 1) [x] := by
  subst hn
  exact Row.lit hl W E cs [x] (by unfold maxLen; simp) (by rw [hc]; simp)
theorem sts_two (W : World) (n : Nat) (hn : W.heap.size = n) (E : TypeId) (a b : List UInt8) : Sts (W.alloc (.cells #[.string ⟨a.toArray⟩, .string ⟨b.toArray⟩] E)) (.slice (some ⟨n, 0, none⟩) 2 2) [a, b] := by
  subst hn
  exact Row.lit stc_len W E _ [a, b] (by unfold maxLen; simp) rfl
theorem vls_two (W : World) (n : Nat) (hn : W.heap.size = n) (E : TypeId) (a b : Value) (l1 l2 : List Nd) (h1 : Nds W a l1) (h2 : Nds W b l2) : Vls (W.alloc (.cells #[a, b] E)) (.slice (some ⟨n, 0, none⟩) 2 2) [l1, l2] := by
  subst hn
  have hb : Below W.heap.size W (W.alloc (.cells #[a, b] E)) := (Below.refl _ _).alloc (Nat.le_refl _) _
  refine ⟨[a, b], rfl, Row.lit vac_len W E _ [a, b] (by unfold maxLen; simp) rfl, fun k x l hx hk => ?_⟩
  match k, hx, hk with
  | 0, hx, hk => simp at hx hk; subst hx hk; exact h1.below hb
  | 1, hx, hk => simp at hx hk; subst hx hk; exact h2.below hb
  | k + 2, hx, hk => simp at hx

/-- Slices that read as these rows. -/
def Els (w : World) (zs : List (Option Addr × Nat × Nat)) (L : List (List Nd)) : Prop := zs.length = L.length ∧ ∀ (k : Nat) (z : Option Addr × Nat × Nat) (l : List Nd), zs[k]? = some z → L[k]? = some l → Nds w (.slice z.1 z.2.1 z.2.2) l
theorem Els.below {w w' : World} {zs : List (Option Addr × Nat × Nat)} {L : List (List Nd)} (h : Els w zs L) (hb : Below w.heap.size w w') : Els w' zs L := ⟨h.1, fun k z l hz hl => (h.2 k z l hz hl).below hb⟩
theorem Els.vls {w : World} {v : Value} {zs : List (Option Addr × Nat × Nat)} {L : List (List Nd)} (h : Els w zs L) (hr : Row slc 1 w v zs) : Vls w v L := by
  refine ⟨zs.map fun z => .slice z.1 z.2.1 z.2.2, by rw [List.length_map]; exact h.1, ?_, fun k x l hx hk => ?_⟩
  · obtain ⟨A, c, hv, h1, h2, h3, h4⟩ := hr
    refine ⟨A, c, by rw [List.length_map]; exact hv, by rw [List.length_map]; exact h1, h2, h3, fun h0 => ?_⟩
    obtain ⟨g, o, hA, hg, hx⟩ := h4 (by rwa [List.length_map] at h0)
    refine ⟨g, o, hA, hg, fun k x hk => ?_⟩
    rw [List.getElem?_map] at hk
    obtain ⟨z, hz, rfl⟩ := Option.map_eq_some_iff.1 hk
    exact hx k z hz
  · rw [List.getElem?_map] at hx
    obtain ⟨z, hz, rfl⟩ := Option.map_eq_some_iff.1 hx
    exact h.2 k z l hz hk
theorem vls_els {w : World} {v : Value} {L : List (List Nd)} (h : Vls w v L) : ∃ zs, Els w zs L ∧ Row slc 1 w v zs := by
  obtain ⟨us, hl, hr, hx⟩ := h
  have key : ∀ (us : List Value) (L : List (List Nd)), us.length = L.length → (∀ (k : Nat) (x : Value) (l : List Nd), us[k]? = some x → L[k]? = some l → Nds w x l) →
      ∃ zs : List (Option Addr × Nat × Nat), zs.map (fun z => Value.slice z.1 z.2.1 z.2.2) = us ∧ Els w zs L := by
    intro us
    induction us with
    | nil => intro L hl _; exact ⟨[], rfl, by simpa using hl, fun k z l hz => by simp at hz⟩
    | cons x us ih =>
      intro L hl hx
      cases L with
      | nil => simp at hl
      | cons l L =>
        obtain ⟨zs, h1, h2, h3⟩ := ih L (by simpa using hl) (fun k y m hy hm => hx (k + 1) y m (by simpa using hy) (by simpa using hm))
        obtain ⟨A, c, h4, -⟩ := hx 0 x l rfl rfl
        refine ⟨(A, l.length, c) :: zs, by rw [List.map_cons, h1, h4], by simp [h2], fun k z m hz hm => ?_⟩
        match k, hz, hm with
        | 0, hz, hm => simp at hz hm; subst hz hm; rw [← h4]; exact hx 0 x _ rfl rfl
        | k + 1, hz, hm => exact h3 k z m (by simpa using hz) (by simpa using hm)
  obtain ⟨zs, h1, h2⟩ := key us L hl hx
  refine ⟨zs, h2, ?_⟩
  subst h1
  obtain ⟨A, c, hv, h3, h4, h5, h6⟩ := hr
  rw [List.length_map] at hv h3 h6
  refine ⟨A, c, hv, h3, h4, h5, fun h0 => ?_⟩
  obtain ⟨g, o, hA, hg, hx⟩ := h6 h0
  exact ⟨g, o, hA, hg, fun k z hz => hx k (.slice z.1 z.2.1 z.2.2) (by rw [List.getElem?_map, hz]; rfl)⟩
theorem Els.reverse {w : World} {zs : List (Option Addr × Nat × Nat)} {L : List (List Nd)} (h : Els w zs L) : Els w zs.reverse L.reverse := by
  refine ⟨by simp [h.1], fun k z l hz hl => ?_⟩
  have hk : k < zs.length := by have := (List.getElem?_eq_some_iff.1 hz).1; simpa using this
  rw [List.getElem?_reverse hk] at hz
  rw [List.getElem?_reverse (by rw [← h.1]; exact hk), ← h.1] at hl
  exact h.2 _ z l hz hl
theorem Els.snoc {w : World} {zs : List (Option Addr × Nat × Nat)} {L : List (List Nd)} {z : Option Addr × Nat × Nat} {l : List Nd} (h : Els w zs L) (hz : Nds w (.slice z.1 z.2.1 z.2.2) l) : Els w (zs ++ [z]) (L ++ [l]) := by
  refine ⟨by simp [h.1], fun k y m hy hm => ?_⟩
  rcases Nat.lt_or_ge k zs.length with hk | hk
  · rw [List.getElem?_append_left hk] at hy
    rw [List.getElem?_append_left (by rw [← h.1]; exact hk)] at hm
    exact h.2 k y m hy hm
  · rw [List.getElem?_append_right hk] at hy
    rw [List.getElem?_append_right (by rw [← h.1]; exact hk), ← h.1] at hm
    cases hkk : k - zs.length with
    | zero => rw [hkk] at hy hm; simp at hy hm; subst hy hm; exact hz
    | succ j => rw [hkk] at hy; simp at hy
/-- Two slices of the call's own: what is appended to one leaves the other as it was. -/
theorem Own.aside {α β : Type} {e1 : α → List Value} {s1 E1 : Nat} {e2 : β → List Value} {s2 E2 base base2 : Nat} {w w' : World} {v1 v2 : Value} {l1 : List α} {l2 : List β} (h1 : Own e1 s1 E1 base w v1 l1) (h2 : Own e2 s2 E2 base2 w v2 l2) (he : E1 ≠ E2)
    (hg : w.grownBy w' v2.ownBlock) : Own e1 s1 E1 base w' v1 l1 := by
  refine World.ownsRow.kept h1 (row := v2.ownBlock) hg ?_
  exact own_apart h1 h2 he
theorem GivesV.is {w w' : World} {L : List (List Nd)} {n : Nat} {e : Ending} (h : GivesV w L e w') (hn : L.length = n) : ∃ (A : Option Addr) (c : Nat), e = .returned (.slice A n c) ∧ Vls w' (.slice A n c) L ∧ Below w.heap.size w w' := by
  obtain ⟨v, rfl, ⟨us, h1, h2, h3⟩, h4⟩ := h
  obtain ⟨A, c, rfl, h5⟩ := h2
  have : us.length = n := h1.trans hn
  rw [this]
  exact ⟨A, c, rfl, ⟨us, h1, ⟨A, c, by rw [this], h5⟩, h3⟩, h4⟩
theorem GivesS.is {w w' : World} {L : List (List UInt8)} {n : Nat} {e : Ending} (h : GivesS w L e w') (hn : L.length = n) : ∃ (A : Option Addr) (c : Nat), e = .returned (.slice A n c) ∧ Sts w' (.slice A n c) L ∧ Below w.heap.size w w' := by
  obtain ⟨v, rfl, h2, h4⟩ := h
  obtain ⟨A, c, rfl, h5⟩ := h2
  rw [hn]
  exact ⟨A, c, rfl, ⟨A, c, by rw [hn], h5⟩, h4⟩
end Go.Proofs.Ytbffeffplabaeaa

/-
  What order.Cmp answers; the comparison of keys by their places.
-/
namespace Go.Proofs.Ytbffeffplabaeaa
open Go.RowKit Np Rw Vp Ov

theorem Vp.Val.ok9 {t : Tr Nd} (h : Val t) : Ok9 t := ⟨h.ok, h.rt⟩
set_option maxRecDepth 100000 in
set_option maxHeartbeats 1000000 in
theorem ordCmp_any (va vb : Value) (t u : Tr Nd) (w : World) (ha : Nds w va (flat t)) (hb : Nds w vb (flat u)) (ht : Val t) (hu : Val u) (h1 : (flat t).length ≤ 40000) (h2 : (flat u).length ≤ 40000) :
    Calls Try.prog 12 #[va, vb] w fun e w' => e = .returned (.int .i64 (cmpT t u)) ∧ Below w.heap.size w w' := by
  have HV : Hid (∀ W, W = w.alloc (.cells #[va, vb, .int .i64 (0 : Nat)] 52) → Calls Try.prog 27 #[.pointer (some ⟨w.heap.size, 0, none⟩)] W fun e w' => e = .returned (.int .i64 (cmpT t u)) ∧ Below w.heap.size w w') := Lib.hid fun W hW => by
    subst hW
    have hB : Below w.heap.size w (w.alloc (.cells #[va, vb, .int .i64 (0 : Nat)] 52)) := (Below.refl _ _).alloc (Nat.le_refl _) _
    have hp : Prs w.heap.size (flat t ++ []) (flat u ++ []) 0 (w.alloc (.cells #[va, vb, .int .i64 (0 : Nat)] 52)) := ⟨va, vb, alloc_at _ _ rfl, by rw [List.append_nil]; exact ha.below hB, by rw [List.append_nil]; exact hb.below hB⟩
    refine (value_any _ t u (Nat.le_refl _) ht.ok9 hu.ok9 w.heap.size [] [] 0 _ hp (by rw [List.append_nil]; omega) (by rw [List.append_nil]; omega) (by omega)).mono ?_
    rintro e w' ⟨rfl, -, hk⟩
    exact ⟨rfl, hB.trans (hk.below (by simp) (Nat.le_refl _))⟩
  obtain ⟨A, c, rfl, -⟩ := ha
  obtain ⟨B, d, rfl, -⟩ := hb
  generalize cmpT t u = R at *
  go_enter Try.func12, Try.ntmps12
  go_wp2_with fail
  go_at_call 27
  refine (HV.out _ rfl).mono ?_
  rintro e w' ⟨rfl, hb1⟩
  go_wp2_with fail
  go_ret
  exact ⟨rfl, hb1⟩

/-- Rows of keys. -/
structure Keys (w : World) (v : Value) (ts : List (Tr Nd)) : Prop where
  vls : Vls w v (ts.map flat)
  val : ∀ t ∈ ts, Val t
  len : ∀ t ∈ ts, (flat t).length ≤ 40000
theorem Keys.below {w w' : World} {v : Value} {ts : List (Tr Nd)} (h : Keys w v ts) (hb : Below w.heap.size w w') : Keys w' v ts := ⟨h.vls.below hb, h.val, h.len⟩
/-- The comparison of two places. -/
def cat (ts : List (Tr Nd)) (i k : Nat) : Int := cmpT (ts.getD i (.mk zeroN [])) (ts.getD k (.mk zeroN []))
theorem cat_cp (ts : List (Tr Nd)) : Cp (cat ts) := ⟨fun _ _ => cmpT_neg _ _, fun _ _ _ => cmpT_tri _ _ _⟩
/-- A key, as it lies in memory. -/
theorem Keys.at {w : World} {v : Value} {ts : List (Tr Nd)} (h : Keys w v ts) {i : Nat} (hi : i < ts.length) : ∃ g o c A n d, v = .slice (some ⟨g, o, none⟩) ts.length c ∧ g < w.heap.size ∧ w.cell? ⟨g, o + i, none⟩ = some (.slice A n d) ∧ Nds w (.slice A n d) (flat ts[i]) ∧ n = (flat ts[i]).length := by
  obtain ⟨vs, hl, hr, hx⟩ := h.vls
  rw [List.length_map] at hl
  obtain ⟨g, o, c, hv, -, -, hg, hc⟩ := hr.opened (by omega)
  have hi' : i < vs.length := by omega
  have h1 := hc i vs[i] (List.getElem?_eq_getElem hi')
  have h2 := hx i vs[i] (flat ts[i]) (List.getElem?_eq_getElem hi') (by rw [List.getElem?_map, List.getElem?_eq_getElem hi]; rfl)
  obtain ⟨A, d, h3, -⟩ := id h2
  rw [h3] at h1 h2
  exact ⟨g, o, c, A, _, d, by rw [hv, hl], hg, h1.one, h2, rfl⟩
end Go.Proofs.Ytbffeffplabaeaa

/-
  Plain words: what the live question asks of order. No program stands here.
-/
namespace Go.Proofs.Ytbffeffplabaeaa
open Go.RowKit Np Rw Vp Ov

abbrev nmD (s : List UInt8) : Nd := ⟨3, 0, [], s, false, 0⟩
def nmT (s : List UInt8) : Tr Nd := .mk (nmD s) []
theorem nmT_val {s : List UInt8} (h : plainN (nmD s) = true) : Val (nmT s) := ⟨okT_mk.2 ⟨rfl, by simp⟩, by rw [nmT, rightT_mk]; simp [h], rfl⟩
theorem flat_nmT (s : List UInt8) : flat (nmT s) = [nmD s] := by simp [nmT, flat]
def oneO : Tr Nd := nmT [49]
def twoO : Tr Nd := nmT [50]
theorem oneO_val : Val oneO := nmT_val (by decide)
theorem twoO_val : Val twoO := nmT_val (by decide)
theorem cmp_one_two : cmpT oneO twoO = -1 := by simp [oneO, twoO, nmT, cmpT_mk, Lib.compareInt]; decide
theorem cmp_two_one : cmpT twoO oneO = 1 := by rw [cmpT_neg, cmp_one_two]; rfl
def threeO : List (Tr Nd) := [twoO, oneO, twoO]
theorem c01 : cat threeO 0 1 = 1 := cmp_two_one
theorem c10 : cat threeO 1 0 = -1 := cmp_one_two
theorem c12 : cat threeO 1 2 = -1 := cmp_one_two
theorem c02 : cat threeO 0 2 = 0 := cmpT_refl _
theorem plc_three : plc (cat threeO) 3 = [1, 0, 2] := by
  refine plc_uniq (cat_cp _) (by decide) ?_
  simp [Bf, c10, c12, c02]
theorem grps_three : grps (cat threeO) 3 = [[1], [0, 2]] := by
  rw [grps, plc_three]
  simp [foldG, Ov.stepG, allG, c10, c02]
theorem rise_same : rise (cat [oneO, oneO]) 2 = true := by
  rw [rise_iff]
  intro i hi
  obtain rfl : i = 0 := by omega
  rw [show cat [oneO, oneO] 0 (0 + 1) = 0 from cmpT_refl _]; omega
theorem rise_down : rise (cat [twoO, oneO]) 2 = false := by
  rw [← Bool.not_eq_true, rise_iff]
  intro h
  have := h 0 (by omega)
  rw [show cat [twoO, oneO] 0 (0 + 1) = 1 from cmp_two_one] at this
  omega
end Go.Proofs.Ytbffeffplabaeaa

/-
  A card's argument that is a value: a row of nodes.
-/
namespace Go.Proofs.Ytbffeffplabaeaa
open Go.ChangeShapes Go.WideShapes Go.ChangeAt Go.RowKit Go.Deep Np

theorem list_of {α : Type} (R : Nat → α → Prop) : ∀ n, (∀ i, i < n → ∃ y, R i y) → ∃ l : List α, l.length = n ∧ ∀ i y, l[i]? = some y → R i y
  | 0, _ => ⟨[], rfl, fun i y h => by simp at h⟩
  | n + 1, h => by
    obtain ⟨l, h1, h2⟩ := list_of R n (fun i hi => h i (by omega))
    obtain ⟨y, hy⟩ := h n (by omega)
    refine ⟨l ++ [y], by simp [h1], fun i z hz => ?_⟩
    rcases Nat.lt_or_ge i l.length with hi | hi
    · rw [List.getElem?_append_left hi] at hz; exact h2 i z hz
    · rw [List.getElem?_append_right hi] at hz
      have hi0 : i - l.length = 0 := by
        rcases Nat.eq_zero_or_pos (i - l.length) with h0 | h0
        · exact h0
        · rw [List.getElem?_eq_none (by simp; omega)] at hz; cases hz
      rw [hi0] at hz
      simp at hz
      subst hz
      rw [show i = n by omega]; exact hy
section
variable {H : Type} {enc : TypeId × Value → H} {P : Program} {w : World} {base : Nat} {sp : Nat → Bool} {held : Bool}
/-- A slice whose elements read as these. -/
theorem open_rows {α : Type} {en : α → List Value} {sz : Nat} {Q : α → DataW H → Prop} {t e : TypeId} {fuel : Nat} {v : Value} {x : DataW H × List MemPlace} (ht : P.underlying t = some (.slice e)) (hc : P.cellsOf e = sz) (hp : 0 < sz) (hl : ∀ y, (en y).length = sz)
    (rd : ∀ n cs d, DataW.trod enc P w base sp held n e cs = some d → ∃ y, cs = en y ∧ Q y d.1) (h : DataW.trod enc P w base sp held fuel t [v] = some x) :
    ∃ l : List α, Row en sz w v l ∧ (x.1 = .nil ∧ l = [] ∨ ∃ ds sp', x.1 = .slice ds sp' ∧ ds.length = l.length ∧ ∀ (i : Nat) (y : α), l[i]? = some y → ∃ d ∈ ds, Q y d) := by
  rcases open_slice ht h with ⟨h1, h2⟩ | ⟨a, len, cap, m, n, D, Pl, h1, hb, hle, hm, hmm, hx, hi⟩
  · simp at h1; subst h1
    exact ⟨[], Row.nil w, .inl ⟨by rw [h2], rfl⟩⟩
  · simp at h1; subst h1
    have hlm : len ≤ m := by rw [hmm]; split <;> omega
    obtain ⟨l, hll, hR⟩ := list_of (fun i (y : α) => w.cells? base (a.add (i * sz)) sz = some (en y) ∧ Q y (D i)) len (fun i hil => by
      obtain ⟨cs', h3, h4⟩ := hi i (by omega)
      obtain ⟨y, rfl, hQ⟩ := rd n cs' _ h4
      rw [hc] at h3
      exact ⟨y, h3, hQ⟩)
    refine ⟨l, ?_, .inr ⟨(List.range len).map D, _, by rw [hx], by simp [hll], fun i y hy => ⟨D i, ?_, (hR i y hy).2⟩⟩⟩
    · refine ⟨some a, cap, by rw [hll], by rw [hll]; exact hle, hm, fun h => (by cases h), fun h0 => ?_⟩
      obtain ⟨y0, hy0⟩ : ∃ y, l[0]? = some y := ⟨_, List.getElem?_eq_getElem h0⟩
      have h5 := (World.cells?_some (hR 0 y0 hy0).1).2.2 0 hp
      rw [Nat.zero_mul] at h5
      have e0 : (a.add 0).add 0 = a := by simp [Addr.add]
      rw [e0] at h5
      obtain ⟨u0, hu0⟩ : ∃ u, (en y0)[0]? = some u := ⟨_, List.getElem?_eq_getElem (by rw [hl]; exact hp)⟩
      rw [hu0] at h5
      have hspot := World.cell?_spot h5
      have hlt := World.block_lt_of_cell? _ _ h5
      obtain ⟨g, o, s⟩ := a
      simp only at hspot hlt
      subst hspot
      refine ⟨g, o, rfl, hlt, fun k y hk j u hu => ?_⟩
      have hj : j < sz := by rw [← hl y]; exact (List.getElem?_eq_some_iff.1 hu).1
      have h6 := (World.cells?_some (hR k y hk).1).2.2 j hj
      rw [hu, add_add] at h6
      rw [Nat.add_assoc, ← h6]
      unfold Addr.add
      split
      · rename_i h7; rw [h7]; rfl
      · rfl
    · have hk := (List.getElem?_eq_some_iff.1 hy).1
      exact List.mem_map.2 ⟨i, List.mem_range.2 (by omega), rfl⟩
end
section
variable {H : Type} {enc : TypeId × Value → H} {w : World} {base : Nat} {sp : Nat → Bool} {held : Bool}
set_option maxRecDepth 100000 in
theorem rd_node : ∀ n cs (d : DataW H × List MemPlace), DataW.trod enc Try.prog w base sp held n 38 cs = some d → ∃ y : Nd, cs = ndc y ∧ True := by
  intro fuel l d hf
  obtain ⟨xs, n, -, -, hl, hx, hg⟩ := DataW.trod_struct Try.underlying38 hf
  rw [show Try.prog.cellsOf 38 = 6 by kernel_rfl] at hl
  have c3 : Try.prog.cellsOf 3 = 1 := by kernel_rfl
  have c9 : Try.prog.cellsOf 9 = 1 := by kernel_rfl
  have c4 : Try.prog.cellsOf 4 = 1 := by kernel_rfl
  have at' : ∀ i, (h : i < xs.length) → xs[i]? = some (xs[i]'h) := fun i h => List.getElem?_eq_getElem h
  have hx6 : xs.length = 6 := hx
  match l, hl with
  | [v0, v1, v2, v3, v4, v5], _ =>
    have g0 := (hg 0 _ rfl).trans (at' 0 (by omega))
    have g1 := (hg 1 _ rfl).trans (at' 1 (by omega))
    have g2 := (hg 2 _ rfl).trans (at' 2 (by omega))
    have g3 := (hg 3 _ rfl).trans (at' 3 (by omega))
    have g4 := (hg 4 _ rfl).trans (at' 4 (by omega))
    have g5 := (hg 5 _ rfl).trans (at' 5 (by omega))
    simp only [List.getElem_toArray, List.getElem_cons_zero, List.getElem_cons_succ, c3, c9, c4] at g0 g1 g2 g3 g4 g5
    obtain ⟨k, e0, -, -⟩ := DataW.trod_int Try.underlying3 g0
    obtain ⟨m, e1, -, -⟩ := DataW.trod_int Try.underlying3 g1
    obtain ⟨nm, e2, -, hnm⟩ := DataW.trod_string Try.underlying9 g2
    obtain ⟨s, e3, -, hs⟩ := DataW.trod_string Try.underlying9 g3
    obtain ⟨b, e4, -⟩ := DataW.trod_bool Try.underlying4 g4
    obtain ⟨x, e5, -, hxw⟩ := DataW.trod_int Try.underlying3 g5
    simp at e0 e1 e2 e3 e4 e5
    subst e0 e1 e2 e3 e4 e5
    exact ⟨⟨k, m, nm.data.toList, s.data.toList, b, x⟩, rfl, trivial⟩
theorem cells_node : Try.prog.cellsOf 38 = 6 := by kernel_rfl
set_option maxRecDepth 100000 in
/-- A row of nodes. -/
theorem open_val {r : Reach} {b0 : Nat} {v : Value} {d : DataW H} {ps : List MemPlace} (hv : Value.okWide Try.prog w r b0 23 v) (h : DataW.Trod enc Try.prog w base sp held 23 v d ps) :
    ∃ l : List Nd, Nds w v l := by
  obtain ⟨a, len, cap, rfl⟩ := okWide_slice Try.underlying23 hv
  obtain ⟨fuel, hf⟩ := h
  obtain ⟨l, h1, -⟩ := open_rows (Q := fun _ _ => True) Try.underlying23 cells_node (by decide) ndc_len (fun n cs d h => rd_node n cs d h) hf
  exact ⟨l, h1⟩
end
end Go.Proofs.Ytbffeffplabaeaa

/-
  How a statement on values that lists no variable, returns true, and leaves what lay below as it was, closes its row: the arguments read as before; rows of nodes, of strings, of values are opened.
-/
namespace Go.Proofs.Ytbffeffplabaeaa
open Go.ChangeShapes Go.WideShapes Go.ChangeAt Go.RowKit Go.Deep Np

theorem ownKn : ownKnob Try.prog.godebug = none := by kernel_rfl
theorem laidOut : laidOutB Try.prog = true := by kernel_rfl

section
variable {H : Type} {enc : TypeId × Value → H} {P : Program} {W W' : World}
/-- Arguments read as before, where nothing below has turned. -/
theorem trodAll_below (hl : laidOutB P = true) (hb : Below W.heap.size W W') : ∀ {ts : List TypeId} {vs : List Value} {ds : List (DataW H)} {ps : List MemPlace}, (∀ t ∈ ts, P.readableRec t = true ∧ t < P.types.size) →
    DataW.TrodAll enc P W 0 (fun _ => true) true ts vs ds ps → (∀ x ∈ ps, x.block < W.heap.size) → DataW.TrodAll enc P W' 0 (fun b => decide (b < W.heap.size)) true ts vs ds ps
  | [], [], [], _, _, h, _ => h
  | t :: ts, v :: vs, d :: ds, _, ht, h, hlt => by
    obtain ⟨p, q, h1, h2, rfl⟩ := h
    exact ⟨p, q, Below.trod hl (ht t (by simp)).1 (ht t (by simp)).2 h1 hb (fun x hx => hlt x (by simp [hx])), trodAll_below hl hb (fun u hu => ht u (by simp [hu])) h2 (fun x hx => hlt x (by simp [hx])), rfl⟩
  | [], [], _ :: _, _, _, h, _ => h.elim
  | [], _ :: _, _, _, _, h, _ => h.elim
  | _ :: _, [], _, _, _, h, _ => h.elim
  | _ :: _, _ :: _, [], _, _, h, _ => h.elim
/-- The end of a statement's row. -/
theorem law_post {f : Func} {s : ChangeSpec} {args : Array Value} {ds : List (DataW H)} {before : List MemPlace} {tb : TypeId} (hl : laidOutB P = true)
    (hW : DataW.Whole enc P f.params.toList s.vars false W args.toList ds [] before) (hvars : s.vars = []) (htb : P.underlying tb = some .bool) (hres : f.resultTypes = #[tb])
    (hfn : s.fn H ds = { results := [.lit (.bool true)], args := ds }) (hread : ∀ t ∈ f.params.toList, P.readableRec t = true ∧ t < P.types.size) (hb : Below W.heap.size W W') :
    s.post enc P f false true false false W args (.bool true) W' := by
  have hlt : ∀ x ∈ before, x.block < W.heap.size := fun x hx => hW.lt x hx
  have hW2 := hW
  obtain ⟨p, q, hA, hV, rfl, _, _⟩ := hW
  refine ⟨ds, [], p ++ q, [], p, q, hW2, ?_, ?_, ?_, hb.frame _, fun h => by cases h⟩
  · rw [List.append_nil, hfn, hres]
    exact trodAll_mk1 (shut_bool htb _)
  · rw [List.append_nil, hfn]
    exact trodAll_below hl hb hread hA (fun x hx => hlt x (by simp [hx]))
  · rw [hvars] at hV ⊢
    rw [List.append_nil, hfn]
    exact hV
end

section
variable {H : Type} {enc : TypeId × Value → H} {w : World} {base : Nat} {sp : Nat → Bool} {held : Bool}
theorem rd_text : ∀ n cs (d : DataW H × List MemPlace), DataW.trod enc Try.prog w base sp held n 9 cs = some d → ∃ y : List UInt8, cs = stc y ∧ y.length ≤ maxLen := by
  intro n cs d h
  obtain ⟨s, h1, -, h3⟩ := DataW.trod_string Try.underlying9 h
  exact ⟨s.data.toList, by rw [h1, stc], by simpa using h3⟩
theorem i64_range {x : Int} (h : (Lit.int .i64 x).wf = true) : -9223372036854775808 ≤ x ∧ x ≤ 9223372036854775807 := by
  simp only [Lit.wf, IntKind.min, IntKind.max, IntKind.signed, IntKind.bits, Bool.and_eq_true, decide_eq_true_eq, if_true] at h
  omega
theorem cells_text : Try.prog.cellsOf 9 = 1 := by kernel_rfl
theorem cells_val : Try.prog.cellsOf 23 = 1 := by kernel_rfl
set_option maxRecDepth 100000 in
/-- A slice of strings. -/
theorem open_texts {r : Reach} {b0 : Nat} {v : Value} {d : DataW H} {ps : List MemPlace} (hv : Value.okWide Try.prog w r b0 47 v) (h : DataW.Trod enc Try.prog w base sp held 47 v d ps) :
    ∃ l : List (List UInt8), Sts w v l ∧ ∀ s ∈ l, s.length ≤ maxLen := by
  obtain ⟨a, len, cap, rfl⟩ := okWide_slice Try.underlying47 hv
  obtain ⟨fuel, hf⟩ := h
  obtain ⟨l, h1, h2⟩ := open_rows (Q := fun y _ => y.length ≤ maxLen) Try.underlying47 cells_text (by decide) stc_len (fun n cs d h => rd_text n cs d h) hf
  refine ⟨l, h1, fun s hs => ?_⟩
  rcases h2 with ⟨-, rfl⟩ | ⟨ds, sp', -, -, h3⟩
  · cases hs
  · obtain ⟨i, hi, rfl⟩ := List.getElem_of_mem hs
    obtain ⟨d, -, hq⟩ := h3 i _ (List.getElem?_eq_getElem hi)
    exact hq
/-- How long a slice of rows may be, and each of its rows. -/
def Sz (d : DataW H) : Prop := ∀ elems spare, d = .slice elems spare → elems.length ≤ 140737488355328 ∧ ∀ e' sp', DataW.slice e' sp' ∈ elems → e'.length ≤ 140737488355328
def QV (w : World) (x : Value) (d : DataW H) : Prop := ∃ l, Nds w x l ∧ (d = .nil ∧ l = [] ∨ ∃ ds sp', d = .slice ds sp' ∧ ds.length = l.length)
set_option maxRecDepth 100000 in
theorem rd_val : ∀ n cs (d : DataW H × List MemPlace), DataW.trod enc Try.prog w base sp held n 23 cs = some d → ∃ y : Value, cs = [y] ∧ QV w y d.1 := by
  intro n cs d h
  have hc : ∃ y, cs = [y] := by
    rcases DataW.trod_slice Try.underlying23 h with ⟨h1, -⟩ | ⟨a, len, cap, _, _, _, _, h1, _⟩
    · exact ⟨_, h1⟩
    · exact ⟨_, h1⟩
  obtain ⟨y, rfl⟩ := hc
  obtain ⟨l, h1, h2⟩ := open_rows (Q := fun _ _ => True) Try.underlying23 cells_node (by decide) ndc_len (fun n cs d h => rd_node n cs d h) h
  refine ⟨y, rfl, l, h1, ?_⟩
  rcases h2 with ⟨h2, h3⟩ | ⟨ds, sp', h2, h3, -⟩
  · exact .inl ⟨h2, h3⟩
  · exact .inr ⟨ds, sp', h2, h3⟩
set_option maxRecDepth 100000 in
theorem open_vals {r : Reach} {b0 : Nat} {v : Value} {d : DataW H} {ps : List MemPlace} (hv : Value.okWide Try.prog w r b0 24 v) (h : DataW.Trod enc Try.prog w base sp held 24 v d ps) (hsz : Sz d) :
    ∃ L : List (List Nd), Vls w v L ∧ L.length ≤ 140737488355328 ∧ ∀ l ∈ L, l.length ≤ 140737488355328 := by
  obtain ⟨a, len, cap, rfl⟩ := okWide_slice Try.underlying24 hv
  obtain ⟨fuel, hf⟩ := h
  obtain ⟨us, h1, h2⟩ := open_rows (Q := QV w) Try.underlying24 cells_val (by decide) vac_len (fun n cs d h => rd_val n cs d h) hf
  rcases h2 with ⟨h2, h3⟩ | ⟨ds, sp', h2, h3, h4⟩
  · subst h3
    exact ⟨[], ⟨[], rfl, h1, fun k x l hx => by simp at hx⟩, by simp, fun l hl => by cases hl⟩
  · obtain ⟨h5, h6⟩ := hsz ds sp' h2
    obtain ⟨L, h7, h8⟩ := list_of (fun (i : Nat) (l : List Nd) => ∀ x, us[i]? = some x → Nds w x l ∧ l.length ≤ 140737488355328) us.length (fun i hi => by
      obtain ⟨dd, hd, l, hl, hq⟩ := h4 i _ (List.getElem?_eq_getElem hi)
      refine ⟨l, fun x hx => ?_⟩
      rw [List.getElem?_eq_getElem hi] at hx
      injection hx with hx
      subst hx
      refine ⟨hl, ?_⟩
      rcases hq with ⟨-, rfl⟩ | ⟨ds', sp'', rfl, hlen⟩
      · simp
      · rw [← hlen]; exact h6 _ _ hd)
    refine ⟨L, ⟨us, h7.symm, h1, fun k x l hx hk => (h8 k l hk x hx).1⟩, by rw [h7, ← h3]; exact h5, fun l hl => ?_⟩
    obtain ⟨i, hi, rfl⟩ := List.getElem_of_mem hl
    exact (h8 i _ (List.getElem?_eq_getElem hi) _ (List.getElem?_eq_getElem (by rw [← h7]; exact hi))).2
theorem weightsAll_mem {P : Program} {e : TypeId} : ∀ {l : List (DataW H)} {d : DataW H}, d ∈ l → ∀ n ∈ d.weights P e, n ∈ DataW.weightsAll P e l
  | d' :: r, d, hd, n, hn => by
    simp only [DataW.weightsAll, List.mem_append]
    rcases List.mem_cons.1 hd with rfl | h
    · exact Or.inl hn
    · exact Or.inr (weightsAll_mem h n hn)
theorem sized_inner {P : Program} {ts : List TypeId} {ds : List (DataW H)} (h : (DataW.weightsEach P ts ds).all (· ≤ reachBytes) = true) {j : Nat} {t e q : TypeId} {elems spare e' sp' : List (DataW H)}
    (ht : ts[j]? = some t) (hd : ds[j]? = some (.slice elems spare)) (hu : P.underlying t = some (.slice e)) (hu2 : P.underlying e = some (.slice q)) (hx : DataW.slice e' sp' ∈ elems) : (e'.length + sp'.length) * P.bytesOf q ≤ reachBytes := by
  refine of_decide_eq_true (List.all_eq_true.1 h _ (DataW.weights_mem_each ht hd _ ?_))
  simp only [DataW.weights, hu, List.mem_cons, List.mem_append]
  exact Or.inr (Or.inl (weightsAll_mem hx _ (by simp [DataW.weights, hu2])))
set_option maxRecDepth 100000 in
theorem vals_sized {ts : List TypeId} {ds : List (DataW H)} (h : (DataW.weightsEach Try.prog ts ds).all (· ≤ reachBytes) = true) {j : Nat} {d : DataW H} (ht : ts[j]? = some 24) (hd : ds[j]? = some d) : Sz d := by
  intro elems spare he
  subst he
  have h1 := sized_slice h ht hd Try.underlying24
  have b1 : Try.prog.bytesOf 23 = 24 := by kernel_rfl
  have b2 : Try.prog.bytesOf 38 = 64 := by kernel_rfl
  have hr : reachBytes = 140737488351232 := rfl
  rw [b1, hr] at h1
  refine ⟨by omega, fun e' sp' hx => ?_⟩
  have h2 := sized_inner h ht hd Try.underlying24 Try.underlying23 hx
  rw [b2, hr] at h2
  omega
set_option maxRecDepth 100000 in
/-- Two texts. -/
theorem open_pair {r : Reach} {b0 : Nat} {v : Value} {d : DataW H} {ps : List MemPlace} (hv : Value.okWide Try.prog w r b0 42 v) (h : DataW.Trod enc Try.prog w base sp held 42 v d ps) :
    ∃ s u : ByteArray, v = .agg #[.string s, .string u] ∧ s.size ≤ maxLen ∧ u.size ≤ maxLen := by
  simp only [Value.okWide, Try.underlying42] at hv
  obtain ⟨⟨l⟩, rfl, hl, -⟩ := hv
  rw [show Try.prog.cellsOf 42 = 2 by kernel_rfl] at hl
  obtain ⟨fuel, hf⟩ := h
  obtain ⟨xs, n, -, -, -, hx, hg⟩ := DataW.trod_array Try.underlying42 hf
  match l, hl with
  | [v0, v1], _ =>
    have g0 := (hg 0 (by decide)).trans (List.getElem?_eq_getElem (by rw [hx]; decide))
    have g1 := (hg 1 (by decide)).trans (List.getElem?_eq_getElem (by rw [hx]; decide))
    simp only [cells_text] at g0 g1
    obtain ⟨s, e0, -, w0⟩ := DataW.trod_string Try.underlying9 g0
    obtain ⟨u, e1, -, w1⟩ := DataW.trod_string Try.underlying9 g1
    simp [Value.cells] at e0 e1
    subst e0 e1
    exact ⟨s, u, rfl, w0, w1⟩
end
end Go.Proofs.Ytbffeffplabaeaa
