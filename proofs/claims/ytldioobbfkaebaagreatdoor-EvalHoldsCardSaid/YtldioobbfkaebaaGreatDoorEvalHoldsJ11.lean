/-
  Joined: ValW10, ValW6, PR2, FrS, FrontW, ConcP, Pa6, Pa7, Pa8, PRef1.
-/
import Derived.Test.YtldioobbfkaebaaGreatDoorEvalHoldsJ10
import Derived.Test.YtldioobbfkaebaaGreatDoorEvalHoldsJ8
import Derived.Test.YtldioobbfkaebaaGreatDoorEvalHoldsJ1
import Derived.RangeFuncNested
import Derived.RangeFuncBound
import Derived.RangeFuncCalls
import Derived.RangeFuncLeaves
import Derived.RangeFuncBox
import Derived.Shelf.Abstract
import Derived.Shelf.RegionOpen
import Derived.OwnWalkIn
import Derived.TacticsInMore
import Derived.LoopNIn
import Derived.LoopIn
import Derived.Test.YtldioobbfkaebaaGreatDoorEvalHoldsJ7
import Derived.Test.YtldioobbfkaebaaGreatDoorEvalHoldsJ6
namespace Go.Proofs.YtldioobbfkaebaaGreatDoor
section
open Go.RowKit Np Rw Vp
theorem grown_set {w w' : World} {row : Option Nat} {g : Nat} {c : Nat} (h : w.grownBy w' row) (hg : row = some g ∨ w.heap.size ≤ g) (u : Value) : w.grownBy (w'.setCell ⟨g, c, none⟩ u) row := by
 obtain ⟨h1, h2, h3, h4, h5⟩ := h
 refine ⟨h1, h2, h3, by simpa using h4, fun k hk hne => ?_⟩
 rw [← h5 k hk hne]
 refine heap_setCell_other _ ⟨g, c, none⟩ k u ?_
 rcases hg with e | e
 ·intro h; subst h; exact hne e.symm
 ·intro h; subst h; exact absurd hk (by simpa using e)
end
section
open Go.RowKit Go.Shelf Np Rw Vp
attribute [local go_sem] Oper.semAt_some
theorem Row.piece {α : Type} {enc : α → List Value} {sz g o c : Nat} {w : World} {l : List α} (h : Row enc sz w (.slice (some ⟨g, o, none⟩) l.length c) l) (k m : Nat) (hk : k + m ≤ l.length) :
  Row enc sz w (.slice (some ⟨g, o + k * sz, none⟩) m (c - k)) ((l.drop k).take m) := by
 obtain ⟨A, c', hv, hc, hm, -, H⟩ := h
 injection hv with e1 _ e3
 subst e1 e3
 have hl : ((l.drop k).take m).length = m := by simp; omega
 refine ⟨_, c - k, by rw [hl], by rw [hl]; omega, by omega, fun h => (by cases h), fun h0 => ?_⟩
 rw [hl] at h0
 obtain ⟨g', o', hA, hg, hx⟩ := H (by omega)
 injection hA with hA
 injection hA with e1 e2
 subst e1 e2
 refine ⟨g, o + k * sz, rfl, hg, fun i x hi => ?_⟩
 rw [List.getElem?_take] at hi
 split at hi
 ·rw [List.getElem?_drop] at hi
  have := hx _ x hi
  rwa [Nat.add_mul, ← Nat.add_assoc] at this
 ·cases hi
theorem Row.rest {α : Type} {enc : α → List Value} {sz g o c : Nat} {w : World} {l : List α} (h : Row enc sz w (.slice (some ⟨g, o, none⟩) l.length c) l) (k : Nat) (hk : k ≤ l.length) :
  Row enc sz w (.slice (some ⟨g, o + k * sz, none⟩) (l.length - k) (c - k)) (l.drop k) := by
 have := h.piece k (l.length - k) (by omega)
 rwa [List.take_of_length_le (by simp)] at this
abbrev Pt (L : List Nd) := { x : Nat × Tr Nd // okT many x.2 ∧ ∃ r, L.drop x.1 = flat x.2 ++ r }
end
section
namespace Pw
open Go.RowKit Np Rw Vp Up Qp
def bgsF : Nat → List St → List UInt8 → Nat → List St × Nat
 | 0, acc, _, i => (acc, i)
 | f + 1, acc, l, i => if acc.length < 20 then match stepR (l.drop i) (acc.length == 0) with
   | none => (acc, i)
   | some x => bgsF f (acc ++ [x.1]) l (i + x.2)
  else (acc, i)
def endR (l : List UInt8) (x : List St × Nat) : List St × Nat × Int := if x.1 = [] then ([], 0, 1) else if x.2 < l.length then ([], x.2, 1) else (x.1, 0, 0)
theorem read_ends : ∀ (f : Nat) (acc : List St) (l : List UInt8) (i : Nat), i ≤ l.length → (i = l.length → acc = []) → l.length < i + f → (i = 0 ↔ acc = []) → acc.length ≤ 20 → Pw.readF f acc l i = endR l (bgsF f acc l i)
 | 0, acc, l, i, hi, _, hf, _, _ => by omega
 | f + 1, acc, l, i, hi, hne, hf, h0, h20 => by
  rw [Pw.readF, bgsF]
  have hfst : (i == 0) = (acc.length == 0) := by
   rw [Bool.eq_iff_iff, beq_iff_eq, beq_iff_eq, h0]
   exact ⟨fun h => by rw [h]; rfl, fun h => List.eq_nil_of_length_eq_zero h⟩
  rw [hfst, ← step_eq]
  cases hs : stepR (l.drop i) (acc.length == 0) with
  | none =>
   simp only
   have hE : endR l (acc, i) = ([], i, 1) := by
    unfold endR
    by_cases ha : acc = []
    ·rw [if_pos ha, h0.2 ha]
    ·rw [if_neg ha, if_pos]
     rcases Nat.lt_or_ge i l.length with h | h
     ·exact h
     ·exact absurd (hne (by omega)) ha
   split <;> exact hE.symm
  | some x =>
   simp only
   have hl := bgn_len (g := x.1) (n := x.2) (by rw [← step_eq]; exact hs)
   rw [List.length_drop] at hl
   by_cases ha : acc.length = 20
   ·rw [if_pos ha, if_neg (by omega)]
    unfold endR
    have hna : acc ≠ [] := by intro e; rw [e] at ha; simp at ha
    rw [if_neg hna, if_pos (by simp only; omega)]
   ·rw [if_neg ha, if_pos (show acc.length < 20 by omega)]
    by_cases he : i + x.2 = l.length
    ·rw [if_pos he]
     have hb : bgsF f (acc ++ [x.1]) l (i + x.2) = (acc ++ [x.1], i + x.2) := by
      cases f with
      | zero => rfl
      | succ f =>
       rw [bgsF]
       have : l.drop (i + x.2) = [] := List.drop_of_length_le (by omega)
       rw [this]
       have hn : stepR [] ((acc ++ [x.1]).length == 0) = none := rfl
       rw [hn]
       simp
     rw [hb]
     unfold endR
     rw [if_neg (by simp), if_neg (by simp only; omega)]
    ·rw [if_neg he]
     exact read_ends f (acc ++ [x.1]) l (i + x.2) (by omega) (fun h => absurd h he) (by omega) ⟨fun h => by omega, fun h => by simp at h⟩ (by simp; omega)
theorem readR_eq (l : List UInt8) (h : l ≠ [46]) : readP l = endR l (bgsF (l.length + 1) [] l 0) := by
 unfold readP
 rw [if_neg h]
 exact read_ends _ _ _ _ (Nat.zero_le _) (fun _ => rfl) (by omega) ⟨fun _ => rfl, fun _ => rfl⟩ (by simp)
end Pw
end
section
open Go.RowKit Np Rw Vp Pw Fw
def shortT (t : Tm) : Bool := decide (t.s.length ≤ 100) && decide (t.name.length ≤ 100) && decide (t.c.s.length ≤ 100)
def fewF (m : Nat) (l : List Tm) : Bool := decide (l.length ≤ m) && l.all shortT && rightF l
structure HeldT (t : Tm) : Prop where
 nm : t.name.length ≤ maxLen
 s : t.s.length ≤ maxLen
 cn : t.c.name.length ≤ maxLen
 cs : t.c.s.length ≤ maxLen
 m : t.many ≤ 9223372036854775807
 cm : t.c.many ≤ 9223372036854775807
 n0 : -9223372036854775808 ≤ t.n
 n1 : t.n ≤ 9223372036854775807
def HeldF (l : List Tm) : Prop := ∀ t ∈ l, HeldT t
end
section
open Go.RowKit Np Rw Vp
theorem Row.front {α : Type} {enc : α → List Value} {sz g o c : Nat} {w : World} {l : List α} (h : Row enc sz w (.slice (some ⟨g, o, none⟩) l.length c) l) (k : Nat) (hk : k ≤ l.length) (hkc : k ≤ c) (hcm : c ≤ maxLen) :
  Row enc sz w (.slice (some ⟨g, o, none⟩) k c) (l.take k) := by
 have hl : (l.take k).length = k := by simp; omega
 refine ⟨_, c, by rw [hl], by rw [hl]; exact hkc, hcm, fun h => (by cases h), fun h0 => ?_⟩
 rw [hl] at h0
 obtain ⟨A, c', hv, hc, hm, -, H⟩ := h
 injection hv with e1 _ e3
 obtain ⟨g', o', hA, hg, hx⟩ := H (by omega)
 rw [hA] at e1
 injection e1 with e1
 injection e1 with e1 e2
 subst e1 e2
 refine ⟨g, o, rfl, hg, fun i y hi => hx i y ?_⟩
 rw [List.getElem?_take] at hi
 split at hi
 ·exact hi
 ·cases hi
theorem Row.back {α : Type} {enc : α → List Value} {sz g o c : Nat} {w : World} {l : List α} (h : Row enc sz w (.slice (some ⟨g, o, none⟩) l.length c) l) (k : Nat) (hk : k ≤ l.length) (hc : l.length ≤ c) (_hcm : c ≤ maxLen) :
  Row enc sz w (.slice (some (if k = c then ⟨g, o, none⟩ else ⟨g, o + k * sz, none⟩)) (l.length - k) (c - k)) (l.drop k) := by
 split
 ·rename_i e
  have e1 : l.length - k = 0 := by omega
  have e2 : l.drop k = [] := List.drop_of_length_le (by omega)
  rw [e1, e2]
  exact Row.empty _ _ _ (by omega)
 ·exact h.rest k hk
end
section
open Go.RowKit Go.Shelf Np Rw Vp
end
section
open Go.RowKit Np Rw Vp Pw
theorem Sp3.quiet {w w' : World} {g o : Nat} {s : St} (h : Sp3 w g o s) (hq : ∃ m, w' = w.drewN m) : Sp3 w' g o s := by
 obtain ⟨m, rfl⟩ := hq
 exact ⟨h.c0, h.c1, h.c2⟩
end
section
open Go.RowKit Np Rw Vp Pw
end
section
open Go.RowKit Np Rw Vp Pw
end
section
open Go.RowKit Np Rw Vp Pw
end
end Go.Proofs.YtldioobbfkaebaaGreatDoor
