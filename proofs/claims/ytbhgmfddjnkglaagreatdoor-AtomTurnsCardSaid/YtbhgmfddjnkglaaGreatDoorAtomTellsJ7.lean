/-
  Joined: CmpW, SortW, ValW11, ValW6, FrontW.
-/
import Derived.Test.YtbhgmfddjnkglaaGreatDoorAtomTellsJ1
import Derived.Deep.QuietTactic
import Derived.BigQuiet
import Derived.Test.YtbhgmfddjnkglaaGreatDoorAtomTellsJ6
import Derived.IntWalk
import Derived.StillTailTactics
import Derived.RangeFuncNested
import Derived.RangeFuncBound
import Derived.RangeFuncCalls
import Derived.RangeFuncLeaves
import Derived.RangeFuncBox
import Derived.Shelf.Abstract
import Derived.Shelf.RegionOpen
import Derived.OwnWalkIn
import Derived.TacticsInMore
import Derived.LoopNIn
import Derived.LoopIn

/-
  What the library's Compare of two strings answers, and what val.byName compares by.
-/
namespace Go.Proofs.YtbhgmfddjnkglaaGreatDoor
open Go.RowKit Np

set_option maxHeartbeats 400000 in
theorem isNaNS_any (s : ByteArray) (w : World) :
    Calls Tryz.prog 111 #[.string s] w fun e w' => e = .returned (.bool false) ∧ w = w' := by
  go_enter Tryz.func111, Tryz.ntmps111
  go_wp2
  go_ret
  exact ⟨ret_bool (by simp), rfl⟩

set_option maxHeartbeats 400000 in
theorem cmpS_any (s t : ByteArray) (w : World) :
    Calls Tryz.prog 76 #[.string s, .string t] w fun e w' => e = .returned (.int .i64 (cmpB s.data.toList t.data.toList)) ∧ w = w' := by
  go_enter Tryz.func76, Tryz.ntmps76
  go_wp2_with (go_at_call 111; refine (isNaNS_any _ _).mono ?_; rintro e w' ⟨rfl, rfl⟩)
  · have h : Op.bytesLess s.toList t.toList = true := by assumption
    rw [ByteArray.toList_eq, ByteArray.toList_eq] at h
    go_ret
    exact ⟨ret_i64 (by rw [cmpB, if_pos h]), rfl⟩
  · have h : Op.bytesLess s.toList t.toList = false := by assumption
    have h2 : (!s.toList == t.toList) = true := by assumption
    rw [ByteArray.toList_eq, ByteArray.toList_eq] at h h2
    go_ret
    exact ⟨ret_i64 (by rw [cmpB, if_neg (by rw [h]; decide), if_neg (by simpa using h2)]), rfl⟩
  · have h : Op.bytesLess s.toList t.toList = false := by assumption
    have h2 : (!s.toList == t.toList) = false := by assumption
    rw [ByteArray.toList_eq, ByteArray.toList_eq] at h h2
    go_ret
    exact ⟨ret_i64 (by rw [cmpB, if_neg (by rw [h]; decide), if_pos (by simpa using h2)]), rfl⟩

end Go.Proofs.YtbhgmfddjnkglaaGreatDoor

/-
  What val.byName answers: the places of some names, so that the names rise.
-/
namespace Go.Proofs.YtbhgmfddjnkglaaGreatDoor




end Go.Proofs.YtbhgmfddjnkglaaGreatDoor

/-
  What val's Object answers.
-/
namespace Go.Proofs.YtbhgmfddjnkglaaGreatDoor
open Go.RowKit Np Rw Vp

/-- What val.Object hands back. -/
def GivesO (w : World) (names : List (List UInt8)) (L : List (List Nd)) (e : Ending) (w' : World) : Prop := ∃ v', e = .returned (.tuple #[v', .int .i64 (objE names L)]) ∧ OwnN w.heap.size w' v' (objV names L) ∧ Below w.heap.size w w'
theorem GivesO.bad {w w' : World} {names : List (List UInt8)} {L : List (List Nd)} {e : Ending} (h : objB names L = false) (he : e = .returned (.tuple #[.slice none 0 0, .int .i64 4])) (hb : Below w.heap.size w w') : GivesO w names L e w' :=
  ⟨_, by rw [objE, h]; exact he, by rw [objV, h]; exact Own.nil _, hb⟩

/-- So far no name is wrong, or there twice. -/
def GoodTo (names : List (List UInt8)) (p : List Nat) (k : Nat) : Prop :=
  (∀ i j, i < k → p[i]? = some j → vld (atN names j) = true) ∧ (∀ i a b, i + 1 < k → p[i]? = some a → p[i + 1]? = some b → atN names a ≠ atN names b)

theorem GoodTo.next {names : List (List UInt8)} {p : List Nat} {k at_ : Nat} (h : GoodTo names p k) (ha : p[k]? = some at_) (hv : vld (atN names at_) = true) (hn : ∀ a, 0 < k → p[k - 1]? = some a → atN names a ≠ atN names at_) : GoodTo names p (k + 1) := by
  refine ⟨fun i j hi hj => ?_, fun i a b hi h1 h2 => ?_⟩
  · by_cases e : i = k
    · subst e; rw [ha] at hj; injection hj with hj; rw [← hj]; exact hv
    · exact h.1 i j (by omega) hj
  · by_cases e : i + 1 = k
    · subst e; rw [ha] at h2; injection h2 with h2; rw [← h2]; exact hn a (by omega) h1
    · exact h.2 i a b (by omega) h1 h2

end Go.Proofs.YtbhgmfddjnkglaaGreatDoor

/-
  What val's rows tells, one by one: a value's parts, in order, each as it stands in the row.
-/
namespace Go.Proofs.YtbhgmfddjnkglaaGreatDoor
open Go.RowKit Go.Shelf Np Rw Vp
attribute [local go_sem] Oper.semAt_some

/-- A piece of a slice. -/
theorem Row.piece {α : Type} {enc : α → List Value} {sz g o c : Nat} {w : World} {l : List α} (h : Row enc sz w (.slice (some ⟨g, o, none⟩) l.length c) l) (k m : Nat) (hk : k + m ≤ l.length) :
    Row enc sz w (.slice (some ⟨g, o + k * sz, none⟩) m (c - k)) ((l.drop k).take m) := by
  obtain ⟨A, c', hv, hc, hm, -, H⟩ := h
  injection hv with e1 _ e3
  subst e1 e3
  have hl : ((l.drop k).take m).length = m := by simp; omega
  refine ⟨_, c - k, by rw [hl], by rw [hl]; omega, by omega, fun h => (by cases h), fun h0 => ?_⟩
  rw [hl] at h0
  obtain ⟨g', o', hA, hg, hx⟩ := H (by omega)
  injection hA with hA
  injection hA with e1 e2
  subst e1 e2
  refine ⟨g, o + k * sz, rfl, hg, fun i x hi => ?_⟩
  rw [List.getElem?_take] at hi
  split at hi
  · rw [List.getElem?_drop] at hi
    have := hx _ x hi
    rwa [Nat.add_mul, ← Nat.add_assoc] at this
  · cases hi
theorem Row.rest {α : Type} {enc : α → List Value} {sz g o c : Nat} {w : World} {l : List α} (h : Row enc sz w (.slice (some ⟨g, o, none⟩) l.length c) l) (k : Nat) (hk : k ≤ l.length) :
    Row enc sz w (.slice (some ⟨g, o + k * sz, none⟩) (l.length - k) (c - k)) (l.drop k) := by
  have := h.piece k (l.length - k) (by omega)
  rwa [List.take_of_length_le (by simp)] at this

/-- A part of a row: where it stands, and its tree. -/
abbrev Pt (L : List Nd) := { x : Nat × Tr Nd // okT many x.2 ∧ ∃ r, L.drop x.1 = flat x.2 ++ r }
abbrev ptv (g o c : Nat) {L : List Nd} (x : Pt L) : Value := .slice (some ⟨g, o + x.1.1 * 6, none⟩) (flat x.1.2).length (c - x.1.1)
def Spread (L : List Nd) : Nat → List (Tr Nd) → List (Pt L) → Prop
  | _, [], [] => True
  | p, t :: ts, x :: xs => x.1 = (p, t) ∧ Spread L (p + (flat t).length) ts xs
  | _, _, _ => False
theorem spread_ex {L : List Nd} : ∀ (ts : List (Tr Nd)) (p : Nat) (r : List Nd), okTs many ts → L.drop p = flats ts ++ r → ∃ xs, Spread L p ts xs
  | [], _, _, _, _ => ⟨[], trivial⟩
  | t :: ts, p, r, h, hd => by
    obtain ⟨h1, h2⟩ := okTs_cons.1 h
    rw [flats_cons, List.append_assoc] at hd
    obtain ⟨xs, hx⟩ := spread_ex ts (p + (flat t).length) r h2 (by rw [← List.drop_drop, hd, List.drop_left])
    exact ⟨⟨(p, t), h1, _, hd⟩ :: xs, rfl, hx⟩
theorem spread_trees {L : List Nd} : ∀ {ts : List (Tr Nd)} {p : Nat} {xs : List (Pt L)}, Spread L p ts xs → xs.map (fun x => x.1.2) = ts
  | [], _, [], _ => rfl
  | t :: ts, p, x :: xs, h => by
    obtain ⟨h1, h2⟩ := h
    rw [List.map_cons, spread_trees h2, h1]
  | [], _, _ :: _, h => h.elim
  | _ :: _, _, [], h => h.elim
theorem pt_row {L : List Nd} {w : World} {g o c : Nat} (h : Nds w (.slice (some ⟨g, o, none⟩) L.length c) L) (x : Pt L) : Nds w (ptv g o c x) (flat x.1.2) := by
  obtain ⟨⟨p, t⟩, h1, r, h2⟩ := x
  have hl := part_lt h2
  have := h.piece p (flat t).length hl
  rwa [h2, List.take_left] at this

/-- How long a slice is. -/
def lenS : Value → Nat
  | .slice _ n _ => n
  | _ => 0



end Go.Proofs.YtbhgmfddjnkglaaGreatDoor

/-
  The front and the rest of a row. Of no function.
-/
namespace Go.Proofs.YtbhgmfddjnkglaaGreatDoor
open Go.RowKit Np Rw Vp

theorem Row.front {α : Type} {enc : α → List Value} {sz g o c : Nat} {w : World} {l : List α} (h : Row enc sz w (.slice (some ⟨g, o, none⟩) l.length c) l) (k : Nat) (hk : k ≤ l.length) (hkc : k ≤ c) (hcm : c ≤ maxLen) :
    Row enc sz w (.slice (some ⟨g, o, none⟩) k c) (l.take k) := by
  have hl : (l.take k).length = k := by simp; omega
  refine ⟨_, c, by rw [hl], by rw [hl]; exact hkc, hcm, fun h => (by cases h), fun h0 => ?_⟩
  rw [hl] at h0
  obtain ⟨A, c', hv, hc, hm, -, H⟩ := h
  injection hv with e1 _ e3
  obtain ⟨g', o', hA, hg, hx⟩ := H (by omega)
  rw [hA] at e1
  injection e1 with e1
  injection e1 with e1 e2
  subst e1 e2
  refine ⟨g, o, rfl, hg, fun i y hi => hx i y ?_⟩
  rw [List.getElem?_take] at hi
  split at hi
  · exact hi
  · cases hi
/-- The rest of a row, wherever its slice is said to begin. -/
theorem Row.back {α : Type} {enc : α → List Value} {sz g o c : Nat} {w : World} {l : List α} (h : Row enc sz w (.slice (some ⟨g, o, none⟩) l.length c) l) (k : Nat) (hk : k ≤ l.length) (hc : l.length ≤ c) (_hcm : c ≤ maxLen) :
    Row enc sz w (.slice (some (if k = c then ⟨g, o, none⟩ else ⟨g, o + k * sz, none⟩)) (l.length - k) (c - k)) (l.drop k) := by
  split
  · rename_i e
    have e1 : l.length - k = 0 := by omega
    have e2 : l.drop k = [] := List.drop_of_length_le (by omega)
    rw [e1, e2]
    exact Row.empty _ _ _ (by omega)
  · exact h.rest k hk
end Go.Proofs.YtbhgmfddjnkglaaGreatDoor
