/-
  Joined: NumPlain, Base, NumW1, Shelf, NumW2, RowP, UtfP, NumPlain5.
-/
import Derived.PlainAid
import Derived.Lib.Small
import Derived.Lib.TrimByte
import Derived.Test.YtbffeffplabaeaaRows
import Derived.WalkKit
import Derived.WalkSpells
import Derived.WalkLawsBesides
import Derived.Lib.Hide
import Derived.Deep.QuietTactic
import Derived.BigQuiet
import Derived.Below
import Derived.Shelf.Small.Wraps
import Derived.Test.YtbffeffplabaeaaProg
import Derived.Lib.ValidLaws

/-
  Plain words on numbers: which bytes are figures, which nodes are right numbers, the number of some figures, a number's text, which of two is greater. No program stands here.
-/
namespace Go.Proofs.Ytbffeffplabaeaa
namespace Np
open Go.RowKit

def fig (c : UInt8) : Bool := decide (48 ≤ c.toNat) && decide (c.toNat ≤ 57)
def figs (l : List UInt8) : Bool := l.all fig

theorem fig_iff (c : UInt8) : fig c = true ↔ 48 ≤ c.toNat ∧ c.toNat ≤ 57 := by simp [fig]
theorem size_toList (s : ByteArray) : s.data.toList.length = s.size := by simp
theorem get_toList (s : ByteArray) (k : Nat) (h : k < s.size) : s.data.toList[k]'(by simpa using h) = s[k] := rfl
theorem take_snoc (l : List UInt8) (k : Nat) (h : k < l.length) : l.take (k + 1) = l.take k ++ [l[k]] := List.take_succ_eq_append_getElem h
theorem figs_snoc (l : List UInt8) (c : UInt8) : figs (l ++ [c]) = (figs l && fig c) := by simp [figs]
theorem figs_of_not {l : List UInt8} {k : Nat} (h : k < l.length) (hf : fig l[k] = false) : figs l = false := by
  rw [figs, List.all_eq_false]
  exact ⟨l[k], List.getElem_mem h, by simp [hf]⟩

/-- Are all of them figures, at most 100, the first one and the last one not nought? -/
def rfigs (l : List UInt8) : Bool := decide (l.length ≤ 100) && figs l && l.headD 0 != 48 && l.getLastD 0 != 48
def rpow (n e : Int) : Bool := decide (-1000 ≤ e) && decide (e ≤ 1000 - n)
theorem headD_eq (s : ByteArray) (h : 0 < s.size) : s.data.toList.headD 0 = s[0] := by
  rw [← get_toList s 0 h]
  rw [List.headD_eq_head?_getD, List.head?_eq_getElem?, List.getElem?_eq_getElem (by simp; omega)]
  simp
theorem getLastD_eq (s : ByteArray) (h : 0 < s.size) : s.data.toList.getLastD 0 = s[s.size - 1] := by
  rw [← get_toList s (s.size - 1) (by omega)]
  rw [List.getLastD_eq_getLast?, List.getLast?_eq_getElem?, List.getElem?_eq_getElem (by simp; omega)]
  simp
theorem rfigs_eq (s : ByteArray) (h : 0 < s.size) : rfigs s.data.toList = (decide (s.size ≤ 100) && figs s.data.toList && s[0] != 48 && s[s.size - 1] != 48) := by
  rw [rfigs, headD_eq s h, getLastD_eq s h, size_toList s]
theorem toNat_beq (c : UInt8) : (c != 48) = ((c.toNat : Int) != 48) := by
  rw [Bool.eq_iff_iff]; simp only [bne_iff_ne, ne_eq, ← UInt8.toNat_inj]; simp; omega
/-- A number's node. -/
structure Nd where
  kind : Int
  many : Int
  name : List UInt8
  s : List UInt8
  neg : Bool
  e : Int
deriving DecidableEq
/-- Is it a right number? -/
def right (n : Nd) : Bool := decide (n.kind = 3) && decide (n.many = 0) && n.name.isEmpty && (if n.s.isEmpty then !n.neg && decide (n.e = 0) else rfigs n.s && rpow n.s.length n.e)
theorem right_name {n : Nd} (h : n.name.isEmpty = false) : right n = false := by simp [right, h]
theorem right_nought {n : Nd} (h1 : n.kind = 3) (h2 : n.many = 0) (h3 : n.name.isEmpty = true) (h4 : n.s.isEmpty = true) : right n = (!n.neg && decide (n.e = 0)) := by simp [right, h1, h2, h3, h4]
theorem right_some {n : Nd} (h1 : n.kind = 3) (h2 : n.many = 0) (h3 : n.name.isEmpty = true) (h4 : n.s.isEmpty = false) : right n = (rfigs n.s && rpow n.s.length n.e) := by simp [right, h1, h2, h3, h4]
/-- On which side of nought a number is. -/
def sgn (s : List UInt8) (g : Bool) : Int := if s.isEmpty then 0 else if g then -1 else 1
/-- Which of two texts is greater, byte by byte. -/
def cmpB (a b : List UInt8) : Int := if Op.bytesLess a b = true then -1 else if a = b then 0 else 1
/-- How far two numbers of one side are from nought. -/
def cmpSz (a : List UInt8) (x : Int) (b : List UInt8) (y : Int) : Int := if Lib.compareInt (a.length + x) (b.length + y) = 0 then cmpB a b else Lib.compareInt (a.length + x) (b.length + y)
/-- Which of two numbers is greater, as the program reckons it. -/
def cmpN (a : List UInt8) (g : Bool) (x : Int) (b : List UInt8) (g2 : Bool) (y : Int) : Int := if Lib.compareInt (sgn a g) (sgn b g2) = 0 then sgn a g * cmpSz a x b y else Lib.compareInt (sgn a g) (sgn b g2)
theorem compareInt_cases (x y : Int) : Lib.compareInt x y = -1 ∨ Lib.compareInt x y = 0 ∨ Lib.compareInt x y = 1 := by
  unfold Lib.compareInt; split
  · exact .inl rfl
  · split
    · exact .inr (.inr rfl)
    · exact .inr (.inl rfl)
theorem cmpB_cases (a b : List UInt8) : cmpB a b = -1 ∨ cmpB a b = 0 ∨ cmpB a b = 1 := by
  unfold cmpB; split
  · exact .inl rfl
  · split
    · exact .inr (.inl rfl)
    · exact .inr (.inr rfl)
theorem cmpSz_cases (a : List UInt8) (x : Int) (b : List UInt8) (y : Int) : cmpSz a x b y = -1 ∨ cmpSz a x b y = 0 ∨ cmpSz a x b y = 1 := by
  unfold cmpSz; split
  · exact cmpB_cases a b
  · exact compareInt_cases _ _
theorem sgn_cases (a : List UInt8) (g : Bool) : sgn a g = -1 ∨ sgn a g = 0 ∨ sgn a g = 1 := by
  unfold sgn; split
  · exact .inr (.inl rfl)
  · split
    · exact .inl rfl
    · exact .inr (.inr rfl)
/-- The number of some figures and a power, as the program makes it, and how it ends. -/
def nd0 : Nd := ⟨0, 0, [], [], false, 0⟩
def nought : Nd := ⟨3, 0, [], [], false, 0⟩
def mkN (g : Bool) (f : List UInt8) (e : Int) : Nd := ⟨3, 0, [], Lib.trimRightB (Lib.trimLeftB f 48) 48, g, wrap64 (wrap64 (e + (Lib.trimLeftB f 48).length) - (Lib.trimRightB (Lib.trimLeftB f 48) 48).length)⟩
def mk (g : Bool) (f : List UInt8) (e : Int) : Nd × Int :=
  if figs f = false then (nd0, 4) else if (Lib.trimLeftB f 48).isEmpty = true then (nought, 0) else if right (mkN g f e) = true then (mkN g f e, 0) else (nd0, 2)
theorem mk_arg (g : Bool) (f : List UInt8) (e : Int) (h : figs f = false) : mk g f e = (nd0, 4) := by rw [mk, if_pos h]
theorem mk_nought (g : Bool) (f : List UInt8) (e : Int) (h : figs f = true) (h2 : (Lib.trimLeftB f 48).isEmpty = true) : mk g f e = (nought, 0) := by rw [mk, if_neg (by rw [h]; decide), if_pos h2]
theorem mk_ok (g : Bool) (f : List UInt8) (e : Int) (h : figs f = true) (h2 : (Lib.trimLeftB f 48).isEmpty = false) (h3 : right (mkN g f e) = true) : mk g f e = (mkN g f e, 0) := by
  rw [mk, if_neg (by rw [h]; decide), if_neg (by rw [h2]; decide), if_pos h3]
theorem mk_large (g : Bool) (f : List UInt8) (e : Int) (h : figs f = true) (h2 : (Lib.trimLeftB f 48).isEmpty = false) (h3 : right (mkN g f e) = false) : mk g f e = (nd0, 2) := by
  rw [mk, if_neg (by rw [h]; decide), if_neg (by rw [h2]; decide), if_neg (by rw [h3]; decide)]
end Np
end Go.Proofs.Ytbffeffplabaeaa

/-
  Small words that all texts share: what a call answers, what lay below stays. Of no function.
-/
namespace Go.Proofs.Ytbffeffplabaeaa
open Go.RowKit

theorem ret_bool {a b : Bool} (h : a = b) : Ending.returned (.bool a) = .returned (.bool b) := by rw [h]
theorem ret_i64 {a b : Int} (h : a = b) : Ending.returned (.int .i64 a) = .returned (.int .i64 b) := by rw [h]
theorem ret_str {a b : ByteArray} (h : a = b) : Ending.returned (.string a) = .returned (.string b) := by rw [h]
theorem ret_list {a b : List UInt8} (h : a = b) : Ending.returned (.string ⟨a.toArray⟩) = .returned (.string ⟨b.toArray⟩) := by rw [h]
theorem kept_cells {a b : World} (h : Below a.heap.size a b) : (∀ k i, k < a.heap.size → b.cell? ⟨k, i, none⟩ = a.cell? ⟨k, i, none⟩) ∧ (∀ k i, k < a.heap.size → b.frozen? ⟨k, i, none⟩ = a.frozen? ⟨k, i, none⟩) := by
  refine ⟨fun k i hk => ?_, fun k i hk => ?_⟩
  · exact h.cell (p := ⟨k, i, none⟩) hk
  · exact h.frozen (p := ⟨k, i, none⟩) hk
theorem drewN_below {B : Nat} {a w : World} (h : Below B a w) (n : Nat) : Below B a (w.drewN n) := ⟨h.os, h.tape, h.output, h.size, h.block⟩
theorem below_quiet {w w' : World} (h : ∃ n, w' = w.drewN n) : Below w.heap.size w w' := by
  obtain ⟨n, rfl⟩ := h
  exact drewN_below (Below.refl _ _) n
/-- One call behind another. -/
theorem Below.after {a b c : World} (h : Below a.heap.size a b) (k : Below b.heap.size b c) : Below a.heap.size a c := h.trans (k.mono h.size)
theorem mk_toList (a : List UInt8) : (ByteArray.mk a.toArray).toList = a := by rw [ByteArray.toList_eq]
theorem mk_data (a : List UInt8) : (ByteArray.mk a.toArray).data.toList = a := rfl
theorem mk_size (a : List UInt8) : (ByteArray.mk a.toArray).size = a.length := rfl
theorem ba_eq (s : ByteArray) : s = ⟨s.data.toList.toArray⟩ := rfl
end Go.Proofs.Ytbffeffplabaeaa

/-
  What num's small functions answer: isFigure, onlyFigures, rightPower, rightFigures, Right.
-/
namespace Go.Proofs.Ytbffeffplabaeaa
open Go.RowKit Np






def ndv (n : Nd) : Value := .agg #[.int .i64 n.kind, .int .i64 n.many, .string ⟨n.name.toArray⟩, .string ⟨n.s.toArray⟩, .bool n.neg, .int .i64 n.e]

theorem pos_of_notEmpty {s : ByteArray} (h : s.toList.isEmpty = false) : 0 < s.size := by
  rw [ByteArray.toList_eq] at h
  have := size_toList s
  cases hl : s.data.toList with
  | nil => rw [hl] at h; cases h
  | cons a t => rw [hl] at this; simp at this; omega


end Go.Proofs.Ytbffeffplabaeaa

/-
  Contracts of library functions, at this translation: cmp_Compare_int.
-/
namespace Go.Proofs
open Go.Shelf
def Try.lays122_ren : Go.Shelf.Ren := ⟨fun | 122 => 44 | 215 => 57 | n => n, fun | 3 => 3 | 4 => 4 | n => n, fun | n => n⟩
theorem Try.lays122 : Go.Proofs.Lays.n122 Try.prog Try.lays122_ren := {
  mixed := by kernel_rfl
  f122 := Try.func44.trans (congrArg some (by kernel_rfl))
  f215 := Try.func57.trans (congrArg some (by kernel_rfl))
  t3 := Try.underlying3
  a3 := Try.isAgg3
  z3 := Try.sizeOf3
  v3 := Try.zeroValue3
  t4 := Try.underlying4
  a4 := Try.isAgg4
  z4 := Try.sizeOf4
  v4 := Try.zeroValue4 }
open Go.RowKit in
theorem Try.cmp_Compare_int (x y : Int) (w : World) :
    Calls Try.prog 44 #[.int .i64 x, .int .i64 y] w fun e w' => e = .returned (.int .i64 (Lib.compareInt x y)) ∧ w' = w := Any.cmp_Compare_int Try.lays122 x y w
end Go.Proofs

/-
  What num's comparing functions answer: sign, cmpSize, Cmp; and the library's Compare of two strings.
-/
namespace Go.Proofs.Ytbffeffplabaeaa
open Go.RowKit Np



set_option maxHeartbeats 400000 in
theorem isNaNStr_any (s : ByteArray) (w : World) :
    Calls Try.prog 61 #[.string s] w fun e w' => e = .returned (.bool false) ∧ w = w' := by
  go_enter Try.func61, Try.ntmps61
  go_wp2
  go_ret
  exact ⟨ret_bool (by simp), rfl⟩

set_option maxHeartbeats 400000 in
theorem cmpStr_any (s t : ByteArray) (w : World) :
    Calls Try.prog 47 #[.string s, .string t] w fun e w' => e = .returned (.int .i64 (cmpB s.data.toList t.data.toList)) ∧ w = w' := by
  go_enter Try.func47, Try.ntmps47
  go_wp2_with (go_at_call 61; refine (isNaNStr_any _ _).mono ?_; rintro e w' ⟨rfl, rfl⟩)
  · have h : Op.bytesLess s.toList t.toList = true := by assumption
    rw [ByteArray.toList_eq, ByteArray.toList_eq] at h
    go_ret
    exact ⟨ret_i64 (by rw [cmpB, if_pos h]), rfl⟩
  · have h : Op.bytesLess s.toList t.toList = false := by assumption
    have h2 : (!s.toList == t.toList) = true := by assumption
    rw [ByteArray.toList_eq, ByteArray.toList_eq] at h h2
    go_ret
    exact ⟨ret_i64 (by rw [cmpB, if_neg (by rw [h]; decide), if_neg (by simpa using h2)]), rfl⟩
  · have h : Op.bytesLess s.toList t.toList = false := by assumption
    have h2 : (!s.toList == t.toList) = false := by assumption
    rw [ByteArray.toList_eq, ByteArray.toList_eq] at h h2
    go_ret
    exact ⟨ret_i64 (by rw [cmpB, if_neg (by rw [h]; decide), if_pos (by simpa using h2)]), rfl⟩

set_option maxHeartbeats 400000 in
theorem sign_any (k m : Int) (nm s : ByteArray) (g : Bool) (x : Int) (w : World) :
    Calls Try.prog 59 #[.agg #[.int .i64 k, .int .i64 m, .string nm, .string s, .bool g, .int .i64 x]] w fun e w' => e = .returned (.int .i64 (sgn s.data.toList g)) ∧ Below w.heap.size w w' := by
  have hB : Below w.heap.size w w := Below.refl _ _
  go_enter Try.func59, Try.ntmps59
  go_wp2_with fail
  · have h : s.toList.isEmpty = true := by assumption
    rw [ByteArray.toList_eq] at h
    go_ret
    exact ⟨ret_i64 (by rw [sgn, if_pos h]), hB.alloc (Nat.le_refl _) _⟩
  · have h : s.toList.isEmpty = false := by assumption
    have h2 : g = true := by assumption
    rw [ByteArray.toList_eq] at h
    go_ret
    exact ⟨ret_i64 (by rw [sgn, if_neg (by rw [h]; decide), if_pos h2]), hB.alloc (Nat.le_refl _) _⟩
  · have h : s.toList.isEmpty = false := by assumption
    have h2 : g = false := by assumption
    rw [ByteArray.toList_eq] at h
    go_ret
    exact ⟨ret_i64 (by rw [sgn, if_neg (by rw [h]; decide), if_neg (by rw [h2]; decide)]), hB.alloc (Nat.le_refl _) _⟩

set_option maxHeartbeats 400000 in
theorem cmpSize_any (k m : Int) (nm s : ByteArray) (g : Bool) (x : Int) (k2 m2 : Int) (nm2 s2 : ByteArray) (g2 : Bool) (x2 : Int) (w : World)
    (hs : s.size ≤ 1000000) (hs2 : s2.size ≤ 1000000) (hx : -1000000 ≤ x) (hx' : x ≤ 1000000) (hx2 : -1000000 ≤ x2) (hx2' : x2 ≤ 1000000) :
    Calls Try.prog 60 #[.agg #[.int .i64 k, .int .i64 m, .string nm, .string s, .bool g, .int .i64 x], .agg #[.int .i64 k2, .int .i64 m2, .string nm2, .string s2, .bool g2, .int .i64 x2]] w
      fun e w' => e = .returned (.int .i64 (cmpSz s.data.toList x s2.data.toList x2)) ∧ Below w.heap.size w w' := by
  have hB : Below w.heap.size w w := Below.refl _ _
  go_enter Try.func60, Try.ntmps60
  go_wp2_with fail
  refine (Try.cmp_Compare_int _ _ _).mono ?_
  rintro e w' ⟨rfl, rfl⟩
  have HV : Hid (cmpSz s.data.toList x s2.data.toList x2 = if Lib.compareInt (s.size + x) (s2.size + x2) = 0 then cmpB s.data.toList s2.data.toList else Lib.compareInt (s.size + x) (s2.size + x2)) :=
    Lib.hid (by rw [cmpSz, size_toList, size_toList])
  generalize Lib.compareInt (s.size + x) (s2.size + x2) = c at HV ⊢
  by_cases hc : c = 0
  · subst hc
    go_wp2_with (go_at_call 47; refine (cmpStr_any _ _ _).mono ?_; rintro e w' ⟨rfl, rfl⟩)
    go_ret
    exact ⟨ret_i64 (by rw [HV.out, if_pos trivial]), (hB.alloc (Nat.le_refl _) _).alloc (by simp) _⟩
  · go_wp2_with fail
    go_ret
    exact ⟨ret_i64 (by rw [HV.out, if_neg hc]), (hB.alloc (Nat.le_refl _) _).alloc (by simp) _⟩

set_option maxHeartbeats 400000 in
theorem cmp_any (k m : Int) (nm s : ByteArray) (g : Bool) (x : Int) (k2 m2 : Int) (nm2 s2 : ByteArray) (g2 : Bool) (x2 : Int) (w : World)
    (hs : s.size ≤ 1000000) (hs2 : s2.size ≤ 1000000) (hx : -1000000 ≤ x) (hx' : x ≤ 1000000) (hx2 : -1000000 ≤ x2) (hx2' : x2 ≤ 1000000) :
    Calls Try.prog 46 #[.agg #[.int .i64 k, .int .i64 m, .string nm, .string s, .bool g, .int .i64 x], .agg #[.int .i64 k2, .int .i64 m2, .string nm2, .string s2, .bool g2, .int .i64 x2]] w
      fun e w' => e = .returned (.int .i64 (cmpN s.data.toList g x s2.data.toList g2 x2)) ∧ Below w.heap.size w w' := by
  have hB : Below w.heap.size w w := Below.refl _ _
  go_enter Try.func46, Try.ntmps46
  go_wp2_with fail
  refine (sign_any _ _ _ _ _ _ _).mono ?_
  rintro e w1 ⟨rfl, hb1⟩
  obtain ⟨hc1, hf1⟩ := kept_cells hb1
  have hz1 : w.heap.size + 2 ≤ w1.heap.size := by have := hb1.size; simp at this; omega
  have hB1 : Below w.heap.size w w1 := ((hB.alloc (Nat.le_refl _) _).alloc (by simp) _).trans (hb1.mono (by simp; omega))
  clear hb1
  go_wp2_with fail
  refine (sign_any _ _ _ _ _ _ _).mono ?_
  rintro e w2 ⟨rfl, hb2⟩
  have hB2 : Below w.heap.size w w2 := hB1.trans (hb2.mono (by omega))
  have hz2 : w.heap.size + 2 ≤ w2.heap.size := by have := hb2.size; omega
  have hc2 : ∀ b o, b < w.heap.size + 2 → w2.cell? ⟨b, o, none⟩ = w1.cell? ⟨b, o, none⟩ := fun b o h => (kept_cells hb2).1 b o (by omega)
  clear hb2
  go_wp2_with fail
  refine (Try.cmp_Compare_int _ _ _).mono ?_
  rintro e w' ⟨rfl, rfl⟩
  have HV : Hid (cmpN s.data.toList g x s2.data.toList g2 x2 = if Lib.compareInt (sgn s.data.toList g) (sgn s2.data.toList g2) = 0 then sgn s.data.toList g * cmpSz s.data.toList x s2.data.toList x2 else Lib.compareInt (sgn s.data.toList g) (sgn s2.data.toList g2)) :=
    Lib.hid (by rw [cmpN])
  generalize Lib.compareInt (sgn s.data.toList g) (sgn s2.data.toList g2) = c at HV ⊢
  by_cases hc : c = 0
  · have hS := sgn_cases s.data.toList g
    generalize sgn s.data.toList g = d at HV hS ⊢
    subst hc
    go_wp2_with fail
    refine (cmpSize_any _ _ _ _ _ _ _ _ _ _ _ _ _ hs hs2 hx hx' hx2 hx2').mono ?_
    rintro e w3 ⟨rfl, hb3⟩
    have hB3 : Below w.heap.size w w3 := hB2.trans (hb3.mono (by omega))
    have hT := cmpSz_cases s.data.toList x s2.data.toList x2
    generalize cmpSz s.data.toList x s2.data.toList x2 = t at HV hT ⊢
    clear hb3 hc1 hf1 hc2
    rcases hS with rfl | rfl | rfl <;> rcases hT with rfl | rfl | rfl
    all_goals
      go_wp2_with fail
      go_ret
      exact ⟨ret_i64 (by rw [HV.out]; rfl), hB3⟩
  · go_wp2_with fail
    go_ret
    exact ⟨ret_i64 (by rw [HV.out, if_neg hc]), hB2⟩

end Go.Proofs.Ytbffeffplabaeaa

/-
  Plain words on rows: a node, and behind it its parts, each likewise; trees, the row of a tree, what is left of a row behind some of its values. No program stands here.
-/
namespace Go.Proofs.Ytbffeffplabaeaa
namespace Rw

inductive Tr (α : Type) where
  | mk (n : α) (ks : List (Tr α)) : Tr α

section
variable {α : Type}
def Tr.nd : Tr α → α | .mk n _ => n
def Tr.ks : Tr α → List (Tr α) | .mk _ k => k
@[simp] theorem Tr.nd_mk (n : α) (ks : List (Tr α)) : (Tr.mk n ks).nd = n := rfl
@[simp] theorem Tr.ks_mk (n : α) (ks : List (Tr α)) : (Tr.mk n ks).ks = ks := rfl
theorem Tr.eta (t : Tr α) : t = .mk t.nd t.ks := by cases t; rfl

mutual
def flat : Tr α → List α
  | .mk n ks => n :: flats ks
def flats : List (Tr α) → List α
  | [] => []
  | t :: ts => flat t ++ flats ts
end
theorem flat_mk (n : α) (ks : List (Tr α)) : flat (.mk n ks) = n :: flats ks := by simp [flat]
@[simp] theorem flats_nil : flats ([] : List (Tr α)) = [] := by simp [flats]
@[simp] theorem flats_cons (t : Tr α) (ts : List (Tr α)) : flats (t :: ts) = flat t ++ flats ts := by simp [flats]
theorem flat_eq (t : Tr α) : flat t = t.nd :: flats t.ks := by cases t; simp [flat]
theorem flats_append (a b : List (Tr α)) : flats (a ++ b) = flats a ++ flats b := by
  induction a with
  | nil => simp
  | cons t ts ih => simp [ih]
theorem flats_map (ts : List (Tr α)) : flats ts = (ts.map flat).flatten := by
  induction ts with
  | nil => simp
  | cons t ts ih => simp [ih]
theorem flat_pos (t : Tr α) : 0 < (flat t).length := by rw [flat_eq]; simp
theorem flat_ne (t : Tr α) : flat t ≠ [] := by rw [flat_eq]; simp
theorem flats_len (ts : List (Tr α)) : ts.length ≤ (flats ts).length := by
  induction ts with
  | nil => simp
  | cons t ts ih => have := flat_pos t; simp; omega

variable (many : α → Int)
mutual
def okT : Tr α → Prop
  | .mk n ks => many n = ks.length ∧ okTs ks
def okTs : List (Tr α) → Prop
  | [] => True
  | t :: ts => okT t ∧ okTs ts
end
variable {many}
theorem okT_mk {n : α} {ks : List (Tr α)} : okT many (.mk n ks) ↔ many n = ks.length ∧ okTs many ks := by simp [okT]
theorem okT_eq {t : Tr α} : okT many t ↔ many t.nd = t.ks.length ∧ okTs many t.ks := by cases t; simp [okT]
@[simp] theorem okTs_nil : okTs many [] := by simp [okTs]
@[simp] theorem okTs_cons {t : Tr α} {ts : List (Tr α)} : okTs many (t :: ts) ↔ okT many t ∧ okTs many ts := by simp [okTs]
theorem okTs_append {a b : List (Tr α)} : okTs many (a ++ b) ↔ okTs many a ∧ okTs many b := by
  induction a with
  | nil => simp
  | cons t ts ih => simp [ih, and_assoc]
theorem okTs_all {ts : List (Tr α)} : okTs many ts ↔ ∀ t ∈ ts, okT many t := by
  induction ts with
  | nil => simp
  | cons t ts ih => simp [ih]

variable (many)
/-- What is left of a row behind so many values; none: it ends too soon. -/
def skip : List α → Nat → Option (List α)
  | l, 0 => some l
  | [], _ + 1 => none
  | n :: l, k + 1 => if many n < 0 then none else skip l (k + (many n).toNat)
variable {many}
@[simp] theorem skip_zero (l : List α) : skip many l 0 = some l := by cases l <;> simp [skip]
@[simp] theorem skip_nil (k : Nat) : skip many [] (k + 1) = none := by simp [skip]
theorem skip_cons (n : α) (l : List α) (k : Nat) : skip many (n :: l) (k + 1) = if many n < 0 then none else skip many l (k + (many n).toNat) := by simp [skip]

mutual
theorem skip_flat : ∀ (t : Tr α) (r : List α) (k : Nat), okT many t → skip many (flat t ++ r) (k + 1) = skip many r k
  | .mk n ks, r, k, h => by
    obtain ⟨h1, h2⟩ := okT_mk.1 h
    rw [flat_mk, List.cons_append, skip_cons, if_neg (by omega), h1, Int.toNat_natCast, Nat.add_comm k, skip_flats ks r k h2]
theorem skip_flats : ∀ (ts : List (Tr α)) (r : List α) (k : Nat), okTs many ts → skip many (flats ts ++ r) (ts.length + k) = skip many r k
  | [], r, k, _ => by simp
  | t :: ts, r, k, h => by
    obtain ⟨h1, h2⟩ := okTs_cons.1 h
    rw [flats_cons, List.append_assoc, List.length_cons, show ts.length + 1 + k = ts.length + k + 1 by omega, skip_flat t _ _ h1, skip_flats ts r k h2]
end
theorem skip_inv : ∀ (l : List α) (k : Nat) (r : List α), skip many l k = some r → ∃ ts, okTs many ts ∧ ts.length = k ∧ l = flats ts ++ r
  | l, 0, r, h => ⟨[], by simp, rfl, by simpa using h⟩
  | [], k + 1, r, h => by simp at h
  | n :: l, k + 1, r, h => by
    rw [skip_cons] at h
    by_cases hn : many n < 0
    · rw [if_pos hn] at h; cases h
    · rw [if_neg hn] at h
      obtain ⟨ts, h1, h2, h3⟩ := skip_inv l _ r h
      refine ⟨.mk n (ts.take (many n).toNat) :: ts.drop (many n).toNat, ?_, by simp; omega, ?_⟩
      · rw [← List.take_append_drop (many n).toNat ts, okTs_append] at h1
        rw [okTs_cons, okT_mk]
        exact ⟨⟨by rw [List.length_take]; omega, h1.1⟩, h1.2⟩
      · rw [flats_cons, flat_mk, List.cons_append, ← flats_append, List.take_append_drop, h3, List.cons_append]

mutual
theorem flat_inj : ∀ (t u : Tr α) (r r' : List α), okT many t → okT many u → flat t ++ r = flat u ++ r' → t = u ∧ r = r'
  | .mk n ks, .mk m js, r, r', h, h', he => by
    rw [flat_mk, flat_mk, List.cons_append, List.cons_append] at he
    injection he with hn hr
    subst hn
    obtain ⟨h1, h2⟩ := okT_mk.1 h
    obtain ⟨h3, h4⟩ := okT_mk.1 h'
    obtain ⟨e1, e2⟩ := flats_inj ks js r r' h2 h4 (by omega) hr
    exact ⟨by rw [e1], e2⟩
theorem flats_inj : ∀ (ts us : List (Tr α)) (r r' : List α), okTs many ts → okTs many us → ts.length = us.length → flats ts ++ r = flats us ++ r' → ts = us ∧ r = r'
  | [], [], r, r', _, _, _, he => ⟨rfl, by simpa using he⟩
  | [], _ :: _, _, _, _, _, hl, _ => by simp at hl
  | _ :: _, [], _, _, _, _, hl, _ => by simp at hl
  | t :: ts, u :: us, r, r', h, h', hl, he => by
    obtain ⟨h1, h2⟩ := okTs_cons.1 h
    obtain ⟨h3, h4⟩ := okTs_cons.1 h'
    rw [flats_cons, flats_cons, List.append_assoc, List.append_assoc] at he
    obtain ⟨e1, e2⟩ := flat_inj t u _ _ h1 h3 he
    obtain ⟨e3, e4⟩ := flats_inj ts us r r' h2 h4 (by simpa using hl) e2
    exact ⟨by rw [e1, e3], e4⟩
end
theorem flat_inj' {t u : Tr α} (h : okT many t) (h' : okT many u) (he : flat t = flat u) : t = u :=
  (flat_inj t u [] [] h h' (by simpa using he)).1
/-- A row that is one value just is a tree's. -/
theorem skip_one {l : List α} (h : skip many l 1 = some []) : ∃ t, okT many t ∧ l = flat t := by
  obtain ⟨ts, h1, h2, h3⟩ := skip_inv l 1 [] h
  match ts, h2 with
  | [t], _ => exact ⟨t, (okTs_cons.1 h1).1, by simpa using h3⟩
theorem skip_flat_one {t : Tr α} (h : okT many t) : skip many (flat t) 1 = some [] := by
  have := skip_flat t [] 0 h
  simpa using this

mutual
/-- All trees within one, in the order of their nodes. -/
def subs : Tr α → List (Tr α)
  | .mk n ks => .mk n ks :: subss ks
def subss : List (Tr α) → List (Tr α)
  | [] => []
  | t :: ts => subs t ++ subss ts
end
theorem subs_mk (n : α) (ks : List (Tr α)) : subs (.mk n ks) = .mk n ks :: subss ks := by simp [subs]
@[simp] theorem subss_nil : subss ([] : List (Tr α)) = [] := by simp [subss]
@[simp] theorem subss_cons (t : Tr α) (ts : List (Tr α)) : subss (t :: ts) = subs t ++ subss ts := by simp [subss]
mutual
theorem subs_nd : ∀ t : Tr α, (subs t).map Tr.nd = flat t
  | .mk n ks => by rw [subs_mk, flat_mk, List.map_cons, subss_nd ks]; rfl
theorem subss_nd : ∀ ts : List (Tr α), (subss ts).map Tr.nd = flats ts
  | [] => by simp
  | t :: ts => by rw [subss_cons, flats_cons, List.map_append, subs_nd t, subss_nd ts]
end
theorem subs_length (t : Tr α) : (subs t).length = (flat t).length := by rw [← subs_nd, List.length_map]
mutual
theorem subs_drop : ∀ (t : Tr α) (r : List α) (i : Nat) (s : Tr α), (subs t)[i]? = some s → ∃ q, (flat t ++ r).drop i = flat s ++ q
  | .mk n ks, r, 0, s, h => by
    rw [subs_mk] at h; simp at h; subst h; exact ⟨r, by simp⟩
  | .mk n ks, r, i + 1, s, h => by
    rw [subs_mk] at h
    rw [flat_mk, List.cons_append, List.drop_succ_cons]
    exact subss_drop ks r i s (by simpa using h)
theorem subss_drop : ∀ (ts : List (Tr α)) (r : List α) (i : Nat) (s : Tr α), (subss ts)[i]? = some s → ∃ q, (flats ts ++ r).drop i = flat s ++ q
  | [], _, _, _, h => by simp at h
  | t :: ts, r, i, s, h => by
    rw [subss_cons] at h
    rw [flats_cons, List.append_assoc]
    by_cases hi : i < (subs t).length
    · rw [List.getElem?_append_left hi] at h
      exact subs_drop t _ i s h
    · rw [List.getElem?_append_right (by omega)] at h
      rw [subs_length] at hi h
      rw [List.drop_append, List.drop_eq_nil_of_le (by omega), List.nil_append]
      exact subss_drop ts r _ s h
end
mutual
theorem subs_ok : ∀ (t : Tr α), okT many t → ∀ s ∈ subs t, okT many s
  | .mk n ks, h, s, hs => by
    rw [subs_mk, List.mem_cons] at hs
    rcases hs with rfl | hs
    · exact h
    · exact subss_ok ks (okT_mk.1 h).2 s hs
theorem subss_ok : ∀ (ts : List (Tr α)), okTs many ts → ∀ s ∈ subss ts, okT many s
  | [], _, _, hs => by simp at hs
  | t :: ts, h, s, hs => by
    rw [subss_cons, List.mem_append] at hs
    obtain ⟨h1, h2⟩ := okTs_cons.1 h
    rcases hs with hs | hs
    · exact subs_ok t h1 s hs
    · exact subss_ok ts h2 s hs
end
end
end Rw
end Go.Proofs.Ytbffeffplabaeaa

/-
  Plain words on UTF-8: how many bytes the rune has that some bytes begin with, by the bytes themselves; it is what the decoder says. No program stands here.
-/
namespace Go.Proofs.Ytbffeffplabaeaa
namespace Up
open Go.RowKit

def bt (l : List UInt8) (k : Nat) : Nat := (l.getD k 0).toNat
def ct (l : List UInt8) (k : Nat) : Bool := decide (k < l.length) && decide (128 ≤ bt l k) && decide (bt l k < 192)
/-- How many bytes the rune has; 0: there is none that is valid. -/
def runeN (l : List UInt8) : Nat :=
  if bt l 0 < 128 then 1
  else if 194 ≤ bt l 0 ∧ bt l 0 < 224 ∧ ct l 1 = true then 2
  else if 224 ≤ bt l 0 ∧ bt l 0 < 240 ∧ ct l 1 = true ∧ ct l 2 = true then (if bt l 0 = 224 ∧ bt l 1 < 160 ∨ bt l 0 = 237 ∧ 160 ≤ bt l 1 then 0 else 3)
  else if 240 ≤ bt l 0 ∧ bt l 0 < 245 ∧ ct l 1 = true ∧ ct l 2 = true ∧ ct l 3 = true then (if bt l 0 = 240 ∧ bt l 1 < 144 ∨ bt l 0 = 244 ∧ 144 ≤ bt l 1 then 0 else 4)
  else 0

theorem get_bt (l : List UInt8) (k : Nat) : ((ByteArray.mk l.toArray).get! (0 + k)).toNat = bt l k := by
  rw [Nat.zero_add]
  unfold bt
  congr 1
  by_cases h : k < l.length
  · simp [ByteArray.get!, h]
  · simp [ByteArray.get!, h]
    rfl
theorem bt_lt (l : List UInt8) (k : Nat) : bt l k < 256 := UInt8.toNat_lt _
theorem ct_iff (l : List UInt8) (k : Nat) : ct l k = true ↔ k < l.length ∧ bt l k / 64 = 2 := by
  simp [ct]; omega
theorem ct_eq (l : List UInt8) (k : Nat) : (decide (k < l.length) && bt l k / 64 == 2) = ct l k := by
  rw [Bool.eq_iff_iff, ct_iff]; simp

theorem decode_eq (l : List UInt8) : Lib.decodeL l =
    (if bt l 0 < 128 then (bt l 0, 1)
    else if (bt l 0 / 32 == 6 && ct l 1) = true then (if (bt l 0 % 32) * 64 + bt l 1 % 64 ≥ 128 then ((bt l 0 % 32) * 64 + bt l 1 % 64, 2) else (65533, 1))
    else if (bt l 0 / 16 == 14 && ct l 1 && ct l 2) = true then (if (decide ((bt l 0 % 16) * 4096 + (bt l 1 % 64) * 64 + bt l 2 % 64 ≥ 2048) && Utf8.valid (((bt l 0 % 16) * 4096 + (bt l 1 % 64) * 64 + bt l 2 % 64 : Nat) : Int)) = true then ((bt l 0 % 16) * 4096 + (bt l 1 % 64) * 64 + bt l 2 % 64, 3) else (65533, 1))
    else if (bt l 0 / 8 == 30 && ct l 1 && ct l 2 && ct l 3) = true then (if (decide ((bt l 0 % 8) * 262144 + (bt l 1 % 64) * 4096 + (bt l 2 % 64) * 64 + bt l 3 % 64 ≥ 65536) && Utf8.valid (((bt l 0 % 8) * 262144 + (bt l 1 % 64) * 4096 + (bt l 2 % 64) * 64 + bt l 3 % 64 : Nat) : Int)) = true then ((bt l 0 % 8) * 262144 + (bt l 1 % 64) * 4096 + (bt l 2 % 64) * 64 + bt l 3 % 64, 4) else (65533, 1))
    else (65533, 1)) := by
  unfold Lib.decodeL Utf8.decode
  simp only [get_bt]
  have hz : (ByteArray.mk l.toArray).size = l.length := by simp [ByteArray.size]
  simp only [hz, Nat.zero_add, ct_eq]
  rfl

theorem valid_iff (n : Nat) : Utf8.valid (n : Int) = true ↔ n < 55296 ∨ 57344 ≤ n ∧ n ≤ 1114111 := by
  simp [Utf8.valid]; omega

theorem rune_num (b0 b1 b2 b3 : Nat) (c1 c2 c3 : Bool) (h0 : b0 < 256) (h1 : c1 = true → b1 / 64 = 2) (D : Nat × Nat) (R : Nat)
    (hD : D = (if b0 < 128 then (b0, 1)
    else if (b0 / 32 == 6 && c1) = true then (if (b0 % 32) * 64 + b1 % 64 ≥ 128 then ((b0 % 32) * 64 + b1 % 64, 2) else (65533, 1))
    else if (b0 / 16 == 14 && c1 && c2) = true then (if (decide ((b0 % 16) * 4096 + (b1 % 64) * 64 + b2 % 64 ≥ 2048) && Utf8.valid (((b0 % 16) * 4096 + (b1 % 64) * 64 + b2 % 64 : Nat) : Int)) = true then ((b0 % 16) * 4096 + (b1 % 64) * 64 + b2 % 64, 3) else (65533, 1))
    else if (b0 / 8 == 30 && c1 && c2 && c3) = true then (if (decide ((b0 % 8) * 262144 + (b1 % 64) * 4096 + (b2 % 64) * 64 + b3 % 64 ≥ 65536) && Utf8.valid (((b0 % 8) * 262144 + (b1 % 64) * 4096 + (b2 % 64) * 64 + b3 % 64 : Nat) : Int)) = true then ((b0 % 8) * 262144 + (b1 % 64) * 4096 + (b2 % 64) * 64 + b3 % 64, 4) else (65533, 1))
    else (65533, 1)))
    (hR : R = if b0 < 128 then 1
      else if 194 ≤ b0 ∧ b0 < 224 ∧ c1 = true then 2
      else if 224 ≤ b0 ∧ b0 < 240 ∧ c1 = true ∧ c2 = true then (if b0 = 224 ∧ b1 < 160 ∨ b0 = 237 ∧ 160 ≤ b1 then 0 else 3)
      else if 240 ≤ b0 ∧ b0 < 245 ∧ c1 = true ∧ c2 = true ∧ c3 = true then (if b0 = 240 ∧ b1 < 144 ∨ b0 = 244 ∧ 144 ≤ b1 then 0 else 4)
      else 0) :
    R = 0 ∧ D = (65533, 1) ∨ R ≠ 0 ∧ D.2 = R ∧ ¬ (D.1 = 65533 ∧ D.2 = 1) := by
  by_cases a : b0 < 128
  · rw [if_pos a] at hD hR
    subst hD hR
    exact .inr ⟨by decide, rfl, by simp; omega⟩
  rw [if_neg a] at hD hR
  cases c1
  · simp at hD hR
    exact .inl ⟨hR, hD⟩
  have h1' := h1 rfl
  simp only [and_true, Bool.and_true, true_and] at hD hR
  by_cases b : 194 ≤ b0 ∧ b0 < 224
  · rw [if_pos b] at hR
    rw [if_pos (by simp; omega), if_pos (by omega)] at hD
    subst hD hR
    exact .inr ⟨by decide, rfl, by simp⟩
  rw [if_neg b] at hR
  by_cases b2 : b0 / 32 = 6
  · rw [if_pos (by simp [b2]), if_neg (by omega)] at hD
    rw [if_neg (by omega), if_neg (by omega)] at hR
    exact .inl ⟨hR, hD⟩
  rw [if_neg (by simp [b2])] at hD
  cases c2
  · simp at hD hR
    exact .inl ⟨hR, hD⟩
  simp only [and_true, Bool.and_true, true_and] at hD hR
  by_cases b3 : 224 ≤ b0 ∧ b0 < 240
  · rw [if_pos b3] at hR
    rw [if_pos (by simp; omega)] at hD
    by_cases q : b0 = 224 ∧ b1 < 160 ∨ b0 = 237 ∧ 160 ≤ b1
    · rw [if_pos q] at hR
      rw [if_neg (by rw [Bool.and_eq_true, decide_eq_true_eq, valid_iff]; omega)] at hD
      exact .inl ⟨hR, hD⟩
    · rw [if_neg q] at hR
      rw [if_pos (by rw [Bool.and_eq_true, decide_eq_true_eq, valid_iff]; omega)] at hD
      subst hD hR
      exact .inr ⟨by decide, rfl, by simp⟩
  rw [if_neg b3] at hR
  rw [if_neg (by simp; omega)] at hD
  cases c3
  · simp at hD hR
    exact .inl ⟨hR, hD⟩
  simp only [and_true, Bool.and_true] at hD hR
  by_cases b4 : 240 ≤ b0 ∧ b0 < 245
  · rw [if_pos b4] at hR
    rw [if_pos (by simp; omega)] at hD
    by_cases q : b0 = 240 ∧ b1 < 144 ∨ b0 = 244 ∧ 144 ≤ b1
    · rw [if_pos q] at hR
      rw [if_neg (by rw [Bool.and_eq_true, decide_eq_true_eq, valid_iff]; omega)] at hD
      exact .inl ⟨hR, hD⟩
    · rw [if_neg q] at hR
      rw [if_pos (by rw [Bool.and_eq_true, decide_eq_true_eq, valid_iff]; omega)] at hD
      subst hD hR
      exact .inr ⟨by decide, rfl, by simp⟩
  rw [if_neg b4] at hR
  by_cases b5 : b0 / 8 = 30
  · rw [if_pos (by simp [b5]), if_neg (by rw [Bool.and_eq_true, decide_eq_true_eq, valid_iff]; omega)] at hD
    exact .inl ⟨hR, hD⟩
  · rw [if_neg (by simp [b5])] at hD
    exact .inl ⟨hR, hD⟩
theorem decode_rune (l : List UInt8) : runeN l = 0 ∧ Lib.decodeL l = (65533, 1) ∨ runeN l ≠ 0 ∧ (Lib.decodeL l).2 = runeN l ∧ ¬ ((Lib.decodeL l).1 = 65533 ∧ (Lib.decodeL l).2 = 1) :=
  rune_num (bt l 0) (bt l 1) (bt l 2) (bt l 3) (ct l 1) (ct l 2) (ct l 3) (bt_lt l 0) (fun h => ((ct_iff l 1).1 h).2) _ _ (decode_eq l) rfl
theorem runeN_le (l : List UInt8) (h : l ≠ []) : runeN l ≤ l.length := by
  have hl : 0 < l.length := List.length_pos_iff.2 h
  unfold runeN
  split
  · omega
  · split
    · rename_i h; have := ((ct_iff l 1).1 h.2.2).1; omega
    · split
      · rename_i h; have := ((ct_iff l 2).1 h.2.2.2).1; split <;> omega
      · split
        · rename_i h; have := ((ct_iff l 3).1 h.2.2.2.2).1; split <;> omega
        · omega
theorem valid_step (l : List UInt8) (h : l ≠ []) : Lib.validD l = if runeN l = 0 then false else Lib.validD (l.drop (runeN l)) := by
  rw [Lib.validD_step l h]
  rcases decode_rune l with ⟨h0, h1⟩ | ⟨h0, h1, h2⟩
  · rw [if_pos h0, h1]; simp
  · rw [if_neg h0, if_neg h2, h1]
end Up
end Go.Proofs.Ytbffeffplabaeaa

/-
  Plain words: which nodes are no right numbers. No program stands here.
-/
namespace Go.Proofs.Ytbffeffplabaeaa
namespace Np
open Go.RowKit

theorem right_iff (n : Nd) : right n = true ↔ n.kind = 3 ∧ n.many = 0 ∧ n.name = [] ∧ (n.s = [] ∧ n.neg = false ∧ n.e = 0 ∨ n.s ≠ [] ∧ rfigs n.s = true ∧ -1000 ≤ n.e ∧ n.e ≤ 1000 - n.s.length) := by
  unfold right rpow
  by_cases hs : n.s = []
  · simp [hs, and_assoc]
  · simp [hs, and_assoc]
theorem right_not {n : Nd} (h : ¬ (n.kind = 3 ∧ n.many = 0 ∧ n.name = [] ∧ (n.s = [] ∧ n.neg = false ∧ n.e = 0 ∨ n.s ≠ [] ∧ rfigs n.s = true ∧ -1000 ≤ n.e ∧ n.e ≤ 1000 - n.s.length))) : right n = false := by
  rw [← Bool.not_eq_true, right_iff]; exact h
theorem right_figs {n : Nd} (h : figs n.s = false) : right n = false := right_not (by
  rintro ⟨_, _, _, ⟨h1, _⟩ | ⟨_, h1, _⟩⟩
  · rw [h1] at h; cases h
  · simp [rfigs, h] at h1)
theorem right_long {n : Nd} (h : 100 < n.s.length) : right n = false := right_not (by
  rintro ⟨_, _, _, ⟨h1, _⟩ | ⟨_, h1, _⟩⟩
  · rw [h1] at h; simp at h
  · simp [rfigs] at h1; omega)
theorem right_low {n : Nd} (h : n.e < -1000) : right n = false := right_not (by
  rintro ⟨_, _, _, ⟨_, _, h1⟩ | ⟨_, _, h1, _⟩⟩ <;> omega)
theorem right_high {n : Nd} (h : 1000 < n.s.length + n.e) : right n = false := right_not (by
  rintro ⟨_, _, _, ⟨h1, _, h2⟩ | ⟨_, _, _, h1⟩⟩
  · rw [h1, h2] at h; simp at h
  · omega)
theorem right_all {n : Nd} (h1 : n.kind = 3) (h2 : n.many = 0) (h3 : n.name.isEmpty = true) (h4 : figs n.s = true) (h5 : n.s.length ≤ 100) (h6 : -1000 ≤ n.e) (h7 : n.s.length + n.e ≤ 1000) (h8 : n.s.isEmpty = false) :
    right n = (n.s.headD 0 != 48 && n.s.getLastD 0 != 48) := by
  rw [right_some h1 h2 h3 h8, rfigs, rpow]
  simp [h4, h5, h6, show n.e ≤ 1000 - n.s.length by omega]

theorem right_empty' {k m : Int} {nm s : List UInt8} {g : Bool} {x : Int} (h : s = []) : right ⟨k, m, nm, s, g, x⟩ = (decide (k = 3) && decide (m = 0) && decide (nm = []) && (!g && decide (x = 0))) := by
  subst h; cases nm <;> simp [right]
theorem right_some' {k m : Int} {nm s : List UInt8} {g : Bool} {x : Int} (h : s ≠ []) (hf : figs s = true) : right ⟨k, m, nm, s, g, x⟩ = (decide (k = 3) && decide (m = 0) && decide (nm = []) && (decide (s.length ≤ 100) && (s.headD 0 != 48) && (s.getLastD 0 != 48) && decide (-1000 ≤ x) && decide (x ≤ 1000 - s.length))) := by
  cases nm <;> simp [right, h, rfigs, rpow, hf, Bool.and_assoc]

theorem right_bounds {n : Nd} (h : right n = true) : n.s.length ≤ 100 ∧ -1000 ≤ n.e ∧ n.e ≤ 1000 := by
  obtain ⟨_, _, _, ⟨h1, _, h2⟩ | ⟨_, h1, h2, h3⟩⟩ := (right_iff n).1 h
  · rw [h1, h2]; simp
  · simp [rfigs] at h1; omega

end Np
end Go.Proofs.Ytbffeffplabaeaa
