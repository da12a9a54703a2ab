/-
  Plain words on numbers: which bytes are figures, which nodes are right numbers, the number of some figures, a number's text, which of two is greater. No program stands here.
-/
import Derived.PlainAid
import Derived.Lib.Small
import Derived.Lib.TrimByte
namespace Go.Proofs.YtbhgmfddjnkglaaGreatDoor
namespace Np
open Go.RowKit

def fig (c : UInt8) : Bool := decide (48 ≤ c.toNat) && decide (c.toNat ≤ 57)
def figs (l : List UInt8) : Bool := l.all fig

theorem fig_iff (c : UInt8) : fig c = true ↔ 48 ≤ c.toNat ∧ c.toNat ≤ 57 := by simp [fig]
theorem size_toList (s : ByteArray) : s.data.toList.length = s.size := by simp
theorem get_toList (s : ByteArray) (k : Nat) (h : k < s.size) : s.data.toList[k]'(by simpa using h) = s[k] := rfl
theorem take_snoc (l : List UInt8) (k : Nat) (h : k < l.length) : l.take (k + 1) = l.take k ++ [l[k]] := List.take_succ_eq_append_getElem h
theorem figs_snoc (l : List UInt8) (c : UInt8) : figs (l ++ [c]) = (figs l && fig c) := by simp [figs]
theorem figs_of_not {l : List UInt8} {k : Nat} (h : k < l.length) (hf : fig l[k] = false) : figs l = false := by
  rw [figs, List.all_eq_false]
  exact ⟨l[k], List.getElem_mem h, by simp [hf]⟩

/-- Are all of them figures, at most 100, the first one and the last one not nought? -/
def rfigs (l : List UInt8) : Bool := decide (l.length ≤ 100) && figs l && l.headD 0 != 48 && l.getLastD 0 != 48
def rpow (n e : Int) : Bool := decide (-1000 ≤ e) && decide (e ≤ 1000 - n)
theorem headD_eq (s : ByteArray) (h : 0 < s.size) : s.data.toList.headD 0 = s[0] := by
  rw [← get_toList s 0 h]
  rw [List.headD_eq_head?_getD, List.head?_eq_getElem?, List.getElem?_eq_getElem (by simp; omega)]
  simp
theorem getLastD_eq (s : ByteArray) (h : 0 < s.size) : s.data.toList.getLastD 0 = s[s.size - 1] := by
  rw [← get_toList s (s.size - 1) (by omega)]
  rw [List.getLastD_eq_getLast?, List.getLast?_eq_getElem?, List.getElem?_eq_getElem (by simp; omega)]
  simp
theorem rfigs_eq (s : ByteArray) (h : 0 < s.size) : rfigs s.data.toList = (decide (s.size ≤ 100) && figs s.data.toList && s[0] != 48 && s[s.size - 1] != 48) := by
  rw [rfigs, headD_eq s h, getLastD_eq s h, size_toList s]
theorem toNat_beq (c : UInt8) : (c != 48) = ((c.toNat : Int) != 48) := by
  rw [Bool.eq_iff_iff]; simp only [bne_iff_ne, ne_eq, ← UInt8.toNat_inj]; simp; omega
/-- A number's node. -/
structure Nd where
  kind : Int
  many : Int
  name : List UInt8
  s : List UInt8
  neg : Bool
  e : Int
deriving DecidableEq
/-- Is it a right number? -/
def right (n : Nd) : Bool := decide (n.kind = 3) && decide (n.many = 0) && n.name.isEmpty && (if n.s.isEmpty then !n.neg && decide (n.e = 0) else rfigs n.s && rpow n.s.length n.e)
theorem right_name {n : Nd} (h : n.name.isEmpty = false) : right n = false := by simp [right, h]
theorem right_nought {n : Nd} (h1 : n.kind = 3) (h2 : n.many = 0) (h3 : n.name.isEmpty = true) (h4 : n.s.isEmpty = true) : right n = (!n.neg && decide (n.e = 0)) := by simp [right, h1, h2, h3, h4]
theorem right_some {n : Nd} (h1 : n.kind = 3) (h2 : n.many = 0) (h3 : n.name.isEmpty = true) (h4 : n.s.isEmpty = false) : right n = (rfigs n.s && rpow n.s.length n.e) := by simp [right, h1, h2, h3, h4]
/-- On which side of nought a number is. -/
def sgn (s : List UInt8) (g : Bool) : Int := if s.isEmpty then 0 else if g then -1 else 1
/-- Which of two texts is greater, byte by byte. -/
def cmpB (a b : List UInt8) : Int := if Op.bytesLess a b = true then -1 else if a = b then 0 else 1
/-- How far two numbers of one side are from nought. -/
def cmpSz (a : List UInt8) (x : Int) (b : List UInt8) (y : Int) : Int := if Lib.compareInt (a.length + x) (b.length + y) = 0 then cmpB a b else Lib.compareInt (a.length + x) (b.length + y)
/-- Which of two numbers is greater, as the program reckons it. -/
def cmpN (a : List UInt8) (g : Bool) (x : Int) (b : List UInt8) (g2 : Bool) (y : Int) : Int := if Lib.compareInt (sgn a g) (sgn b g2) = 0 then sgn a g * cmpSz a x b y else Lib.compareInt (sgn a g) (sgn b g2)
theorem compareInt_cases (x y : Int) : Lib.compareInt x y = -1 ∨ Lib.compareInt x y = 0 ∨ Lib.compareInt x y = 1 := by
  unfold Lib.compareInt; split
  · exact .inl rfl
  · split
    · exact .inr (.inr rfl)
    · exact .inr (.inl rfl)
theorem cmpB_cases (a b : List UInt8) : cmpB a b = -1 ∨ cmpB a b = 0 ∨ cmpB a b = 1 := by
  unfold cmpB; split
  · exact .inl rfl
  · split
    · exact .inr (.inl rfl)
    · exact .inr (.inr rfl)
theorem cmpSz_cases (a : List UInt8) (x : Int) (b : List UInt8) (y : Int) : cmpSz a x b y = -1 ∨ cmpSz a x b y = 0 ∨ cmpSz a x b y = 1 := by
  unfold cmpSz; split
  · exact cmpB_cases a b
  · exact compareInt_cases _ _
theorem sgn_cases (a : List UInt8) (g : Bool) : sgn a g = -1 ∨ sgn a g = 0 ∨ sgn a g = 1 := by
  unfold sgn; split
  · exact .inr (.inl rfl)
  · split
    · exact .inl rfl
    · exact .inr (.inr rfl)
/-- The number of some figures and a power, as the program makes it, and how it ends. -/
def nd0 : Nd := ⟨0, 0, [], [], false, 0⟩
def nought : Nd := ⟨3, 0, [], [], false, 0⟩
def mkN (g : Bool) (f : List UInt8) (e : Int) : Nd := ⟨3, 0, [], Lib.trimRightB (Lib.trimLeftB f 48) 48, g, wrap64 (wrap64 (e + (Lib.trimLeftB f 48).length) - (Lib.trimRightB (Lib.trimLeftB f 48) 48).length)⟩
def mk (g : Bool) (f : List UInt8) (e : Int) : Nd × Int :=
  if figs f = false then (nd0, 4) else if (Lib.trimLeftB f 48).isEmpty = true then (nought, 0) else if right (mkN g f e) = true then (mkN g f e, 0) else (nd0, 2)
theorem mk_arg (g : Bool) (f : List UInt8) (e : Int) (h : figs f = false) : mk g f e = (nd0, 4) := by rw [mk, if_pos h]
theorem mk_nought (g : Bool) (f : List UInt8) (e : Int) (h : figs f = true) (h2 : (Lib.trimLeftB f 48).isEmpty = true) : mk g f e = (nought, 0) := by rw [mk, if_neg (by rw [h]; decide), if_pos h2]
theorem mk_ok (g : Bool) (f : List UInt8) (e : Int) (h : figs f = true) (h2 : (Lib.trimLeftB f 48).isEmpty = false) (h3 : right (mkN g f e) = true) : mk g f e = (mkN g f e, 0) := by
  rw [mk, if_neg (by rw [h]; decide), if_neg (by rw [h2]; decide), if_pos h3]
theorem mk_large (g : Bool) (f : List UInt8) (e : Int) (h : figs f = true) (h2 : (Lib.trimLeftB f 48).isEmpty = false) (h3 : right (mkN g f e) = false) : mk g f e = (nd0, 2) := by
  rw [mk, if_neg (by rw [h]; decide), if_neg (by rw [h2]; decide), if_neg (by rw [h3]; decide)]
end Np
end Go.Proofs.YtbhgmfddjnkglaaGreatDoor
