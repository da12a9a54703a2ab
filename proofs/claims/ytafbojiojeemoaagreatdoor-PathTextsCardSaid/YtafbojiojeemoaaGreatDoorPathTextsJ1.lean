/-
  Joined: PaB0, NumOrdP, ObjP, QRef4.
-/
import Derived.Test.YtafbojiojeemoaaGreatDoorMem
import Derived.Test.YtafbojiojeemoaaGreatDoorShelf
import Derived.Lib.CutLaws
import Derived.Lib.IndexBytes
import Derived.Lib.Bytealg
import Derived.Shelf.RegionOpenPlain
import Derived.Test.YtafbojiojeemoaaGreatDoorNumPlain5
import Derived.Sort.Walk0
import Derived.Test.YtafbojiojeemoaaGreatDoorValP2
import Derived.Test.YtafbojiojeemoaaGreatDoorQRef3

/-
  strings.Cut at a closing bracket.
-/
namespace Go.Proofs.YtafbojiojeemoaaGreatDoor
open Go.RowKit Np

set_option maxRecDepth 100000 in
set_option maxHeartbeats 2000000 in
theorem index93_any (s : ByteArray) (w : World) : Calls Tryz.prog 175 #[.string s, .string ⟨#[93]⟩] w fun e w' => e = .returned (.int .i64 (Lib.index s.data.toList [93])) ∧ w' = w := by
  have HIB : Hid (∀ W, Calls Tryz.prog 199 #[.string s, .int .u8 93] W fun e w' => e = .returned (.int .i64 (Lib.index s.data.toList [93])) ∧ w' = W) := Lib.hid (fun W => by
    have h := Tryz.stringslite_IndexByte s 93 W
    rwa [← Lib.index_one] at h)
  have HZ : Hid (s.data.toList = [93] → (0 : Int) = Lib.index s.data.toList [93]) := Lib.hid (fun h => by rw [h]; rfl)
  generalize Lib.index s.data.toList [93] = i at *
  go_enter Tryz.func175, Tryz.ntmps175
  go_wp2_with fail
  · have h : ([93] == s.toList) = true := by assumption
    rw [ByteArray.toList_eq, beq_iff_eq] at h
    go_ret
    exact ⟨ret_i64 (HZ.out h.symm), rfl⟩
  · refine (HIB.out _).mono ?_
    rintro e w1 ⟨rfl, rfl⟩
    go_wp2_with fail
    go_ret
    exact ⟨rfl, rfl⟩
set_option maxRecDepth 100000 in
set_option maxHeartbeats 2000000 in
theorem cut93l_any (s : ByteArray) (w : World) (hs : s.size ≤ maxLen) : Calls Tryz.prog 151 #[.string s, .string ⟨#[93]⟩] w fun e w' => e = .returned (.tuple #[.string ⟨(Lib.cut s.data.toList [93]).1.toArray⟩, .string ⟨(Lib.cut s.data.toList [93]).2.1.toArray⟩, .bool (Lib.cut s.data.toList [93]).2.2]) ∧ ∃ n, w' = w.drewN n := by
  have HIX := Lib.hid (index93_any s)
  unfold maxLen at hs
  rcases Lib.indexB_cases s ⟨#[93]⟩ with hix | ⟨i, hix, hroom⟩
  · have hix' : Lib.index s.data.toList [93] = -1 := hix
    obtain ⟨e1, e2, e3⟩ := Lib.cutB_miss s ⟨#[93]⟩ hix
    simp only at e1 e2 e3
    rw [e1, e2, e3]
    rw [hix'] at HIX
    clear hix hix' e1 e2 e3
    go_enter Tryz.func151, Tryz.ntmps151
    go_wp2_with fail
    refine (HIX.out _).mono ?_
    rintro e w1 ⟨rfl, rfl⟩
    go_wp2_with fail
    go_ret3
    exact ⟨rfl, 0, rfl⟩
  · have hix' : Lib.index s.data.toList [93] = (i : Int) := hix
    obtain ⟨e1, e2, e3⟩ := Lib.cutB_hit s ⟨#[93]⟩ i hix
    simp only at e1 e2 e3
    rw [e1, e2, e3]
    rw [hix'] at HIX
    have hr : i + 1 ≤ s.size := hroom
    clear hix hix' e1 e2 e3 hroom
    have c1 : (0 : Int) ≤ ↑i := by omega
    have c2 : (↑i : Int) ≤ ↑s.size := by omega
    have c3 : (0 : Int) ≤ ↑i + 1 := by omega
    have c4 : (↑i + 1 : Int) ≤ ↑s.size := by omega
    have c5 : IntKind.i64.wrap ((i : Int) + 1) = (i : Int) + 1 := by rw [IntKind.wrap_i64]; omega
    have mixed : Tryz.prog.follows Departure.mixedOrders = true := by kernel_rfl
    go_enter Tryz.func151, Tryz.ntmps151
    go_wp2_with fail
    refine (HIX.out _).mono ?_
    rintro e w1 ⟨rfl, rfl⟩
    go_wp2_with fail
    go_region_o
    go_wp2
    go_ret3
    exact ⟨rfl, 1, rfl⟩
set_option maxRecDepth 100000 in
set_option maxHeartbeats 2000000 in
theorem cut93_any (s : ByteArray) (w : World) (hs : s.size ≤ maxLen) : Calls Tryz.prog 116 #[.string s, .string ⟨#[93]⟩] w fun e w' => e = .returned (.tuple #[.string ⟨(Lib.cut s.data.toList [93]).1.toArray⟩, .string ⟨(Lib.cut s.data.toList [93]).2.1.toArray⟩, .bool (Lib.cut s.data.toList [93]).2.2]) ∧ ∃ n, w' = w.drewN n := by
  have HIX := Lib.hid (fun W => cut93l_any s W hs)
  generalize Lib.cut s.data.toList [93] = C at *
  obtain ⟨a, b, c⟩ := C
  go_enter Tryz.func116, Tryz.ntmps116
  go_wp2_with fail
  refine (HIX.out _).mono ?_
  rintro e w1 ⟨rfl, n, rfl⟩
  go_wp2_with fail
  go_ret3
  exact ⟨rfl, n, rfl⟩
end Go.Proofs.YtafbojiojeemoaaGreatDoor

/-
  Plain words: which of two numbers is greater is an order. No program stands here.
-/
namespace Go.Proofs.YtafbojiojeemoaaGreatDoor
namespace Np
open Go.RowKit

theorem cmpB_lt (a b : List UInt8) : cmpB a b = -1 ↔ a < b := by
  unfold cmpB
  simp only [bytesLess_eq, decide_eq_true_eq]
  split
  · simp [*]
  · split <;> simp [*]
theorem cmpB_eq (a b : List UInt8) : cmpB a b = 0 ↔ a = b := by
  unfold cmpB
  simp only [bytesLess_eq, decide_eq_true_eq]
  split
  · rename_i h
    constructor
    · intro h; cases h
    · intro e; subst e; exact absurd h (List.lt_irrefl _)
  · split <;> simp [*]
theorem cmpB_gt (a b : List UInt8) : cmpB a b = 1 ↔ b < a := by
  have h0 := cmpB_cases a b
  have h1 := cmpB_lt a b
  have h2 := cmpB_eq a b
  constructor
  · intro h
    rcases Std.lt_trichotomy a b with h3 | h3 | h3
    · rw [h1.2 h3] at h; cases h
    · rw [h2.2 h3] at h; cases h
    · exact h3
  · intro h
    rcases h0 with h3 | h3 | h3
    · exact absurd (h1.1 h3) (List.lt_asymm h)
    · exact absurd h (by rw [h2.1 h3]; exact List.lt_irrefl _)
    · exact h3
theorem cmpI_lt (x y : Int) : Lib.compareInt x y = -1 ↔ x < y := by unfold Lib.compareInt; (repeat' split) <;> omega
theorem cmpI_eq (x y : Int) : Lib.compareInt x y = 0 ↔ x = y := by unfold Lib.compareInt; (repeat' split) <;> omega
theorem cmpI_gt (x y : Int) : Lib.compareInt x y = 1 ↔ y < x := by unfold Lib.compareInt; (repeat' split) <;> omega

/-- What lies at nought, below and above. -/
theorem sgn_zero {a : List UInt8} {g : Bool} : sgn a g = 0 ↔ a = [] := by
  unfold sgn; cases a <;> cases g <;> simp
theorem cmpSz_le (a : List UInt8) (x : Int) (b : List UInt8) (y : Int) : cmpSz a x b y ≤ 0 ↔ a.length + x < b.length + y ∨ a.length + x = b.length + y ∧ ¬ b < a := by
  have h1 := cmpI_lt (a.length + x) (b.length + y)
  have h2 := cmpI_eq (a.length + x) (b.length + y)
  have h3 := compareInt_cases (a.length + x) (b.length + y)
  have h4 := cmpB_cases a b
  have h5 := cmpB_gt a b
  unfold cmpSz
  split
  · rename_i h
    have := h2.1 h
    constructor
    · intro h6; exact .inr ⟨this, fun h7 => by have := h5.2 h7; omega⟩
    · rintro (h6 | ⟨_, h6⟩)
      · omega
      · rcases h4 with h7 | h7 | h7
        · omega
        · omega
        · exact absurd (h5.1 h7) h6
  · rename_i h
    constructor
    · intro h6; exact .inl (h1.1 (by omega))
    · rintro (h6 | ⟨h6, _⟩)
      · have := h1.2 h6; omega
      · exact absurd (h2.2 h6) h
theorem cmpSz_neg (a : List UInt8) (x : Int) (b : List UInt8) (y : Int) : cmpSz b y a x = -cmpSz a x b y := by
  have h1 := cmpI_lt (a.length + x) (b.length + y)
  have h2 := cmpI_eq (a.length + x) (b.length + y)
  have h2' := cmpI_gt (a.length + x) (b.length + y)
  have h1' := cmpI_lt (b.length + y) (a.length + x)
  have h3' := cmpI_eq (b.length + y) (a.length + x)
  have h4' := cmpI_gt (b.length + y) (a.length + x)
  have h3 := compareInt_cases (a.length + x) (b.length + y)
  have c1 := cmpB_lt a b
  have c2 := cmpB_eq a b
  have c3 := cmpB_gt a b
  have d1 := cmpB_lt b a
  have d2 := cmpB_eq b a
  have d3 := cmpB_gt b a
  have c4 := cmpB_cases a b
  unfold cmpSz
  by_cases h : a.length + x = b.length + y
  · rw [if_pos (h3'.2 h.symm), if_pos (h2.2 h)]
    rcases c4 with e | e | e
    · rw [e, d3.2 (c1.1 e)]; rfl
    · rw [e, d2.2 (c2.1 e).symm]; rfl
    · rw [e, d1.2 (c3.1 e)]
  · rw [if_neg (fun e => h (h3'.1 e).symm), if_neg (fun e => h (h2.1 e))]
    rcases h3 with e | e | e
    · rw [e, h4'.2 (h1.1 e)]; rfl
    · exact absurd (h2.1 e) h
    · rw [e, h1'.2 (h2'.1 e)]
theorem cmpSz_zero {a : List UInt8} {x : Int} {b : List UInt8} {y : Int} : cmpSz a x b y = 0 ↔ a = b ∧ x = y := by
  have h2 := cmpI_eq (a.length + x) (b.length + y)
  have c2 := cmpB_eq a b
  unfold cmpSz
  constructor
  · intro h
    by_cases e : a.length + x = b.length + y
    · rw [if_pos (h2.2 e)] at h
      have := c2.1 h
      subst this
      exact ⟨rfl, by omega⟩
    · rw [if_neg (fun h => e (h2.1 h))] at h
      exact absurd (h2.1 h) e
  · rintro ⟨rfl, rfl⟩
    rw [if_pos (h2.2 rfl)]; exact c2.2 rfl
theorem cmpSz_trans {a : List UInt8} {x : Int} {b : List UInt8} {y : Int} {c : List UInt8} {z : Int} (h1 : cmpSz a x b y ≤ 0) (h2 : cmpSz b y c z ≤ 0) : cmpSz a x c z ≤ 0 := by
  rw [cmpSz_le] at *
  rcases h1 with h1 | ⟨h1, h3⟩ <;> rcases h2 with h2 | ⟨h2, h4⟩
  · exact .inl (by omega)
  · exact .inl (by omega)
  · exact .inl (by omega)
  · refine .inr ⟨by omega, fun h => ?_⟩
    rcases Std.lt_trichotomy b c with h5 | h5 | h5
    · exact h3 (List.lt_trans h5 h)
    · subst h5; exact h3 h
    · exact h4 h5
theorem cmpN_range (a : List UInt8) (g : Bool) (x : Int) (b : List UInt8) (g2 : Bool) (y : Int) : cmpN a g x b g2 y = -1 ∨ cmpN a g x b g2 y = 0 ∨ cmpN a g x b g2 y = 1 := by
  unfold cmpN
  split
  · rcases sgn_cases a g with e | e | e <;> rcases cmpSz_cases a x b y with f | f | f <;> rw [e, f] <;> decide
  · exact compareInt_cases _ _
theorem cmpN_neg (a : List UInt8) (g : Bool) (x : Int) (b : List UInt8) (g2 : Bool) (y : Int) : cmpN b g2 y a g x = -cmpN a g x b g2 y := by
  unfold cmpN
  have h1 := cmpI_lt (sgn a g) (sgn b g2)
  have h2 := cmpI_eq (sgn a g) (sgn b g2)
  have h2' := cmpI_gt (sgn a g) (sgn b g2)
  have h1' := cmpI_lt (sgn b g2) (sgn a g)
  have h3' := cmpI_eq (sgn b g2) (sgn a g)
  have h4' := cmpI_gt (sgn b g2) (sgn a g)
  have h3 := compareInt_cases (sgn a g) (sgn b g2)
  by_cases h : sgn a g = sgn b g2
  · rw [if_pos (h3'.2 h.symm), if_pos (h2.2 h), cmpSz_neg, h, Int.mul_neg]
  · rw [if_neg (fun e => h (h3'.1 e).symm), if_neg (fun e => h (h2.1 e))]
    rcases h3 with e | e | e
    · rw [e, h4'.2 (h1.1 e)]; rfl
    · exact absurd (h2.1 e) h
    · rw [e, h1'.2 (h2'.1 e)]
theorem cmpN_le (a : List UInt8) (g : Bool) (x : Int) (b : List UInt8) (g2 : Bool) (y : Int) : cmpN a g x b g2 y ≤ 0 ↔ sgn a g < sgn b g2 ∨ sgn a g = sgn b g2 ∧ (sgn a g = 0 ∨ sgn a g = 1 ∧ cmpSz a x b y ≤ 0 ∨ sgn a g = -1 ∧ cmpSz b y a x ≤ 0) := by
  have h1 := cmpI_lt (sgn a g) (sgn b g2)
  have h2 := cmpI_eq (sgn a g) (sgn b g2)
  have h3 := compareInt_cases (sgn a g) (sgn b g2)
  rw [cmpSz_neg a x b y]
  unfold cmpN
  split
  · rename_i h
    have hh := h2.1 h
    clear h1 h2 h3 h
    rcases sgn_cases a g with e | e | e <;> rw [e] at hh ⊢ <;> omega
  · rename_i h
    omega
theorem cmpN_trans {a : List UInt8} {g : Bool} {x : Int} {b : List UInt8} {g2 : Bool} {y : Int} {c : List UInt8} {g3 : Bool} {z : Int} (h1 : cmpN a g x b g2 y ≤ 0) (h2 : cmpN b g2 y c g3 z ≤ 0) : cmpN a g x c g3 z ≤ 0 := by
  rw [cmpN_le] at *
  have t1 := @cmpSz_trans a x b y c z
  have t2 := @cmpSz_trans c z b y a x
  grind
theorem cmpN_flip (a : List UInt8) (g : Bool) (x : Int) (b : List UInt8) (g2 : Bool) (y : Int) : cmpN a (!g && !a.isEmpty) x b (!g2 && !b.isEmpty) y = -cmpN a g x b g2 y := by
  have e1 : sgn a (!g && !a.isEmpty) = -sgn a g := by unfold sgn; cases a <;> cases g <;> simp
  have e2 : sgn b (!g2 && !b.isEmpty) = -sgn b g2 := by unfold sgn; cases b <;> cases g2 <;> simp
  have h1 := cmpI_lt (sgn a g) (sgn b g2)
  have h2 := cmpI_eq (sgn a g) (sgn b g2)
  have h2' := cmpI_gt (sgn a g) (sgn b g2)
  have h1' := cmpI_lt (-sgn a g) (-sgn b g2)
  have h3' := cmpI_eq (-sgn a g) (-sgn b g2)
  have h4' := cmpI_gt (-sgn a g) (-sgn b g2)
  have h3 := compareInt_cases (sgn a g) (sgn b g2)
  unfold cmpN
  rw [e1, e2]
  by_cases h : sgn a g = sgn b g2
  · rw [if_pos (h3'.2 (by omega)), if_pos (h2.2 h), Int.neg_mul]
  · rw [if_neg (fun e => h (by have := h3'.1 e; omega)), if_neg (fun e => h (h2.1 e))]
    rcases h3 with e | e | e
    · rw [e, h4'.2 (by have := h1.1 e; omega)]; rfl
    · exact absurd (h2.1 e) h
    · rw [e, h1'.2 (by have := h2'.1 e; omega)]
theorem cmpN_zero {k m : Int} {nm a : List UInt8} {g : Bool} {x : Int} {k2 m2 : Int} {nm2 b : List UInt8} {g2 : Bool} {y : Int} (h1 : right ⟨k, m, nm, a, g, x⟩ = true) (h2 : right ⟨k2, m2, nm2, b, g2, y⟩ = true) :
    cmpN a g x b g2 y = 0 ↔ k = k2 ∧ m = m2 ∧ nm = nm2 ∧ a = b ∧ g = g2 ∧ x = y := by
  rw [right_iff] at h1 h2
  simp only at h1 h2
  obtain ⟨rfl, rfl, rfl, h1⟩ := h1
  obtain ⟨rfl, rfl, rfl, h2⟩ := h2
  have e0 := cmpI_eq (sgn a g) (sgn b g2)
  have z1 := @sgn_zero a g
  have z2 := @sgn_zero b g2
  have s1 : a ≠ [] → (sgn a g = -1 ↔ g = true) := by intro h; unfold sgn; cases a <;> cases g <;> simp at *
  have s2 : b ≠ [] → (sgn b g2 = -1 ↔ g2 = true) := by intro h; unfold sgn; cases b <;> cases g2 <;> simp at *
  have q := @cmpSz_zero a x b y
  have c1 := sgn_cases a g
  unfold cmpN
  constructor
  · intro h
    refine ⟨rfl, rfl, rfl, ?_⟩
    by_cases he : sgn a g = sgn b g2
    · rw [if_pos (e0.2 he)] at h
      rcases h1 with ⟨rfl, rfl, rfl⟩ | ⟨h1, _⟩
      · have : b = [] := z2.1 (by rw [← he]; exact z1.2 rfl)
        subst this
        rcases h2 with ⟨_, rfl, rfl⟩ | ⟨h2, _⟩
        · exact ⟨rfl, rfl, rfl⟩
        · exact absurd rfl h2
      · have hz : sgn a g ≠ 0 := fun e => h1 (z1.1 e)
        have hb : b ≠ [] := fun e => hz (by rw [he]; exact z2.2 e)
        have hc : cmpSz a x b y = 0 := by
          rcases Int.mul_eq_zero.1 h with h | h
          · exact absurd h hz
          · exact h
        obtain ⟨rfl, rfl⟩ := q.1 hc
        refine ⟨rfl, ?_, rfl⟩
        have := s1 h1
        have := s2 hb
        rw [he] at *
        cases g <;> cases g2 <;> simp_all
    · rw [if_neg (fun e => he (e0.1 e))] at h
      exact absurd (e0.1 h) he
  · rintro ⟨_, _, _, rfl, rfl, rfl⟩
    rw [if_pos (e0.2 rfl), q.2 ⟨rfl, rfl⟩, Int.mul_zero]

end Np
end Go.Proofs.YtafbojiojeemoaaGreatDoor

/-
  Plain words: rows that are laid of named parts; an object of any names and parts, by their names. No program stands here.
-/
namespace Go.Proofs.YtafbojiojeemoaaGreatDoor
open Go.RowKit Np Rw Vp

/-- A node without a name, of a kind and so many parts. -/
def hdN (kind : Int) (m : Nat) : Nd := ⟨kind, m, [], [], false, 0⟩
abbrev zeroN : Nd := ⟨0, 0, [], [], false, 0⟩
/-- A row whose first node has that name. -/
def setNm (nm : List UInt8) : List Nd → List Nd
  | [] => []
  | n :: l => { n with name := nm } :: l
theorem setNm_len (nm : List UInt8) (l : List Nd) : (setNm nm l).length = l.length := by cases l <;> rfl
abbrev Pr := List UInt8 × List Nd
/-- A list or an object of named parts. -/
def laid (ps : List Pr) : List Nd := (ps.map fun p => setNm p.1 p.2).flatten
theorem laid_snoc (ps : List Pr) (p : Pr) : laid (ps ++ [p]) = laid ps ++ setNm p.1 p.2 := by simp [laid]
theorem laid_nil : laid [] = [] := rfl
theorem laid_cons (p : Pr) (ps : List Pr) : laid (p :: ps) = setNm p.1 p.2 ++ laid ps := by simp [laid]
theorem laid_append (ps qs : List Pr) : laid (ps ++ qs) = laid ps ++ laid qs := by simp [laid]
theorem laid_len (ps : List Pr) : (laid ps).length = (ps.map fun p => p.2.length).sum := by
  induction ps with
  | nil => rfl
  | cons p ps ih => 
    rw [laid_cons, List.length_append, ih, setNm_len]; simp
theorem laid_len' (L : List (List Nd)) : (laid (L.map fun l => ([], l))).length = (L.map List.length).sum := by
  rw [laid_len, List.map_map]; rfl

/-- Named parts, by their names. -/
def srt (ps : List Pr) : List Pr := ps.mergeSort (fun a b => decide (a.1 ≤ b.1))
def rises (ps : List Pr) : Prop := ps.Pairwise (fun a b => a.1 < b.1)
theorem le_of_not {a b : List UInt8} (h : ¬ b < a) : a ≤ b := List.not_lt.1 h
theorem lt_of_ne {a b : List UInt8} (h : ¬ b < a) (hne : a ≠ b) : a < b := by
  rcases Classical.em (a < b) with h1 | h1
  · exact h1
  · exact absurd (List.le_antisymm (le_of_not h) (le_of_not h1)) hne
theorem srt_of {ps qs : List Pr} (hp : ps.Perm qs) (hr : rises ps) : srt qs = ps := by
  have h1 : (srt qs).Perm ps := (List.mergeSort_perm qs _).trans hp.symm
  have h2 : (srt qs).Pairwise (fun a b => decide (a.1 ≤ b.1) = true) := List.pairwise_mergeSort
    (fun a b c h1 h2 => by simp only [decide_eq_true_eq] at *; exact List.le_trans h1 h2)
    (fun a b => by
      rcases List.le_total a.1 b.1 with h | h
      · simp [h]
      · simp [h]) qs
  have h3 : ps.Pairwise (fun a b => decide (a.1 ≤ b.1) = true) := hr.imp fun h => by simpa using List.le_of_lt h
  refine List.Perm.eq_of_pairwise (le := fun a b => decide (a.1 ≤ b.1) = true) ?_ h2 h3 h1
  intro a b ha hb h4 h5
  simp only [decide_eq_true_eq] at h4 h5
  have ha' : a ∈ ps := h1.mem_iff.1 ha
  have he : a.1 = b.1 := List.le_antisymm h4 h5
  have key : ∀ (l : List Pr), rises l → ∀ a ∈ l, ∀ b ∈ l, a.1 = b.1 → a = b := by
    intro l
    induction l with
    | nil => intro _ a ha; simp at ha
    | cons x l ih =>
      intro hr a ha b hb he
      obtain ⟨hx, hl⟩ := List.pairwise_cons.1 hr
      rcases List.mem_cons.1 ha with h1 | h1 <;> rcases List.mem_cons.1 hb with h2 | h2
      · rw [h1, h2]
      · have := hx b h2; rw [← he, h1] at this; exact absurd this (List.lt_irrefl _)
      · have := hx a h1; rw [he, h2] at this; exact absurd this (List.lt_irrefl _)
      · exact ih hl a h1 b h2 he
  exact key ps hr a ha' b hb he
/-- No two of the same, and all are text. -/
def okNames (names : List (List UInt8)) : Bool := decide names.Nodup && names.all vld
def objB (names : List (List UInt8)) (L : List (List Nd)) : Bool := decide (names.length = L.length) && okNames names
def objV (names : List (List UInt8)) (L : List (List Nd)) : List Nd := if objB names L = true then hdN 6 L.length :: laid (srt (names.zip L)) else []
def objE (names : List (List UInt8)) (L : List (List Nd)) : Int := if objB names L = true then 0 else 4

theorem strict : ∀ (q : List (List UInt8)), q.Pairwise (fun a b => ¬ b < a) → (∀ i a b, q[i]? = some a → q[i + 1]? = some b → a ≠ b) → q.Pairwise (· < ·)
  | [], _, _ => List.Pairwise.nil
  | [a], _, _ => by simp
  | a :: c :: q, h, hn => by
    obtain ⟨h1, h2⟩ := List.pairwise_cons.1 h
    have ih := strict (c :: q) h2 (fun i x y hx hy => hn (i + 1) x y (by simpa using hx) (by simpa using hy))
    obtain ⟨h3, h4⟩ := List.pairwise_cons.1 ih
    have hac : a < c := lt_of_ne (h1 c (by simp)) (hn 0 a c rfl rfl)
    refine List.pairwise_cons.2 ⟨fun b hb => ?_, ih⟩
    rcases List.mem_cons.1 hb with rfl | hb
    · exact hac
    · exact List.lt_trans hac (h3 b hb)

abbrev atN (names : List (List UInt8)) (j : Nat) : List UInt8 := names.getD j []
abbrev atL (L : List (List Nd)) (j : Nat) : List Nd := L.getD j []
theorem range_names (names : List (List UInt8)) : (List.range names.length).map (atN names) = names := by
  apply List.ext_getElem
  · simp
  · intro i h1 h2
    simp [atN, List.getD_eq_getElem?_getD, h2]
theorem range_zip (names : List (List UInt8)) (L : List (List Nd)) (h : names.length = L.length) : (List.range names.length).map (fun j => (atN names j, atL L j)) = names.zip L := by
  apply List.ext_getElem
  · simp [h]
  · intro i h1 h2
    simp at h1
    simp [atN, atL, List.getD_eq_getElem?_getD, h1, show i < L.length by omega]
/-- The places, so that the names rise. -/
structure Places (names : List (List UInt8)) (p : List Nat) : Prop where
  perm : p.Perm (List.range names.length)
  rise : p.Pairwise (fun i j => ¬ atN names j < atN names i)
theorem Places.length {names : List (List UInt8)} {p : List Nat} (h : Places names p) : p.length = names.length := by rw [h.perm.length_eq]; simp
theorem Places.lt {names : List (List UInt8)} {p : List Nat} (h : Places names p) {j : Nat} (hj : j ∈ p) : j < names.length := by simpa using h.perm.mem_iff.1 hj
theorem Places.names {names : List (List UInt8)} {p : List Nat} (h : Places names p) : (p.map (atN names)).Perm names := by
  have := h.perm.map (atN names)
  rwa [range_names] at this
theorem Places.same {names : List (List UInt8)} {p : List Nat} (h : Places names p) {k i j : Nat} (hi : p[k]? = some i) (hj : p[k + 1]? = some j) (he : atN names i = atN names j) : okNames names = false := by
  have : ¬ names.Nodup := fun hn => by
    have h2 := h.names.nodup_iff.2 hn
    have h3 : (p.map (atN names))[k]? = some (atN names i) := by rw [List.getElem?_map, hi]; rfl
    have h4 : (p.map (atN names))[k + 1]? = some (atN names j) := by rw [List.getElem?_map, hj]; rfl
    obtain ⟨l3, e3⟩ := List.getElem?_eq_some_iff.1 h3
    obtain ⟨l4, e4⟩ := List.getElem?_eq_some_iff.1 h4
    have h5 := List.pairwise_iff_getElem.1 h2 k (k + 1) l3 l4 (by omega)
    rw [e3, e4] at h5
    exact h5 he
  unfold okNames
  simp [this]
theorem Places.wrong {names : List (List UInt8)} {p : List Nat} (h : Places names p) {i : Nat} (hi : i ∈ p) (hv : vld (atN names i) = false) : okNames names = false := by
  unfold okNames
  have hlt := h.lt hi
  have : names.all vld = false := by
    rw [List.all_eq_false]
    refine ⟨atN names i, ?_, by rw [hv]; decide⟩
    rw [atN, List.getD_eq_getElem?_getD, List.getElem?_eq_getElem hlt]
    exact List.getElem_mem hlt
  simp [this]
theorem Places.good {names : List (List UInt8)} {p : List Nat} (h : Places names p) (hv : ∀ i ∈ p, vld (atN names i) = true) (hn : ∀ k i j, p[k]? = some i → p[k + 1]? = some j → atN names i ≠ atN names j) :
    okNames names = true ∧ (p.map (atN names)).Pairwise (· < ·) := by
  have hs : (p.map (atN names)).Pairwise (· < ·) := by
    refine strict _ (List.pairwise_map.2 h.rise) fun k a b ha hb => ?_
    rw [List.getElem?_map] at ha hb
    obtain ⟨i, hi, rfl⟩ := Option.map_eq_some_iff.1 ha
    obtain ⟨j, hj, rfl⟩ := Option.map_eq_some_iff.1 hb
    exact hn k i j hi hj
  refine ⟨?_, hs⟩
  unfold okNames
  rw [Bool.and_eq_true, decide_eq_true_eq]
  refine ⟨h.names.nodup_iff.1 (List.Pairwise.imp (R := (· < ·)) (fun {a b} hab (e : a = b) => by subst e; exact List.lt_irrefl a hab) hs), ?_⟩
  rw [List.all_eq_true]
  intro x hx
  obtain ⟨i, hi, rfl⟩ := List.mem_map.1 (h.names.mem_iff.2 hx)
  exact hv i hi
theorem Places.pairs {names : List (List UInt8)} {L : List (List Nd)} {p : List Nat} (h : Places names p) (hl : names.length = L.length) (hs : (p.map (atN names)).Pairwise (· < ·)) :
    srt (names.zip L) = p.map (fun j => (atN names j, atL L j)) := by
  refine srt_of ?_ (List.pairwise_map.2 (List.pairwise_map.1 hs))
  have := h.perm.map (fun j => (atN names j, atL L j))
  rwa [range_zip names L hl] at this
theorem sum_part {α : Type} (f : α → Nat) (p : List α) (k : Nat) : ((p.take k).map f).sum ≤ (p.map f).sum := by
  conv => rhs; rw [← List.take_append_drop k p]
  rw [List.map_append, List.sum_append]
  omega
theorem Places.sum {names : List (List UInt8)} {L : List (List Nd)} {p : List Nat} (h : Places names p) (hl : names.length = L.length) : (p.map fun x => (atL L x).length).sum = (L.map List.length).sum := by
  rw [(h.perm.map (fun x => (atL L x).length)).sum_nat, hl]
  congr 1
  apply List.ext_getElem
  · simp
  · intro i h1 h2
    simp at h1
    simp [atL, List.getD_eq_getElem?_getD, h1]
theorem Places.long {names : List (List UInt8)} {L : List (List Nd)} {p : List Nat} (h : Places names p) (hl : names.length = L.length) (k : Nat) : (laid ((p.take k).map fun x => (atN names x, atL L x))).length ≤ (L.map List.length).sum := by
  rw [laid_len, List.map_map]
  have := sum_part (fun x => (atL L x).length) p k
  rw [h.sum hl] at this
  exact this
end Go.Proofs.YtafbojiojeemoaaGreatDoor

/-
  What the document's own answer on escapes is.
-/
namespace Go.Proofs.YtafbojiojeemoaaGreatDoor
open Go.RowKit Np Up Qp

/-- What is told of an escape. -/
def esS : Option (Nat × Nat) → List UInt8
  | some x => Lib.encodeRune (x.1 : Int)
  | none => []
def esN : Option (Nat × Nat) → Int
  | some x => x.2
  | none => 0
theorem unI_none {x : Option Nat} (h : x = none) : unI x = -1 := by rw [h]; rfl
theorem unI_some {x : Option Nat} {a : Nat} (h : x = some a) : unI x = a := by rw [h]; rfl
theorem ret_two {a b : List UInt8} {x y : Int} (h : a = b) (k : x = y) : Ending.returned (.tuple #[.string ⟨a.toArray⟩, .int .i64 x]) = .returned (.tuple #[.string ⟨b.toArray⟩, .int .i64 y]) := by rw [h, k]

/-- The letters of the short escapes, and their runes. -/
def shF : ByteArray := ⟨#[34, 92, 47, 98, 102, 110, 114, 116]⟩
def shT : ByteArray := ⟨#[34, 92, 47, 8, 12, 10, 13, 9]⟩
theorem shF_size : shF.size = 8 := rfl
theorem shT_size : shT.size = 8 := rfl
theorem sh_hit : ∀ j : Fin 8, sh (shF[j.val]'(by rw [shF_size]; exact j.2)).toNat = some (shT[j.val]'(by rw [shT_size]; exact j.2)).toNat ∧ shT.extract j.val (j.val + 1) = ⟨(Lib.encodeRune ((shT[j.val]'(by rw [shT_size]; exact j.2)).toNat : Int)).toArray⟩ := by decide +kernel
theorem sh_miss (c : Nat) (h : ∀ j : Fin 8, c ≠ (shF[j.val]'(by rw [shF_size]; exact j.2)).toNat) : sh c = none := by
  have h0 : c ≠ 34 := h 0
  have h1 : c ≠ 92 := h 1
  have h2 : c ≠ 47 := h 2
  have h3 : c ≠ 98 := h 3
  have h4 : c ≠ 102 := h 4
  have h5 : c ≠ 110 := h 5
  have h6 : c ≠ 114 := h 6
  have h7 : c ≠ 116 := h 7
  simp [sh, h0, h1, h2, h3, h4, h5, h6, h7]

theorem sh_hit' (j : Nat) (h : j < shF.size) (h' : j < shT.size) : sh shF[j].toNat = some shT[j].toNat ∧ shT.extract j (j + 1) = ⟨(Lib.encodeRune (shT[j].toNat : Int)).toArray⟩ := sh_hit ⟨j, h⟩
theorem sh_miss' (c : Nat) (h : ∀ (j : Nat) (h : j < shF.size), c ≠ shF[j].toNat) : sh c = none := sh_miss c fun j => h j.val j.2

set_option maxRecDepth 100000 in
set_option maxHeartbeats 4000000 in
theorem refEscape_any (s : ByteArray) (i : Nat) (w : World) (hs : s.size ≤ 1073741824) (hi : i < s.size) :
    Calls Tryz.prog 140 #[.string s, .int .i64 i] w fun e w' => e = .returned (.tuple #[.string ⟨(esS (es (s.data.toList.drop i))).toArray⟩, .int .i64 (esN (es (s.data.toList.drop i)))]) ∧ Below w.heap.size w w' := by
  have hB : Below w.heap.size w w := Below.refl _ _
  by_cases h2 : i + 1 < s.size
  · have hb1 := bt_at' s i 1 (by omega)
    have hln : ¬ (s.data.toList.drop i).length < 2 := by rw [List.length_drop, size_toList]; omega
    have HES : Hid (∀ x, sh s[i + 1].toNat = some x → es (s.data.toList.drop i) = some (x, 2)) := Lib.hid (fun x hx => by rw [es, if_neg hln, hb1, hx])
    have HEN : Hid (sh s[i + 1].toNat = none → es (s.data.toList.drop i) = match un (s.data.toList.drop i) with
      | none => none
      | some a => if a < 55296 ∨ 57344 ≤ a then some (a, 6) else
        match un (s.data.toList.drop (i + 6)) with
        | none => none
        | some b => if a < 56320 ∧ 56320 ≤ b ∧ b < 57344 then some (pr a b, 12) else none) := Lib.hid (fun hx => by rw [es, if_neg hln, hb1, hx, List.drop_drop]; rfl)
    clear hb1 hln
    obtain ⟨F, T, hF8, hT8, HHIT, HMISS, hFd, hTd⟩ : ∃ F T : ByteArray, F.size = 8 ∧ T.size = 8 ∧ Hid (∀ (j : Nat) (h : j < F.size) (h' : j < T.size), sh F[j].toNat = some T[j].toNat ∧ T.extract j (j + 1) = ⟨(Lib.encodeRune (T[j].toNat : Int)).toArray⟩) ∧
      Hid (∀ c : Nat, (∀ (j : Nat) (h : j < F.size), c ≠ F[j].toNat) → sh c = none) ∧ F = ⟨#[34, 92, 47, 98, 102, 110, 114, 116]⟩ ∧ T = ⟨#[34, 92, 47, 8, 12, 10, 13, 9]⟩ := ⟨shF, shT, rfl, rfl, Lib.hid sh_hit', Lib.hid sh_miss', rfl, rfl⟩
    go_enter Tryz.func140, Tryz.ntmps140
    go_wp2
    rw [← hFd, ← hTd]
    clear hFd hTd
    go_loopw [8] (fun k wx => ∃ j : Nat, j ≤ 8 ∧ k = .int .i64 j ∧ Hid (∀ (m : Nat) (h : m < F.size), m < j → s[i + 1].toNat ≠ F[m].toNat) ∧ Below w.heap.size w wx) (fun k _ => 8 - (intOf k).toNat)
    case atStart => exact ⟨0, by omega, rfl, Lib.hid (fun m h hm => by omega), hB⟩
    case round =>
      obtain ⟨j, hj, rfl, HJ, hb⟩ := hrel
      by_cases hj8 : j < 8
      · have hwi : IntKind.i64.wrap ((i : Int) + 1) = (i : Int) + 1 := by rw [IntKind.wrap_i64]; omega
        have hjF : j < F.size := by omega
        have hjF' : (j : Int) < (F.size : Int) := by omega
        have hiS' : ((i : Int) + 1) < (s.size : Int) := by omega
        by_cases hm : s[i + 1].toNat = F[j].toNat
        · have hh := HHIT.out j hjF (by omega)
          rw [← hm] at hh
          obtain ⟨hh1, hh2⟩ := hh
          have HR := Lib.hid (HES.out _ hh1)
          have HT := Lib.hid hh2
          have hme : ((s[i + 1].toNat : Int) == (F[j].toNat : Int)) = true := by rw [beq_iff_eq]; omega
          clear hh1 hh2 hm
          go_wp2_with fail
          have h01 : (0 : Int) ≤ (i : Int) + 1 := by omega
          go_quiet (fail)
          go_wp2_with fail
          go_ret2
          refine ⟨?_, hb.trans (below_quiet ⟨_, rfl⟩ |>.mono hb.size)⟩
          rw [HR.out, HT.out]
          rfl
        · have hme : ((s[i + 1].toNat : Int) == (F[j].toNat : Int)) = false := by rw [beq_eq_false_iff_ne]; omega
          have HJ' : Hid (∀ (m : Nat) (h : m < F.size), m < j + 1 → s[i + 1].toNat ≠ F[m].toNat) := Lib.hid (fun m h hmj => by
            rcases Nat.lt_or_ge m j with h1 | h1
            · exact HJ.out m h h1
            · obtain rfl : m = j := by omega
              exact hm)
          clear hm HJ
          go_wp2_with fail
          have h01 : (0 : Int) ≤ (i : Int) + 1 := by omega
          go_quiet (fail)
          go_wp2_with fail
          go_roundw
          case rel => exact ⟨j + 1, by omega, by go_num, HJ', hb.trans (below_quiet ⟨_, rfl⟩ |>.mono hb.size)⟩
          case measure => simp [intOf]; omega
      · have hsh := HMISS.out s[i + 1].toNat (fun m h => HJ.out m h (by omega))
        have HE := Lib.hid (HEN.out hsh)
        clear hsh HEN HES HHIT HMISS HJ
        obtain rfl : j = 8 := by omega
        cases hu : un (s.data.toList.drop i) with
        | none =>
          have HU := Lib.hid (unI_none hu)
          have HE2 : Hid (es (s.data.toList.drop i) = none) := Lib.hid (by rw [HE.out, hu])
          clear hu HE
          go_wp2_with (go_at_call 169; refine (refUnit_any s i _ hs (by omega)).mono ?_; rintro e w' ⟨rfl, rfl⟩; rw [HU.out])
          all_goals go_ret2
          all_goals exact ⟨by rw [HE2.out]; rfl, hb⟩
        | some a =>
          obtain ⟨u1, u2, -, -, -⟩ := un_some hu
          have HU := Lib.hid (unI_some hu)
          have HE1 := HE.out
          rw [hu] at HE1
          clear hu HE
          have HU' := HU.out
          clear HU
          obtain ⟨x, hx⟩ : ∃ x : Int, x = (a : Int) := ⟨_, rfl⟩
          rw [← hx] at HU'
          have HU := Lib.hid HU'
          have hx0 : 0 ≤ x := by omega
          have hx1 : x < 65536 := by omega
          clear HU'
          by_cases hr : a < 55296 ∨ 57344 ≤ a
          · have HE2 : Hid (es (s.data.toList.drop i) = some (a, 6)) := Lib.hid (HE1.trans (if_pos hr))
            have hr' : x < 55296 ∨ 57343 < x := by omega
            have HR := Lib.hid hr'
            have HXA := Lib.hid hx
            have c0 : ¬ x < 0 := by omega
            have hsur : ((decide ((56320 : Int) ≤ x) && decide (x < 57344))) = false := by
              rw [Bool.and_eq_false_iff, decide_eq_false_iff_not, decide_eq_false_iff_not]; omega
            have hsur2 : (decide (x < 55296) || decide ((57344 : Int) ≤ x)) = true := by
              rw [Bool.or_eq_true, decide_eq_true_eq, decide_eq_true_eq]; omega
            clear HE1 hr hr' hx u2
            go_wp2_with fail
            refine (refUnit_any s i _ hs (by omega)).mono ?_
            rintro e w' ⟨rfl, rfl⟩
            rw [HU.out]
            go_wp2_with (go_at_call 170; refine (refUtf_code _ _ (by omega) (by omega) HR.out).mono ?_; rintro e w' ⟨rfl, hb2⟩)
            all_goals go_ret2
            all_goals first
              | (refine ⟨?_, hb.trans (hb2.mono hb.size)⟩
                 rw [HE2.out]
                 show _ = Ending.returned (.tuple #[.string ⟨(Lib.encodeRune (a : Int)).toArray⟩, .int .i64 6])
                 rw [← HXA.out]
                 rfl)
              | (exfalso; have := HR.out; go_light; simp at *; omega)
          · have hxr : 55296 ≤ x ∧ x < 57344 := by omega
            have HER := Lib.hid (HE1.trans (if_neg hr))
            have c0 : ¬ x < 0 := by omega
            obtain ⟨hx2, hx3⟩ := hxr
            clear HE1 hr u2 hx0 hx1
            by_cases hlo : 56320 ≤ x
            · have HE2 : Hid (es (s.data.toList.drop i) = none) := Lib.hid (by
                rw [HER.out]
                split
                · rfl
                · rw [if_neg (by omega)])
              have hsur : ((decide ((56320 : Int) ≤ x) && decide (x < 57344))) = true := by
                rw [Bool.and_eq_true, decide_eq_true_eq, decide_eq_true_eq]; omega
              clear HER hx
              go_wp2_with fail
              refine (refUnit_any s i _ hs (by omega)).mono ?_
              rintro e w' ⟨rfl, rfl⟩
              rw [HU.out]
              go_wp2_with fail
              go_ret2
              refine ⟨?_, hb⟩
              rw [HE2.out]
              rfl
            · have hsur : ((decide ((56320 : Int) ≤ x) && decide (x < 57344))) = false := by
                rw [Bool.and_eq_false_iff, decide_eq_false_iff_not, decide_eq_false_iff_not]; omega
              have hsur2 : (decide (x < 55296) || decide ((57344 : Int) ≤ x)) = false := by
                rw [Bool.or_eq_false_iff, decide_eq_false_iff_not, decide_eq_false_iff_not]; omega
              have HUB : Hid (∀ w : World, Calls Tryz.prog 169 #[.string s, .int .i64 ((i : Int) + 6)] w fun e w' => e = .returned (.int .i64 (unI (un (s.data.toList.drop (i + 6))))) ∧ w = w') := Lib.hid (fun w => refUnit_any s (i + 6) w hs (by omega))
              cases hu2 : un (s.data.toList.drop (i + 6)) with
              | none =>
                have HE2 : Hid (es (s.data.toList.drop i) = none) := Lib.hid (by rw [HER.out, hu2])
                have HU2 := Lib.hid (unI_none hu2)
                clear HER hu2 hx
                go_wp2_with fail
                refine (refUnit_any s i _ hs (by omega)).mono ?_
                rintro e w' ⟨rfl, rfl⟩
                rw [HU.out]
                go_wp2_with fail
                refine (HUB.out _).mono ?_
                rintro e w' ⟨rfl, rfl⟩
                rw [HU2.out]
                go_wp2_with fail
                all_goals go_ret2
                all_goals exact ⟨by rw [HE2.out]; rfl, hb⟩
              | some b =>
                obtain ⟨v1, v2, -, -, -⟩ := un_some hu2
                have HE3 := HER.out
                rw [hu2] at HE3
                have HU3 := unI_some hu2
                obtain ⟨y, hy⟩ : ∃ y : Int, y = (b : Int) := ⟨_, rfl⟩
                rw [← hy] at HU3
                have HU2 := Lib.hid HU3
                have hy0 : 0 ≤ y := by omega
                have hy1 : y < 65536 := by omega
                by_cases hyr : 56320 ≤ y ∧ y < 57344
                · have HE2 : Hid (es (s.data.toList.drop i) = some (pr a b, 12)) := Lib.hid (HE3.trans (if_pos (by omega)))
                  have HXA : Hid (((pr a b : Nat) : Int) = 65536 + 1024 * (x - 55296) + y - 56320) := Lib.hid (by unfold pr; omega)
                  obtain ⟨hyr1, hyr2⟩ := hyr
                  have hysur : ((decide (y < (56320 : Int)) || decide ((57344 : Int) ≤ y))) = false := by
                    rw [Bool.or_eq_false_iff, decide_eq_false_iff_not, decide_eq_false_iff_not]; omega
                  clear HER hu2 hx hy HE3 HU3 v2
                  go_wp2_with fail
                  refine (refUnit_any s i _ hs (by omega)).mono ?_
                  rintro e w' ⟨rfl, rfl⟩
                  rw [HU.out]
                  go_wp2_with fail
                  refine (HUB.out _).mono ?_
                  rintro e w' ⟨rfl, rfl⟩
                  rw [HU2.out]
                  go_wp2_with (go_at_call 170; refine (refUtf_code _ _ (by omega) (by omega) (by omega)).mono ?_; rintro e w' ⟨rfl, hb2⟩)
                  all_goals go_ret2
                  all_goals (refine ⟨?_, hb.trans (hb2.mono hb.size)⟩)
                  all_goals (rw [HE2.out])
                  all_goals (show _ = Ending.returned (.tuple #[.string ⟨(Lib.encodeRune (pr a b : Nat)).toArray⟩, .int .i64 12]))
                  all_goals (rw [HXA.out]; rfl)
                · have HE2 : Hid (es (s.data.toList.drop i) = none) := Lib.hid (HE3.trans (if_neg (by omega)))
                  have hysur : ((decide (y < (56320 : Int)) || decide ((57344 : Int) ≤ y))) = true := by
                    rw [Bool.or_eq_true, decide_eq_true_eq, decide_eq_true_eq]; omega
                  clear HER hu2 hx hy HE3 HU3 v2 hyr
                  go_wp2_with fail
                  refine (refUnit_any s i _ hs (by omega)).mono ?_
                  rintro e w' ⟨rfl, rfl⟩
                  rw [HU.out]
                  go_wp2_with fail
                  refine (HUB.out _).mono ?_
                  rintro e w' ⟨rfl, rfl⟩
                  rw [HU2.out]
                  go_wp2_with (go_at_call 170; exfalso; go_light; simp at *; omega)
                  all_goals go_ret2
                  all_goals exact ⟨by rw [HE2.out]; rfl, hb⟩
  · have HE : Hid (es (s.data.toList.drop i) = none) := Lib.hid (by
      rw [es, if_pos (by rw [List.length_drop, size_toList]; omega)])
    go_enter Tryz.func140, Tryz.ntmps140
    go_wp2
    go_ret2
    refine ⟨?_, hB⟩
    rw [HE.out]
    rfl
end Go.Proofs.YtafbojiojeemoaaGreatDoor
