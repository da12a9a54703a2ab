/-
  Joined: NumOrdP, ObjP, FindP, TreeP, ObjP2, NumPlain3, TxP, QVal, NumPlain4, BackP.
-/
import Derived.Test.YtafbojiojeemoaaGreatDoorNumPlain5
import Derived.Sort.Walk0
import Derived.Test.YtafbojiojeemoaaGreatDoorValP2
import Derived.Test.YtafbojiojeemoaaGreatDoorNumPlain2
import Derived.Test.YtafbojiojeemoaaGreatDoorQuoP
import Derived.Lib.Strings
import Derived.Lib.SlTrimSet
import Derived.Test.YtafbojiojeemoaaGreatDoorQm
import Derived.Lib.Repeat
import Derived.Lib.ItoaNum
import Derived.Lib.ItoaLen

/-
  Plain words: which of two numbers is greater is an order. No program stands here.
-/
namespace Go.Proofs.YtafbojiojeemoaaGreatDoor
namespace Np
open Go.RowKit

theorem cmpB_lt (a b : List UInt8) : cmpB a b = -1 ↔ a < b := by
  unfold cmpB
  simp only [bytesLess_eq, decide_eq_true_eq]
  split
  · simp [*]
  · split <;> simp [*]
theorem cmpB_eq (a b : List UInt8) : cmpB a b = 0 ↔ a = b := by
  unfold cmpB
  simp only [bytesLess_eq, decide_eq_true_eq]
  split
  · rename_i h
    constructor
    · intro h; cases h
    · intro e; subst e; exact absurd h (List.lt_irrefl _)
  · split <;> simp [*]
theorem cmpB_gt (a b : List UInt8) : cmpB a b = 1 ↔ b < a := by
  have h0 := cmpB_cases a b
  have h1 := cmpB_lt a b
  have h2 := cmpB_eq a b
  constructor
  · intro h
    rcases Std.lt_trichotomy a b with h3 | h3 | h3
    · rw [h1.2 h3] at h; cases h
    · rw [h2.2 h3] at h; cases h
    · exact h3
  · intro h
    rcases h0 with h3 | h3 | h3
    · exact absurd (h1.1 h3) (List.lt_asymm h)
    · exact absurd h (by rw [h2.1 h3]; exact List.lt_irrefl _)
    · exact h3
theorem cmpI_lt (x y : Int) : Lib.compareInt x y = -1 ↔ x < y := by unfold Lib.compareInt; (repeat' split) <;> omega
theorem cmpI_eq (x y : Int) : Lib.compareInt x y = 0 ↔ x = y := by unfold Lib.compareInt; (repeat' split) <;> omega
theorem cmpI_gt (x y : Int) : Lib.compareInt x y = 1 ↔ y < x := by unfold Lib.compareInt; (repeat' split) <;> omega

/-- What lies at nought, below and above. -/
theorem sgn_zero {a : List UInt8} {g : Bool} : sgn a g = 0 ↔ a = [] := by
  unfold sgn; cases a <;> cases g <;> simp
theorem cmpSz_le (a : List UInt8) (x : Int) (b : List UInt8) (y : Int) : cmpSz a x b y ≤ 0 ↔ a.length + x < b.length + y ∨ a.length + x = b.length + y ∧ ¬ b < a := by
  have h1 := cmpI_lt (a.length + x) (b.length + y)
  have h2 := cmpI_eq (a.length + x) (b.length + y)
  have h3 := compareInt_cases (a.length + x) (b.length + y)
  have h4 := cmpB_cases a b
  have h5 := cmpB_gt a b
  unfold cmpSz
  split
  · rename_i h
    have := h2.1 h
    constructor
    · intro h6; exact .inr ⟨this, fun h7 => by have := h5.2 h7; omega⟩
    · rintro (h6 | ⟨_, h6⟩)
      · omega
      · rcases h4 with h7 | h7 | h7
        · omega
        · omega
        · exact absurd (h5.1 h7) h6
  · rename_i h
    constructor
    · intro h6; exact .inl (h1.1 (by omega))
    · rintro (h6 | ⟨h6, _⟩)
      · have := h1.2 h6; omega
      · exact absurd (h2.2 h6) h
theorem cmpSz_neg (a : List UInt8) (x : Int) (b : List UInt8) (y : Int) : cmpSz b y a x = -cmpSz a x b y := by
  have h1 := cmpI_lt (a.length + x) (b.length + y)
  have h2 := cmpI_eq (a.length + x) (b.length + y)
  have h2' := cmpI_gt (a.length + x) (b.length + y)
  have h1' := cmpI_lt (b.length + y) (a.length + x)
  have h3' := cmpI_eq (b.length + y) (a.length + x)
  have h4' := cmpI_gt (b.length + y) (a.length + x)
  have h3 := compareInt_cases (a.length + x) (b.length + y)
  have c1 := cmpB_lt a b
  have c2 := cmpB_eq a b
  have c3 := cmpB_gt a b
  have d1 := cmpB_lt b a
  have d2 := cmpB_eq b a
  have d3 := cmpB_gt b a
  have c4 := cmpB_cases a b
  unfold cmpSz
  by_cases h : a.length + x = b.length + y
  · rw [if_pos (h3'.2 h.symm), if_pos (h2.2 h)]
    rcases c4 with e | e | e
    · rw [e, d3.2 (c1.1 e)]; rfl
    · rw [e, d2.2 (c2.1 e).symm]; rfl
    · rw [e, d1.2 (c3.1 e)]
  · rw [if_neg (fun e => h (h3'.1 e).symm), if_neg (fun e => h (h2.1 e))]
    rcases h3 with e | e | e
    · rw [e, h4'.2 (h1.1 e)]; rfl
    · exact absurd (h2.1 e) h
    · rw [e, h1'.2 (h2'.1 e)]
theorem cmpSz_zero {a : List UInt8} {x : Int} {b : List UInt8} {y : Int} : cmpSz a x b y = 0 ↔ a = b ∧ x = y := by
  have h2 := cmpI_eq (a.length + x) (b.length + y)
  have c2 := cmpB_eq a b
  unfold cmpSz
  constructor
  · intro h
    by_cases e : a.length + x = b.length + y
    · rw [if_pos (h2.2 e)] at h
      have := c2.1 h
      subst this
      exact ⟨rfl, by omega⟩
    · rw [if_neg (fun h => e (h2.1 h))] at h
      exact absurd (h2.1 h) e
  · rintro ⟨rfl, rfl⟩
    rw [if_pos (h2.2 rfl)]; exact c2.2 rfl
theorem cmpSz_trans {a : List UInt8} {x : Int} {b : List UInt8} {y : Int} {c : List UInt8} {z : Int} (h1 : cmpSz a x b y ≤ 0) (h2 : cmpSz b y c z ≤ 0) : cmpSz a x c z ≤ 0 := by
  rw [cmpSz_le] at *
  rcases h1 with h1 | ⟨h1, h3⟩ <;> rcases h2 with h2 | ⟨h2, h4⟩
  · exact .inl (by omega)
  · exact .inl (by omega)
  · exact .inl (by omega)
  · refine .inr ⟨by omega, fun h => ?_⟩
    rcases Std.lt_trichotomy b c with h5 | h5 | h5
    · exact h3 (List.lt_trans h5 h)
    · subst h5; exact h3 h
    · exact h4 h5
theorem cmpN_range (a : List UInt8) (g : Bool) (x : Int) (b : List UInt8) (g2 : Bool) (y : Int) : cmpN a g x b g2 y = -1 ∨ cmpN a g x b g2 y = 0 ∨ cmpN a g x b g2 y = 1 := by
  unfold cmpN
  split
  · rcases sgn_cases a g with e | e | e <;> rcases cmpSz_cases a x b y with f | f | f <;> rw [e, f] <;> decide
  · exact compareInt_cases _ _
theorem cmpN_neg (a : List UInt8) (g : Bool) (x : Int) (b : List UInt8) (g2 : Bool) (y : Int) : cmpN b g2 y a g x = -cmpN a g x b g2 y := by
  unfold cmpN
  have h1 := cmpI_lt (sgn a g) (sgn b g2)
  have h2 := cmpI_eq (sgn a g) (sgn b g2)
  have h2' := cmpI_gt (sgn a g) (sgn b g2)
  have h1' := cmpI_lt (sgn b g2) (sgn a g)
  have h3' := cmpI_eq (sgn b g2) (sgn a g)
  have h4' := cmpI_gt (sgn b g2) (sgn a g)
  have h3 := compareInt_cases (sgn a g) (sgn b g2)
  by_cases h : sgn a g = sgn b g2
  · rw [if_pos (h3'.2 h.symm), if_pos (h2.2 h), cmpSz_neg, h, Int.mul_neg]
  · rw [if_neg (fun e => h (h3'.1 e).symm), if_neg (fun e => h (h2.1 e))]
    rcases h3 with e | e | e
    · rw [e, h4'.2 (h1.1 e)]; rfl
    · exact absurd (h2.1 e) h
    · rw [e, h1'.2 (h2'.1 e)]
theorem cmpN_le (a : List UInt8) (g : Bool) (x : Int) (b : List UInt8) (g2 : Bool) (y : Int) : cmpN a g x b g2 y ≤ 0 ↔ sgn a g < sgn b g2 ∨ sgn a g = sgn b g2 ∧ (sgn a g = 0 ∨ sgn a g = 1 ∧ cmpSz a x b y ≤ 0 ∨ sgn a g = -1 ∧ cmpSz b y a x ≤ 0) := by
  have h1 := cmpI_lt (sgn a g) (sgn b g2)
  have h2 := cmpI_eq (sgn a g) (sgn b g2)
  have h3 := compareInt_cases (sgn a g) (sgn b g2)
  rw [cmpSz_neg a x b y]
  unfold cmpN
  split
  · rename_i h
    have hh := h2.1 h
    clear h1 h2 h3 h
    rcases sgn_cases a g with e | e | e <;> rw [e] at hh ⊢ <;> omega
  · rename_i h
    omega
theorem cmpN_trans {a : List UInt8} {g : Bool} {x : Int} {b : List UInt8} {g2 : Bool} {y : Int} {c : List UInt8} {g3 : Bool} {z : Int} (h1 : cmpN a g x b g2 y ≤ 0) (h2 : cmpN b g2 y c g3 z ≤ 0) : cmpN a g x c g3 z ≤ 0 := by
  rw [cmpN_le] at *
  have t1 := @cmpSz_trans a x b y c z
  have t2 := @cmpSz_trans c z b y a x
  grind
theorem cmpN_flip (a : List UInt8) (g : Bool) (x : Int) (b : List UInt8) (g2 : Bool) (y : Int) : cmpN a (!g && !a.isEmpty) x b (!g2 && !b.isEmpty) y = -cmpN a g x b g2 y := by
  have e1 : sgn a (!g && !a.isEmpty) = -sgn a g := by unfold sgn; cases a <;> cases g <;> simp
  have e2 : sgn b (!g2 && !b.isEmpty) = -sgn b g2 := by unfold sgn; cases b <;> cases g2 <;> simp
  have h1 := cmpI_lt (sgn a g) (sgn b g2)
  have h2 := cmpI_eq (sgn a g) (sgn b g2)
  have h2' := cmpI_gt (sgn a g) (sgn b g2)
  have h1' := cmpI_lt (-sgn a g) (-sgn b g2)
  have h3' := cmpI_eq (-sgn a g) (-sgn b g2)
  have h4' := cmpI_gt (-sgn a g) (-sgn b g2)
  have h3 := compareInt_cases (sgn a g) (sgn b g2)
  unfold cmpN
  rw [e1, e2]
  by_cases h : sgn a g = sgn b g2
  · rw [if_pos (h3'.2 (by omega)), if_pos (h2.2 h), Int.neg_mul]
  · rw [if_neg (fun e => h (by have := h3'.1 e; omega)), if_neg (fun e => h (h2.1 e))]
    rcases h3 with e | e | e
    · rw [e, h4'.2 (by have := h1.1 e; omega)]; rfl
    · exact absurd (h2.1 e) h
    · rw [e, h1'.2 (by have := h2'.1 e; omega)]
theorem cmpN_zero {k m : Int} {nm a : List UInt8} {g : Bool} {x : Int} {k2 m2 : Int} {nm2 b : List UInt8} {g2 : Bool} {y : Int} (h1 : right ⟨k, m, nm, a, g, x⟩ = true) (h2 : right ⟨k2, m2, nm2, b, g2, y⟩ = true) :
    cmpN a g x b g2 y = 0 ↔ k = k2 ∧ m = m2 ∧ nm = nm2 ∧ a = b ∧ g = g2 ∧ x = y := by
  rw [right_iff] at h1 h2
  simp only at h1 h2
  obtain ⟨rfl, rfl, rfl, h1⟩ := h1
  obtain ⟨rfl, rfl, rfl, h2⟩ := h2
  have e0 := cmpI_eq (sgn a g) (sgn b g2)
  have z1 := @sgn_zero a g
  have z2 := @sgn_zero b g2
  have s1 : a ≠ [] → (sgn a g = -1 ↔ g = true) := by intro h; unfold sgn; cases a <;> cases g <;> simp at *
  have s2 : b ≠ [] → (sgn b g2 = -1 ↔ g2 = true) := by intro h; unfold sgn; cases b <;> cases g2 <;> simp at *
  have q := @cmpSz_zero a x b y
  have c1 := sgn_cases a g
  unfold cmpN
  constructor
  · intro h
    refine ⟨rfl, rfl, rfl, ?_⟩
    by_cases he : sgn a g = sgn b g2
    · rw [if_pos (e0.2 he)] at h
      rcases h1 with ⟨rfl, rfl, rfl⟩ | ⟨h1, _⟩
      · have : b = [] := z2.1 (by rw [← he]; exact z1.2 rfl)
        subst this
        rcases h2 with ⟨_, rfl, rfl⟩ | ⟨h2, _⟩
        · exact ⟨rfl, rfl, rfl⟩
        · exact absurd rfl h2
      · have hz : sgn a g ≠ 0 := fun e => h1 (z1.1 e)
        have hb : b ≠ [] := fun e => hz (by rw [he]; exact z2.2 e)
        have hc : cmpSz a x b y = 0 := by
          rcases Int.mul_eq_zero.1 h with h | h
          · exact absurd h hz
          · exact h
        obtain ⟨rfl, rfl⟩ := q.1 hc
        refine ⟨rfl, ?_, rfl⟩
        have := s1 h1
        have := s2 hb
        rw [he] at *
        cases g <;> cases g2 <;> simp_all
    · rw [if_neg (fun e => he (e0.1 e))] at h
      exact absurd (e0.1 h) he
  · rintro ⟨_, _, _, rfl, rfl, rfl⟩
    rw [if_pos (e0.2 rfl), q.2 ⟨rfl, rfl⟩, Int.mul_zero]

end Np
end Go.Proofs.YtafbojiojeemoaaGreatDoor

/-
  Plain words: rows that are laid of named parts; an object of any names and parts, by their names. No program stands here.
-/
namespace Go.Proofs.YtafbojiojeemoaaGreatDoor
open Go.RowKit Np Rw Vp

/-- A node without a name, of a kind and so many parts. -/
def hdN (kind : Int) (m : Nat) : Nd := ⟨kind, m, [], [], false, 0⟩
abbrev zeroN : Nd := ⟨0, 0, [], [], false, 0⟩
/-- A row whose first node has that name. -/
def setNm (nm : List UInt8) : List Nd → List Nd
  | [] => []
  | n :: l => { n with name := nm } :: l
theorem setNm_len (nm : List UInt8) (l : List Nd) : (setNm nm l).length = l.length := by cases l <;> rfl
abbrev Pr := List UInt8 × List Nd
/-- A list or an object of named parts. -/
def laid (ps : List Pr) : List Nd := (ps.map fun p => setNm p.1 p.2).flatten
theorem laid_snoc (ps : List Pr) (p : Pr) : laid (ps ++ [p]) = laid ps ++ setNm p.1 p.2 := by simp [laid]
theorem laid_nil : laid [] = [] := rfl
theorem laid_cons (p : Pr) (ps : List Pr) : laid (p :: ps) = setNm p.1 p.2 ++ laid ps := by simp [laid]
theorem laid_append (ps qs : List Pr) : laid (ps ++ qs) = laid ps ++ laid qs := by simp [laid]
theorem laid_len (ps : List Pr) : (laid ps).length = (ps.map fun p => p.2.length).sum := by
  induction ps with
  | nil => rfl
  | cons p ps ih => 
    rw [laid_cons, List.length_append, ih, setNm_len]; simp
theorem laid_len' (L : List (List Nd)) : (laid (L.map fun l => ([], l))).length = (L.map List.length).sum := by
  rw [laid_len, List.map_map]; rfl

/-- Named parts, by their names. -/
def srt (ps : List Pr) : List Pr := ps.mergeSort (fun a b => decide (a.1 ≤ b.1))
def rises (ps : List Pr) : Prop := ps.Pairwise (fun a b => a.1 < b.1)
theorem le_of_not {a b : List UInt8} (h : ¬ b < a) : a ≤ b := List.not_lt.1 h
theorem lt_of_ne {a b : List UInt8} (h : ¬ b < a) (hne : a ≠ b) : a < b := by
  rcases Classical.em (a < b) with h1 | h1
  · exact h1
  · exact absurd (List.le_antisymm (le_of_not h) (le_of_not h1)) hne
theorem srt_of {ps qs : List Pr} (hp : ps.Perm qs) (hr : rises ps) : srt qs = ps := by
  have h1 : (srt qs).Perm ps := (List.mergeSort_perm qs _).trans hp.symm
  have h2 : (srt qs).Pairwise (fun a b => decide (a.1 ≤ b.1) = true) := List.pairwise_mergeSort
    (fun a b c h1 h2 => by simp only [decide_eq_true_eq] at *; exact List.le_trans h1 h2)
    (fun a b => by
      rcases List.le_total a.1 b.1 with h | h
      · simp [h]
      · simp [h]) qs
  have h3 : ps.Pairwise (fun a b => decide (a.1 ≤ b.1) = true) := hr.imp fun h => by simpa using List.le_of_lt h
  refine List.Perm.eq_of_pairwise (le := fun a b => decide (a.1 ≤ b.1) = true) ?_ h2 h3 h1
  intro a b ha hb h4 h5
  simp only [decide_eq_true_eq] at h4 h5
  have ha' : a ∈ ps := h1.mem_iff.1 ha
  have he : a.1 = b.1 := List.le_antisymm h4 h5
  have key : ∀ (l : List Pr), rises l → ∀ a ∈ l, ∀ b ∈ l, a.1 = b.1 → a = b := by
    intro l
    induction l with
    | nil => intro _ a ha; simp at ha
    | cons x l ih =>
      intro hr a ha b hb he
      obtain ⟨hx, hl⟩ := List.pairwise_cons.1 hr
      rcases List.mem_cons.1 ha with h1 | h1 <;> rcases List.mem_cons.1 hb with h2 | h2
      · rw [h1, h2]
      · have := hx b h2; rw [← he, h1] at this; exact absurd this (List.lt_irrefl _)
      · have := hx a h1; rw [he, h2] at this; exact absurd this (List.lt_irrefl _)
      · exact ih hl a h1 b h2 he
  exact key ps hr a ha' b hb he
/-- No two of the same, and all are text. -/
def okNames (names : List (List UInt8)) : Bool := decide names.Nodup && names.all vld
def objB (names : List (List UInt8)) (L : List (List Nd)) : Bool := decide (names.length = L.length) && okNames names
def objV (names : List (List UInt8)) (L : List (List Nd)) : List Nd := if objB names L = true then hdN 6 L.length :: laid (srt (names.zip L)) else []
def objE (names : List (List UInt8)) (L : List (List Nd)) : Int := if objB names L = true then 0 else 4

theorem strict : ∀ (q : List (List UInt8)), q.Pairwise (fun a b => ¬ b < a) → (∀ i a b, q[i]? = some a → q[i + 1]? = some b → a ≠ b) → q.Pairwise (· < ·)
  | [], _, _ => List.Pairwise.nil
  | [a], _, _ => by simp
  | a :: c :: q, h, hn => by
    obtain ⟨h1, h2⟩ := List.pairwise_cons.1 h
    have ih := strict (c :: q) h2 (fun i x y hx hy => hn (i + 1) x y (by simpa using hx) (by simpa using hy))
    obtain ⟨h3, h4⟩ := List.pairwise_cons.1 ih
    have hac : a < c := lt_of_ne (h1 c (by simp)) (hn 0 a c rfl rfl)
    refine List.pairwise_cons.2 ⟨fun b hb => ?_, ih⟩
    rcases List.mem_cons.1 hb with rfl | hb
    · exact hac
    · exact List.lt_trans hac (h3 b hb)

abbrev atN (names : List (List UInt8)) (j : Nat) : List UInt8 := names.getD j []
abbrev atL (L : List (List Nd)) (j : Nat) : List Nd := L.getD j []
theorem range_names (names : List (List UInt8)) : (List.range names.length).map (atN names) = names := by
  apply List.ext_getElem
  · simp
  · intro i h1 h2
    simp [atN, List.getD_eq_getElem?_getD, h2]
theorem range_zip (names : List (List UInt8)) (L : List (List Nd)) (h : names.length = L.length) : (List.range names.length).map (fun j => (atN names j, atL L j)) = names.zip L := by
  apply List.ext_getElem
  · simp [h]
  · intro i h1 h2
    simp at h1
    simp [atN, atL, List.getD_eq_getElem?_getD, h1, show i < L.length by omega]
/-- The places, so that the names rise. -/
structure Places (names : List (List UInt8)) (p : List Nat) : Prop where
  perm : p.Perm (List.range names.length)
  rise : p.Pairwise (fun i j => ¬ atN names j < atN names i)
theorem Places.length {names : List (List UInt8)} {p : List Nat} (h : Places names p) : p.length = names.length := by rw [h.perm.length_eq]; simp
theorem Places.lt {names : List (List UInt8)} {p : List Nat} (h : Places names p) {j : Nat} (hj : j ∈ p) : j < names.length := by simpa using h.perm.mem_iff.1 hj
theorem Places.names {names : List (List UInt8)} {p : List Nat} (h : Places names p) : (p.map (atN names)).Perm names := by
  have := h.perm.map (atN names)
  rwa [range_names] at this
theorem Places.same {names : List (List UInt8)} {p : List Nat} (h : Places names p) {k i j : Nat} (hi : p[k]? = some i) (hj : p[k + 1]? = some j) (he : atN names i = atN names j) : okNames names = false := by
  have : ¬ names.Nodup := fun hn => by
    have h2 := h.names.nodup_iff.2 hn
    have h3 : (p.map (atN names))[k]? = some (atN names i) := by rw [List.getElem?_map, hi]; rfl
    have h4 : (p.map (atN names))[k + 1]? = some (atN names j) := by rw [List.getElem?_map, hj]; rfl
    obtain ⟨l3, e3⟩ := List.getElem?_eq_some_iff.1 h3
    obtain ⟨l4, e4⟩ := List.getElem?_eq_some_iff.1 h4
    have h5 := List.pairwise_iff_getElem.1 h2 k (k + 1) l3 l4 (by omega)
    rw [e3, e4] at h5
    exact h5 he
  unfold okNames
  simp [this]
theorem Places.wrong {names : List (List UInt8)} {p : List Nat} (h : Places names p) {i : Nat} (hi : i ∈ p) (hv : vld (atN names i) = false) : okNames names = false := by
  unfold okNames
  have hlt := h.lt hi
  have : names.all vld = false := by
    rw [List.all_eq_false]
    refine ⟨atN names i, ?_, by rw [hv]; decide⟩
    rw [atN, List.getD_eq_getElem?_getD, List.getElem?_eq_getElem hlt]
    exact List.getElem_mem hlt
  simp [this]
theorem Places.good {names : List (List UInt8)} {p : List Nat} (h : Places names p) (hv : ∀ i ∈ p, vld (atN names i) = true) (hn : ∀ k i j, p[k]? = some i → p[k + 1]? = some j → atN names i ≠ atN names j) :
    okNames names = true ∧ (p.map (atN names)).Pairwise (· < ·) := by
  have hs : (p.map (atN names)).Pairwise (· < ·) := by
    refine strict _ (List.pairwise_map.2 h.rise) fun k a b ha hb => ?_
    rw [List.getElem?_map] at ha hb
    obtain ⟨i, hi, rfl⟩ := Option.map_eq_some_iff.1 ha
    obtain ⟨j, hj, rfl⟩ := Option.map_eq_some_iff.1 hb
    exact hn k i j hi hj
  refine ⟨?_, hs⟩
  unfold okNames
  rw [Bool.and_eq_true, decide_eq_true_eq]
  refine ⟨h.names.nodup_iff.1 (List.Pairwise.imp (R := (· < ·)) (fun {a b} hab (e : a = b) => by subst e; exact List.lt_irrefl a hab) hs), ?_⟩
  rw [List.all_eq_true]
  intro x hx
  obtain ⟨i, hi, rfl⟩ := List.mem_map.1 (h.names.mem_iff.2 hx)
  exact hv i hi
theorem Places.pairs {names : List (List UInt8)} {L : List (List Nd)} {p : List Nat} (h : Places names p) (hl : names.length = L.length) (hs : (p.map (atN names)).Pairwise (· < ·)) :
    srt (names.zip L) = p.map (fun j => (atN names j, atL L j)) := by
  refine srt_of ?_ (List.pairwise_map.2 (List.pairwise_map.1 hs))
  have := h.perm.map (fun j => (atN names j, atL L j))
  rwa [range_zip names L hl] at this
theorem sum_part {α : Type} (f : α → Nat) (p : List α) (k : Nat) : ((p.take k).map f).sum ≤ (p.map f).sum := by
  conv => rhs; rw [← List.take_append_drop k p]
  rw [List.map_append, List.sum_append]
  omega
theorem Places.sum {names : List (List UInt8)} {L : List (List Nd)} {p : List Nat} (h : Places names p) (hl : names.length = L.length) : (p.map fun x => (atL L x).length).sum = (L.map List.length).sum := by
  rw [(h.perm.map (fun x => (atL L x).length)).sum_nat, hl]
  congr 1
  apply List.ext_getElem
  · simp
  · intro i h1 h2
    simp at h1
    simp [atL, List.getD_eq_getElem?_getD, h1]
theorem Places.long {names : List (List UInt8)} {L : List (List Nd)} {p : List Nat} (h : Places names p) (hl : names.length = L.length) (k : Nat) : (laid ((p.take k).map fun x => (atN names x, atL L x))).length ≤ (L.map List.length).sum := by
  rw [laid_len, List.map_map]
  have := sum_part (fun x => (atL L x).length) p k
  rw [h.sum hl] at this
  exact this
end Go.Proofs.YtafbojiojeemoaaGreatDoor

/-
  Plain words: where an object's part of a name stands, by a walk along its parts. No program stands here.
-/
namespace Go.Proofs.YtafbojiojeemoaaGreatDoor
namespace Vp
open Go.RowKit Np Rw

/-- Where the part of that name begins, and where it ends; both the place where it would stand. -/
def findK (nm : List UInt8) : Nat → List (Tr Nd) → Nat × Nat
  | p, [] => (p, p)
  | p, t :: ts => if t.nd.name = nm then (p, p + (flat t).length) else if nm < t.nd.name then (p, p) else findK nm (p + (flat t).length) ts
def passes (nm : List UInt8) (t : Tr Nd) : Prop := t.nd.name ≠ nm ∧ ¬ nm < t.nd.name
theorem findK_pass {nm : List UInt8} : ∀ (ts us : List (Tr Nd)) (p : Nat), (∀ t ∈ ts, passes nm t) → findK nm p (ts ++ us) = findK nm (p + (flats ts).length) us
  | [], us, p, _ => by simp
  | t :: ts, us, p, h => by
    have h1 := h t (by simp)
    rw [List.cons_append, findK, if_neg h1.1, if_neg h1.2, findK_pass ts us _ (fun x hx => h x (by simp [hx])), flats_cons, List.length_append, Nat.add_assoc]
theorem findK_all {nm : List UInt8} {ts : List (Tr Nd)} {p : Nat} (h : ∀ t ∈ ts, passes nm t) : findK nm p ts = (p + (flats ts).length, p + (flats ts).length) := by
  have := findK_pass ts [] p h
  rw [List.append_nil] at this
  rw [this, findK]
theorem findK_hit {nm : List UInt8} {ts us : List (Tr Nd)} {t : Tr Nd} {p : Nat} (h : ∀ t ∈ ts, passes nm t) (ht : t.nd.name = nm) : findK nm p (ts ++ t :: us) = (p + (flats ts).length, p + (flats ts).length + (flat t).length) := by
  rw [findK_pass ts _ p h, findK, if_pos ht]
theorem findK_over {nm : List UInt8} {ts us : List (Tr Nd)} {t : Tr Nd} {p : Nat} (h : ∀ t ∈ ts, passes nm t) (ht : nm < t.nd.name) : findK nm p (ts ++ t :: us) = (p + (flats ts).length, p + (flats ts).length) := by
  rw [findK_pass ts _ p h, findK, if_neg (fun e => by rw [e] at ht; exact List.lt_irrefl _ ht), if_pos ht]
end Vp
end Go.Proofs.YtafbojiojeemoaaGreatDoor

/-
  Plain words: objects as trees: parts by their names; one with another part, or without one; what is right of them. No program stands here.
-/
namespace Go.Proofs.YtafbojiojeemoaaGreatDoor
namespace Vp
open Go.RowKit Np Rw

def nmN (nm : List UInt8) (n : Nd) : Nd := { n with name := nm }
def nmd (nm : List UInt8) (t : Tr Nd) : Tr Nd := .mk (nmN nm t.nd) t.ks
theorem nmd_nd (nm : List UInt8) (t : Tr Nd) : (nmd nm t).nd = nmN nm t.nd := rfl
theorem nmd_name (nm : List UInt8) (t : Tr Nd) : (nmd nm t).nd.name = nm := rfl
theorem nmd_ks (nm : List UInt8) (t : Tr Nd) : (nmd nm t).ks = t.ks := rfl
theorem nmd_self (t : Tr Nd) : nmd t.nd.name t = t := by cases t; rfl
theorem nmd_nmd (a b : List UInt8) (t : Tr Nd) : nmd a (nmd b t) = nmd a t := rfl
theorem flat_nmd (nm : List UInt8) (t : Tr Nd) : flat (nmd nm t) = setNm nm (flat t) := by rw [nmd, flat_mk, flat_eq t]; rfl
theorem flat_nmd_len (nm : List UInt8) (t : Tr Nd) : (flat (nmd nm t)).length = (flat t).length := by rw [flat_nmd, setNm_len]
theorem plainN_nm (nm : List UInt8) (n : Nd) : plainN (nmN nm n) = plainN n := by unfold plainN nmN; rfl
theorem okT_nmd {nm : List UInt8} {t : Tr Nd} (h : okT many t) : okT many (nmd nm t) := okT_mk.2 (okT_eq.1 h)
theorem rightT_nmd (nm : List UInt8) (t : Tr Nd) : rightT (nmd nm t) = rightT t := by rw [nmd, rightT_mk, rightT_eq, plainN_nm]; rfl
theorem Val.clr {u : Tr Nd} (h1 : okT many u) (h2 : rightT u = true) : Val (nmd [] u) := ⟨okT_nmd h1, by rw [rightT_nmd]; exact h2, rfl⟩
theorem nmd_val {t : Tr Nd} (h : Val t) (nm : List UInt8) : nmd [] (nmd nm t) = t := by
  rw [nmd_nmd]; conv => rhs; rw [← nmd_self t, h.nm]

/-- Names that rise, of parts. -/
def Rise (ts : List (Tr Nd)) : Prop := ts.Pairwise (fun a b => a.nd.name < b.nd.name)
def Named (ts : List (Tr Nd)) : Prop := Rise ts ∧ ∀ t ∈ ts, vld t.nd.name = true
theorem nameOk_six (t : Tr Nd) : nameOk 6 t = vld t.nd.name := by simp [nameOk]
theorem rising_named : ∀ ts : List (Tr Nd), rising 6 ts = true ↔ Named ts
  | [] => by simp [rising, Named, Rise]
  | [t] => by simp [rising, Named, Rise, nameOk_six]
  | t :: u :: ts => by
    have ih := rising_named (u :: ts)
    rw [rising, Bool.and_eq_true, Bool.and_eq_true, nameOk_six, ih]
    unfold Named Rise
    rw [List.pairwise_cons (l := u :: ts)]
    constructor
    · rintro ⟨⟨h1, h2⟩, h3, h4⟩
      have h2' : t.nd.name < u.nd.name := by simpa using h2
      refine ⟨⟨fun b hb => ?_, h3⟩, fun x hx => ?_⟩
      · rcases List.mem_cons.1 hb with rfl | hb
        · exact h2'
        · exact List.lt_trans h2' ((List.pairwise_cons.1 h3).1 b hb)
      · rcases List.mem_cons.1 hx with rfl | hx
        · exact h1
        · exact h4 x hx
    · rintro ⟨⟨h1, h2⟩, h3⟩
      exact ⟨⟨h3 t (by simp), by simpa using h1 u (by simp)⟩, h2, fun x hx => h3 x (by simp [hx])⟩

theorem plainN_hd (n : Nat) : plainN (hdN 6 n) = true := by simp [plainN, hdN]
theorem plainN_hd5 (n : Nat) : plainN (hdN 5 n) = true := by simp [plainN, hdN]
def Parts (ts : List (Tr Nd)) : Prop := ∀ t ∈ ts, okT many t ∧ rightT t = true
/-- An object of named parts. -/
def objT (ts : List (Tr Nd)) : Tr Nd := .mk (hdN 6 ts.length) ts
def arrT (ts : List (Tr Nd)) : Tr Nd := .mk (hdN 5 ts.length) ts
theorem flat_objT (ts : List (Tr Nd)) : flat (objT ts) = hdN 6 ts.length :: flats ts := flat_mk _ _
theorem flat_arrT (ts : List (Tr Nd)) : flat (arrT ts) = hdN 5 ts.length :: flats ts := flat_mk _ _
theorem val_objT {ts : List (Tr Nd)} (hp : Parts ts) (hn : Named ts) : Val (objT ts) := by
  refine ⟨okT_mk.2 ⟨rfl, okTs_all.2 fun t ht => (hp t ht).1⟩, ?_, rfl⟩
  rw [objT, rightT_mk, plainN_hd, Bool.true_and]
  show rightKs 6 false [] ts = true
  rw [rightKs_obj, (rising_named ts).2 hn, Bool.true_and, List.all_eq_true]
  exact fun t ht => (hp t ht).2
theorem rising_five : ∀ ts : List (Tr Nd), (∀ t ∈ ts, t.nd.name = []) → rising 5 ts = true
  | [], _ => rfl
  | [t], h => by rw [rising, nameOk, h t (by simp)]; rfl
  | t :: u :: ts, h => by
    rw [rising, nameOk, h t (by simp), rising_five (u :: ts) (fun x hx => h x (by simp [hx]))]; rfl
theorem five_rising : ∀ ts : List (Tr Nd), rising 5 ts = true → ∀ t ∈ ts, t.nd.name = []
  | [], _, t, ht => by simp at ht
  | [u], h, t, ht => by
    simp at ht; subst ht
    simp [rising, nameOk] at h; exact h.1
  | u :: x :: ts, h, t, ht => by
    rw [rising, Bool.and_eq_true, Bool.and_eq_true] at h
    rcases List.mem_cons.1 ht with rfl | ht
    · have := h.1.1; simp [nameOk] at this; exact this.1
    · exact five_rising (x :: ts) h.2 t ht
theorem val_arrT {ts : List (Tr Nd)} (hp : ∀ t ∈ ts, Val t) : Val (arrT ts) := by
  refine ⟨okT_mk.2 ⟨rfl, okTs_all.2 fun t ht => (hp t ht).ok⟩, ?_, rfl⟩
  rw [arrT, rightT_mk, plainN_hd5, Bool.true_and]
  show rightKs 5 false [] ts = true
  rw [rightKs_arr, rising_five ts (fun t ht => (hp t ht).nm), Bool.true_and, List.all_eq_true]
  exact fun t ht => (hp t ht).rt
/-- What an object is. -/
theorem Val.parts {t : Tr Nd} (h : Val t) : Parts t.ks := val_kids h
theorem Val.plain {t : Tr Nd} (h : Val t) : plainN t.nd = true := by
  have := h.rt; rw [rightT_eq, Bool.and_eq_true] at this; exact this.1
theorem Val.named {t : Tr Nd} (h : Val t) (hk : t.nd.kind = 6) : Named t.ks := by
  have := h.rt
  rw [rightT_eq, Bool.and_eq_true, hk, rightKs_obj, Bool.and_eq_true] at this
  exact (rising_named _).1 this.2.1
theorem Val.unnamed {t : Tr Nd} (h : Val t) (hk : t.nd.kind = 5) : ∀ u ∈ t.ks, u.nd.name = [] := by
  have := h.rt
  rw [rightT_eq, Bool.and_eq_true, hk, rightKs_arr, Bool.and_eq_true] at this
  exact five_rising _ this.2.1
theorem Val.hd {t : Tr Nd} (h : Val t) (hk : t.nd.kind = 5 ∨ t.nd.kind = 6) : t.nd = hdN t.nd.kind t.ks.length := by
  have h1 := h.plain
  have h2 := (okT_eq.1 h.ok).1
  have h3 := h.nm
  obtain ⟨⟨k, m, nm, s, g, e⟩, ks⟩ := t
  simp only [Tr.nd_mk, Tr.ks_mk] at *
  unfold plainN at h1
  simp only at h1 h2 h3
  rw [if_neg (by omega), if_neg (by omega), if_neg (by omega), if_pos hk] at h1
  simp at h1
  obtain ⟨⟨⟨h4, h5⟩, h6⟩, h7⟩ := h1
  have h8 : m = ks.length := h2
  subst h3 h5 h6 h7 h8
  rfl
theorem Val.obj {t : Tr Nd} (h : Val t) (hk : t.nd.kind = 6) : t = objT t.ks := by
  have := h.hd (.inr hk)
  rw [hk] at this
  rw [objT, ← this]; exact Tr.eta t
theorem Val.arr {t : Tr Nd} (h : Val t) (hk : t.nd.kind = 5) : t = arrT t.ks := by
  have := h.hd (.inl hk)
  rw [hk] at this
  rw [arrT, ← this]; exact Tr.eta t
theorem Val.leaf {t : Tr Nd} (h : Val t) (h5 : t.nd.kind ≠ 5) (h6 : t.nd.kind ≠ 6) : t.ks = [] := by
  have h1 := (plainN_many h.plain).2 h5 h6
  have h2 : t.nd.many = t.ks.length := (okT_eq.1 h.ok).1
  exact List.eq_nil_of_length_eq_zero (by omega)

/-- Parts ahead of a name, of it, and behind it. -/
structure Cut (nm : List UInt8) (ts pre mid post : List (Tr Nd)) : Prop where
  all : ts = pre ++ (mid ++ post)
  lo : ∀ u ∈ pre, u.nd.name < nm
  eq : ∀ u ∈ mid, u.nd.name = nm
  one : mid.length ≤ 1
  hi : ∀ u ∈ post, nm < u.nd.name
theorem cut_ex (nm : List UInt8) : ∀ ts : List (Tr Nd), Rise ts → ∃ pre mid post, Cut nm ts pre mid post
  | [], _ => ⟨[], [], [], rfl, by simp, by simp, by simp, by simp⟩
  | t :: ts, h => by
    obtain ⟨h1, h2⟩ := List.pairwise_cons.1 h
    by_cases he : t.nd.name = nm
    · exact ⟨[], [t], ts, rfl, by simp, by simpa using he, by simp, fun u hu => he ▸ h1 u hu⟩
    · by_cases hl : nm < t.nd.name
      · refine ⟨[], [], t :: ts, rfl, by simp, by simp, by simp, fun u hu => ?_⟩
        rcases List.mem_cons.1 hu with rfl | hu
        · exact hl
        · exact List.lt_trans hl (h1 u hu)
      · obtain ⟨pre, mid, post, hc⟩ := cut_ex nm ts h2
        refine ⟨t :: pre, mid, post, by rw [hc.all]; rfl, fun u hu => ?_, hc.eq, hc.one, hc.hi⟩
        rcases List.mem_cons.1 hu with rfl | hu
        · exact lt_of_ne hl he
        · exact hc.lo u hu
theorem Cut.find {nm : List UInt8} {ts pre mid post : List (Tr Nd)} (h : Cut nm ts pre mid post) (p : Nat) : findK nm p ts = (p + (flats pre).length, p + (flats pre).length + (flats mid).length) := by
  have hp : ∀ t ∈ pre, passes nm t := fun t ht => ⟨fun e => List.lt_irrefl _ (e ▸ h.lo t ht), fun h' => List.lt_irrefl _ (List.lt_trans h' (h.lo t ht))⟩
  rw [h.all]
  rcases mid with _ | ⟨m, mid⟩
  · rw [List.nil_append]
    rcases post with _ | ⟨q, post⟩
    · rw [List.append_nil, findK_all hp]; simp
    · rw [findK_over hp (h.hi q (by simp))]; simp
  · have : mid = [] := List.eq_nil_of_length_eq_zero (by have := h.one; simp at this; simp [this])
    subst this
    rw [List.cons_append, findK_hit hp (h.eq m (by simp))]; simp

theorem rise_put {nm : List UInt8} {pre mid post : List (Tr Nd)} (h1 : Rise pre) (h2 : Rise post) (h3 : ∀ u ∈ pre, u.nd.name < nm) (h4 : ∀ u ∈ post, nm < u.nd.name) (h5 : ∀ u ∈ mid, u.nd.name = nm) (h6 : mid.length ≤ 1) : Rise (pre ++ (mid ++ post)) := by
  unfold Rise at *
  rw [List.pairwise_append, List.pairwise_append]
  refine ⟨h1, ⟨?_, h2, fun a ha b hb => by rw [h5 a ha]; exact h4 b hb⟩, fun a ha b hb => ?_⟩
  · rcases mid with _ | ⟨m, mid⟩
    · simp
    · have : mid = [] := List.eq_nil_of_length_eq_zero (by simp at h6; simp [h6])
      subst this; simp
  · rcases List.mem_append.1 hb with hb | hb
    · rw [h5 b hb]; exact h3 a ha
    · exact List.lt_trans (h3 a ha) (h4 b hb)
theorem Rise.split {a b : List (Tr Nd)} (h : Rise (a ++ b)) : Rise a ∧ Rise b := by
  obtain ⟨h1, h2, -⟩ := List.pairwise_append.1 h; exact ⟨h1, h2⟩
theorem Cut.pre_rise {nm : List UInt8} {ts pre mid post : List (Tr Nd)} (h : Cut nm ts pre mid post) (hr : Rise ts) : Rise pre := by rw [h.all] at hr; exact hr.split.1
theorem Cut.post_rise {nm : List UInt8} {ts pre mid post : List (Tr Nd)} (h : Cut nm ts pre mid post) (hr : Rise ts) : Rise post := by rw [h.all] at hr; exact hr.split.2.split.2
/-- A cut is the only one. -/
theorem Cut.uniq {nm : List UInt8} {ts pre mid post pre' mid' post' : List (Tr Nd)} (h : Cut nm ts pre mid post) (h' : Cut nm ts pre' mid' post') : pre = pre' ∧ mid = mid' ∧ post = post' := by
  have key : ∀ {pre mid post : List (Tr Nd)}, Cut nm ts pre mid post → pre = ts.filter (fun u => decide (u.nd.name < nm)) ∧ mid = ts.filter (fun u => decide (u.nd.name = nm)) ∧ post = ts.filter (fun u => decide (nm < u.nd.name)) := by
    intro pre mid post h
    have e1 : ∀ (p : Tr Nd → Bool) (l : List (Tr Nd)), (∀ u ∈ l, p u = true) → l.filter p = l := fun p l h => List.filter_eq_self.2 h
    have e2 : ∀ (p : Tr Nd → Bool) (l : List (Tr Nd)), (∀ u ∈ l, p u = false) → l.filter p = [] := fun p l h => List.filter_eq_nil_iff.2 (fun u hu => by simp [h u hu])
    have hlt : ∀ {a b : List UInt8}, a < b → ¬ b < a := fun h1 h2 => List.lt_irrefl _ (List.lt_trans h1 h2)
    have hne : ∀ {a b : List UInt8}, a < b → ¬ a = b := fun h1 h2 => List.lt_irrefl _ (h2 ▸ h1)
    rw [h.all]
    simp only [List.filter_append]
    refine ⟨?_, ?_, ?_⟩
    · rw [e1 _ pre (fun u hu => by simpa using h.lo u hu), e2 _ mid (fun u hu => by simp [h.eq u hu, List.lt_irrefl]), e2 _ post (fun u hu => by simpa using hlt (h.hi u hu))]; simp
    · rw [e2 _ pre (fun u hu => by simpa using hne (h.lo u hu)), e1 _ mid (fun u hu => by simpa using h.eq u hu), e2 _ post (fun u hu => by simpa using fun e => hne (h.hi u hu) e.symm)]; simp
    · rw [e2 _ pre (fun u hu => by simpa using hlt (h.lo u hu)), e2 _ mid (fun u hu => by simp [h.eq u hu, List.lt_irrefl]), e1 _ post (fun u hu => by simpa using h.hi u hu)]; simp
  obtain ⟨a1, a2, a3⟩ := key h
  obtain ⟨b1, b2, b3⟩ := key h'
  exact ⟨a1.trans b1.symm, a2.trans b2.symm, a3.trans b3.symm⟩
end Vp
end Go.Proofs.YtafbojiojeemoaaGreatDoor

/-
  Plain words: an object hangs on no order of its names and parts; with a name twice there is none; what it is, as a tree. No program stands here.
-/
namespace Go.Proofs.YtafbojiojeemoaaGreatDoor
open Go.RowKit Np Rw Vp

theorem srt_perm_self (ps : List Pr) : (srt ps).Perm ps := List.mergeSort_perm ps _
theorem keys_nodup_rises : ∀ (ps : List Pr), ps.Pairwise (fun a b => decide (a.1 ≤ b.1) = true) → (ps.map (·.1)).Nodup → rises ps
  | [], _, _ => List.Pairwise.nil
  | a :: ps, h1, h2 => by
    obtain ⟨h3, h4⟩ := List.pairwise_cons.1 h1
    rw [List.map_cons, List.nodup_cons] at h2
    refine List.pairwise_cons.2 ⟨fun b hb => ?_, keys_nodup_rises ps h4 h2.2⟩
    have h5 : a.1 ≤ b.1 := by simpa using h3 b hb
    exact lt_of_ne (List.not_lt.2 h5) (fun e => h2.1 (by rw [e]; exact List.mem_map_of_mem hb))
theorem srt_rises {ps : List Pr} (h : (ps.map (·.1)).Nodup) : rises (srt ps) := by
  refine keys_nodup_rises _ ?_ (((srt_perm_self ps).map _).nodup_iff.2 h)
  exact List.pairwise_mergeSort
    (fun a b c h1 h2 => by simp only [decide_eq_true_eq] at *; exact List.le_trans h1 h2)
    (fun a b => by
      rcases List.le_total a.1 b.1 with h | h
      · simp [h]
      · simp [h]) ps
theorem srt_perm {ps qs : List Pr} (hp : ps.Perm qs) (h : (ps.map (·.1)).Nodup) : srt ps = srt qs :=
  (srt_of ((srt_perm_self ps).trans hp) (srt_rises h)).symm
theorem zip_keys {names : List (List UInt8)} {L : List (List Nd)} (h : names.length = L.length) : (names.zip L).map (·.1) = names := by
  rw [List.map_fst_zip]; omega
theorem objB_iff {names : List (List UInt8)} {L : List (List Nd)} : objB names L = true ↔ names.length = L.length ∧ names.Nodup ∧ ∀ s ∈ names, vld s = true := by
  simp [objB, okNames]
theorem objB_reverse (names : List (List UInt8)) (L : List (List Nd)) : objB names.reverse L.reverse = objB names L := by
  rw [Bool.eq_iff_iff, objB_iff, objB_iff, (List.reverse_perm names).nodup_iff]
  simp
theorem zip_rev (names : List (List UInt8)) (L : List (List Nd)) (h : names.length = L.length) : names.reverse.zip L.reverse = (names.zip L).reverse := by
  apply List.ext_getElem
  · simp
  · intro i h1 h2
    simp [h]
theorem objV_reverse (names : List (List UInt8)) (L : List (List Nd)) : objV names.reverse L.reverse = objV names L := by
  rw [objV, objV, objB_reverse]
  split
  · rename_i h
    obtain ⟨h1, h2, -⟩ := objB_iff.1 h
    rw [List.length_reverse, ← srt_perm (ps := names.zip L) (qs := names.reverse.zip L.reverse) _ (by rw [zip_keys h1]; exact h2)]
    rw [zip_rev _ _ h1]
    exact (List.reverse_perm _).symm
  · rfl
theorem objE_reverse (names : List (List UInt8)) (L : List (List Nd)) : objE names.reverse L.reverse = objE names L := by rw [objE, objE, objB_reverse]
theorem objE_twice (names : List (List UInt8)) (L : List (List Nd)) (a : List UInt8) (ha : a ∈ names) : objE (names ++ [a]) L = 4 := by
  have : objB (names ++ [a]) L = false := by
    cases h : objB (names ++ [a]) L
    · rfl
    · have h2 := (objB_iff.1 h).2.1
      rw [List.nodup_append] at h2
      exact absurd rfl (h2.2.2 a ha a (by simp))
  rw [objE, this]; rfl
theorem objE_cases (names : List (List UInt8)) (L : List (List Nd)) : objB names L = true ∧ objE names L = 0 ∨ objB names L = false ∧ objE names L = 4 := by
  cases h : objB names L <;> simp [objE, h]
theorem objV_bad {names : List (List UInt8)} {L : List (List Nd)} (h : objB names L = false) : objV names L = [] := by rw [objV, h]; rfl
theorem objV_len {names : List (List UInt8)} {L : List (List Nd)} (h : objB names L = true) : (objV names L).length = 1 + (L.map List.length).sum := by
  rw [objV, if_pos h, List.length_cons, laid_len]
  have h1 := (objB_iff.1 h).1
  rw [((srt_perm_self (names.zip L)).map (fun p : Pr => p.2.length)).sum_nat]
  have : (names.zip L).map (fun p : Pr => p.2.length) = L.map List.length := by
    rw [show (fun p : Pr => p.2.length) = List.length ∘ Prod.snd from rfl, ← List.map_map, List.map_snd_zip (by omega)]
  rw [this]; omega

namespace Vp
theorem laid_trees : ∀ ps : List Pr, (∀ p ∈ ps, rightL p.2 = true) → ∃ us, Parts us ∧ us.map (fun u => u.nd.name) = ps.map (·.1) ∧ laid ps = flats us ∧ us.map (fun u => flat (nmd [] u)) = ps.map (·.2)
  | [], _ => ⟨[], by intro t ht; simp at ht, rfl, rfl, rfl⟩
  | p :: ps, h => by
    obtain ⟨us, h1, h2, h3, h4⟩ := laid_trees ps (fun q hq => h q (by simp [hq]))
    obtain ⟨t, ht, he⟩ := val_of_rightL (h p (by simp))
    refine ⟨nmd p.1 t :: us, ?_, by rw [List.map_cons, List.map_cons, h2]; rfl, by rw [laid_cons, flats_cons, flat_nmd, ← he, h3], by rw [List.map_cons, List.map_cons, h4, nmd_val ht, he]⟩
    intro u hu
    rcases List.mem_cons.1 hu with rfl | hu
    · exact ⟨okT_nmd ht.ok, by rw [rightT_nmd]; exact ht.rt⟩
    · exact h1 u hu
theorem objV_tree {names : List (List UInt8)} {L : List (List Nd)} (h : objB names L = true) (hr : ∀ l ∈ L, rightL l = true) :
    ∃ us, Val (objT us) ∧ flat (objT us) = objV names L ∧ us.length = L.length ∧ us.map (fun u => u.nd.name) = (srt (names.zip L)).map (·.1) ∧ us.map (fun u => flat (nmd [] u)) = (srt (names.zip L)).map (·.2) := by
  obtain ⟨h1, h2, h3⟩ := objB_iff.1 h
  obtain ⟨us, h4, h5, h6, h7⟩ := laid_trees (srt (names.zip L)) (fun p hp => by
    have := (srt_perm_self _).mem_iff.1 hp
    exact hr _ (List.of_mem_zip (a := p.1) (b := p.2) this).2)
  have hl : us.length = L.length := by
    have := congrArg List.length h5
    rw [List.length_map, List.length_map, (srt_perm_self _).length_eq, List.length_zip] at this
    omega
  refine ⟨us, val_objT h4 ⟨?_, ?_⟩, by rw [flat_objT, objV, if_pos h, h6, hl], hl, h5, h7⟩
  · have h8 : (us.map (fun u => u.nd.name)).Pairwise (· < ·) := by
      rw [h5]
      exact List.pairwise_map.2 (srt_rises (by rw [zip_keys h1]; exact h2))
    exact List.pairwise_map.1 h8
  · intro t ht
    have h9 : t.nd.name ∈ us.map (fun u => u.nd.name) := List.mem_map_of_mem (f := fun u : Tr Nd => u.nd.name) ht
    rw [h5] at h9
    obtain ⟨p, hp, he⟩ := List.mem_map.1 h9
    rw [← he]
    have := (srt_perm_self _).mem_iff.1 hp
    exact h3 _ (List.of_mem_zip (a := p.1) (b := p.2) this).1
end Vp
end Go.Proofs.YtafbojiojeemoaaGreatDoor

/-
  Plain words on numbers that are written: the number that a text is written as. No program stands here.
-/
namespace Go.Proofs.YtafbojiojeemoaaGreatDoor
namespace Np
open Go.RowKit

/-- The number that a text is written as, where it can't go on, and how that ends. -/
def powOf (r : Wr) : Int := if r.down = true then -(worth (Lib.trimLeftB r.power 48) : Int) else (worth (Lib.trimLeftB r.power 48) : Int)
def mkW (r : Wr) : Nd × Int := mk r.neg (r.whole ++ r.part) (powOf r - r.part.length)
def readF (l : List UInt8) : Nd × Int × Int :=
  if (scanF l).2.2 = false then (nd0, (scanF l).2.1, 1) else if 6 < (Lib.trimLeftB (scanF l).1.power 48).length then (nd0, 0, 2) else ((mkW (scanF l).1).1, 0, (mkW (scanF l).1).2)
theorem scanF_figs (l : List UInt8) : figs (scanF l).1.whole = true ∧ figs (scanF l).1.part = true ∧ figs (scanF l).1.power = true := by
  unfold scanF
  split
  · exact ⟨rfl, rfl, rfl⟩
  split
  · exact ⟨rfl, rfl, rfl⟩
  split
  · exact ⟨rfl, rfl, rfl⟩
  refine ⟨?_, ?_, ?_⟩
  · show figs (wholeF l) = true
    unfold wholeF; split
    · rfl
    · exact run_figs _ _
  · show figs (partF l) = true
    unfold partF; split
    · exact run_figs _ _
    · rfl
  · show figs (powF l) = true
    unfold powF; split
    · exact run_figs _ _
    · rfl
theorem run_len (l : List UInt8) (i : Nat) : (run l i).length ≤ l.length := by
  have := (List.takeWhile_sublist fig (l := l.drop i)).length_le
  simp only [List.length_drop] at this
  unfold run; omega
theorem scanF_len (l : List UInt8) : (scanF l).1.whole.length ≤ l.length ∧ (scanF l).1.part.length ≤ l.length ∧ (scanF l).1.power.length ≤ l.length := by
  unfold scanF
  split
  · exact ⟨Nat.zero_le _, Nat.zero_le _, Nat.zero_le _⟩
  split
  · exact ⟨Nat.zero_le _, Nat.zero_le _, Nat.zero_le _⟩
  split
  · exact ⟨Nat.zero_le _, Nat.zero_le _, Nat.zero_le _⟩
  refine ⟨?_, ?_, ?_⟩
  · show (wholeF l).length ≤ _
    unfold wholeF; split
    · exact Nat.zero_le _
    · exact run_len _ _
  · show (partF l).length ≤ _
    unfold partF; split
    · exact run_len _ _
    · exact Nat.zero_le _
  · show (powF l).length ≤ _
    unfold powF; split
    · exact run_len _ _
    · exact Nat.zero_le _
theorem figs_trimLeft {l : List UInt8} (h : figs l = true) : figs (Lib.trimLeftB l 48) = true := by
  rw [figs, List.all_eq_true] at h ⊢
  exact fun x hx => h x ((List.dropWhile_suffix _).subset hx)

theorem readF_form {l : List UInt8} {r : Wr} {i : Nat} (h : scanF l = (r, i, false)) : readF l = (nd0, (i : Int), 1) := by rw [readF, h]; rfl
theorem readF_large {l : List UInt8} {r : Wr} {i : Nat} (h : scanF l = (r, i, true)) (h6 : 6 < (Lib.trimLeftB r.power 48).length) : readF l = (nd0, 0, 2) := by
  rw [readF, h, if_neg (by simp), if_pos h6]
theorem readF_ok {l : List UInt8} {r : Wr} {i : Nat} (h : scanF l = (r, i, true)) (h6 : ¬ 6 < (Lib.trimLeftB r.power 48).length) : readF l = ((mkW r).1, 0, (mkW r).2) := by
  rw [readF, h, if_neg (by simp), if_neg h6]

end Np
end Go.Proofs.YtafbojiojeemoaaGreatDoor

/-
  Plain words: the value that a text is written as, read from left to right; where it can't go on, and why. No program stands here.
-/
namespace Go.Proofs.YtafbojiojeemoaaGreatDoor
namespace Tp
open Go.RowKit Np Rw Vp Up Qp

/-- What was read, and the place behind it; or why it can't go on, and where. -/
inductive Rs (α : Type) where
  | ok (v : α) (p : Nat)
  | bad (e : Int) (p : Nat)
deriving DecidableEq

def blk (c : Nat) : Bool := decide (c = 32) || decide (c = 9) || decide (c = 10) || decide (c = 13)
def skF : List UInt8 → Nat → Nat
  | [], i => i
  | c :: l, i => if blk c.toNat = true then skF l (i + 1) else i
/-- The place behind blanks. -/
def sk (S : List UInt8) (i : Nat) : Nat := skF (S.drop i) i
def numB : List UInt8 := [48, 49, 50, 51, 52, 53, 54, 55, 56, 57, 43, 45, 46, 101, 69]
/-- What a number's bytes are, from a place on. -/
def nuT (S : List UInt8) (i : Nat) : List UInt8 := (S.drop i).takeWhile (numB.contains ·)
def nuR (S : List UInt8) (i : Nat) : Rs (List Nd) :=
  if (readF (nuT S i)).2.2 = 0 then .ok [(readF (nuT S i)).1] (i + (nuT S i).length) else .bad (readF (nuT S i)).2.2 (i + (readF (nuT S i)).2.1.toNat)
def stR (S : List UInt8) (i : Nat) : Rs (List UInt8) :=
  if (unqs (S.drop i)).2.2 = 0 then .ok (unqs (S.drop i)).1 (i + (unqs (S.drop i)).2.1) else .bad (unqs (S.drop i)).2.2 (i + (unqs (S.drop i)).2.1)
def wNull : List UInt8 := [110, 117, 108, 108]
def wFalse : List UInt8 := [102, 97, 108, 115, 101]
def wTrue : List UInt8 := [116, 114, 117, 101]
def woR (S : List UInt8) (i : Nat) : Rs (List Nd) :=
  if Lib.hasPrefix (S.drop i) wNull = true then .ok [hdN 0 0] (i + 4)
  else if Lib.hasPrefix (S.drop i) wFalse = true then .ok [hdN 1 0] (i + 5)
  else if Lib.hasPrefix (S.drop i) wTrue = true then .ok [hdN 2 0] (i + 4)
  else .bad 1 i
/-- Parts, one behind the other, up to a mark. -/
def lpR {α β : Type} (rd : Nat → Rs α) (put : β → α → β) (S : List UInt8) (c : Nat) : Nat → Nat → β → Rs β
  | 0, i, _ => .bad 0 i
  | m + 1, i, acc => match rd i with
    | .bad e p => .bad e p
    | .ok v k => if bt S (sk S k) = c then .ok (put acc v) (sk S k + 1) else if bt S (sk S k) = 44 then lpR rd put S c m (sk S k + 1) (put acc v) else .bad 1 (sk S k)
/-- What stands behind the first mark, which stands at a place. -/
def ptR {α β : Type} (rd : Nat → Rs α) (put : β → α → β) (zero : β) (S : List UInt8) (c j : Nat) : Rs β :=
  if bt S (sk S (j + 1)) = c then .ok zero (sk S (j + 1) + 1) else lpR rd put S c (S.length + 1) (sk S (j + 1)) zero
/-- A field. -/
def fdR (rd : Nat → Rs (List Nd)) (S : List UInt8) (i : Nat) : Rs Pr :=
  match stR S (sk S i) with
  | .bad e p => .bad e p
  | .ok nm k => if bt S (sk S k) = 58 then (match rd (sk S k + 1) with
    | .bad e p => .bad e p
    | .ok v k2 => .ok (nm, v) k2) else .bad 1 (sk S k)
def snoc (acc : List (List Nd)) (v : List Nd) : List (List Nd) := acc ++ [v]
/-- Of one name the last one counts, where the first one stood. -/
def putP (acc : List Pr) (p : Pr) : List Pr := if p.1 ∈ acc.map (·.1) then acc.map (fun q => if q.1 = p.1 then p else q) else acc ++ [p]
def mapR {α β : Type} (f : α → β) : Rs α → Rs β
  | .ok v k => .ok (f v) k
  | .bad e p => .bad e p
def liV (L : List (List Nd)) : List Nd := hdN 5 L.length :: laid (L.map fun l => ([], l))
def obV (ps : List Pr) : List Nd := objV (ps.map (·.1)) (ps.map (·.2))
def strV (s : List UInt8) : List Nd := [⟨4, 0, [], s, false, 0⟩]
/-- What stands at a place that is no blank, but for lists and objects. -/
def vl1 (S : List UInt8) (arr obj : Nat → Rs (List Nd)) (j : Nat) : Rs (List Nd) :=
  if bt S j = 91 then arr j else if bt S j = 123 then obj j else if bt S j = 34 then mapR strV (stR S j)
  else if bt S j = 45 ∨ 48 ≤ bt S j ∧ bt S j ≤ 57 then nuR S j else woR S j
/-- A value from a place on, in which so many may be, one in the other. -/
def vlR (S : List UInt8) : Nat → Nat → Rs (List Nd)
  | 0, i => vl1 S (fun j => .bad 3 j) (fun j => .bad 3 j) (sk S i)
  | n + 1, i => vl1 S (fun j => mapR liV (ptR (vlR S n) snoc [] S 93 j)) (fun j => mapR obV (ptR (fdR (vlR S n) S) putP [] S 125 j)) (sk S i)
/-- D1. -/
def prsR (S : List UInt8) : List Nd × Nat × Int :=
  match vlR S 128 0 with
  | .bad e p => ([], p, e)
  | .ok v k => if sk S k < S.length then ([], sk S k, 1) else (v, 0, 0)

theorem vlR_zero (S : List UInt8) (i : Nat) : vlR S 0 i = vl1 S (fun j => .bad 3 j) (fun j => .bad 3 j) (sk S i) := rfl
theorem vlR_succ (S : List UInt8) (n i : Nat) : vlR S (n + 1) i = vl1 S (fun j => mapR liV (ptR (vlR S n) snoc [] S 93 j)) (fun j => mapR obV (ptR (fdR (vlR S n) S) putP [] S 125 j)) (sk S i) := rfl

/-! ### blanks -/
theorem skF_ge : ∀ (l : List UInt8) (i : Nat), i ≤ skF l i ∧ skF l i ≤ i + l.length
  | [], i => by simp [skF]
  | c :: l, i => by
    unfold skF
    split
    · have := skF_ge l (i + 1); rw [List.length_cons]; omega
    · rw [List.length_cons]; omega
theorem sk_ge (S : List UInt8) (i : Nat) : i ≤ sk S i := (skF_ge _ _).1
theorem sk_le {S : List UInt8} {i : Nat} (h : i ≤ S.length) : sk S i ≤ S.length := by
  have := (skF_ge (S.drop i) i).2
  rw [List.length_drop] at this
  unfold sk; omega
theorem sk_over {S : List UInt8} {i : Nat} (h : S.length ≤ i) : sk S i = i := by
  unfold sk; rw [List.drop_eq_nil_of_le h]; rfl
theorem sk_blk {S : List UInt8} {i : Nat} (h : i < S.length) (hb : blk (bt S i) = true) : sk S i = sk S (i + 1) := by
  have e : S.drop i = S[i] :: S.drop (i + 1) := by rw [List.getElem_cons_drop h]
  have e2 : bt S i = S[i].toNat := by simp [bt, List.getD_eq_getElem?_getD, List.getElem?_eq_getElem h]
  rw [sk, e, skF, if_pos (by rw [← e2]; exact hb)]; rfl
theorem sk_not {S : List UInt8} {i : Nat} (hb : blk (bt S i) = false) : sk S i = i := by
  rcases Nat.lt_or_ge i S.length with h | h
  · have e : S.drop i = S[i] :: S.drop (i + 1) := by rw [List.getElem_cons_drop h]
    have e2 : bt S i = S[i].toNat := by simp [bt, List.getD_eq_getElem?_getD, List.getElem?_eq_getElem h]
    rw [sk, e, skF, if_neg (by rw [← e2, hb]; decide)]
  · exact sk_over h
theorem blk_zero : blk 0 = false := by decide
theorem skF_not : ∀ (l : List UInt8) (i : Nat), blk (bt l (skF l i - i)) = false
  | [], i => by simp [skF, bt]; decide
  | c :: l, i => by
    unfold skF
    split
    · have h1 := skF_not l (i + 1)
      have h2 := (skF_ge l (i + 1)).1
      rw [show skF l (i + 1) - i = (skF l (i + 1) - (i + 1)) + 1 by omega, bt_succ]
      exact h1
    · rename_i h
      rw [Nat.sub_self, bt_cons]
      simpa using h
theorem sk_stop (S : List UInt8) (i : Nat) : blk (bt S (sk S i)) = false := by
  have h1 := skF_not (S.drop i) i
  have h2 := sk_ge S i
  rw [bt_drop] at h1
  rw [show sk S i = i + (skF (S.drop i) i - i) by unfold sk at h2 ⊢; omega]
  exact h1
theorem sk_sk (S : List UInt8) (i : Nat) : sk S (sk S i) = sk S i := sk_not (sk_stop S i)
theorem bt_lt {S : List UInt8} {k : Nat} (h : bt S k ≠ 0) : k < S.length := ne_of_bt h

/-! ### how far, and how many nodes -/
theorem nuT_len (S : List UInt8) (i : Nat) (h : i ≤ S.length) : i + (nuT S i).length ≤ S.length := by
  have := (List.takeWhile_prefix (l := S.drop i) (numB.contains ·)).length_le
  rw [List.length_drop] at this
  unfold nuT; omega
/-- A reading goes on, within the text; what is read has half as many nodes as bytes. -/
def Goes (S : List UInt8) (rd : Nat → Rs (List Nd)) : Prop := ∀ i v k, rd i = .ok v k → i < k ∧ k ≤ S.length ∧ 1 ≤ v.length ∧ 2 * v.length + i ≤ k + 1
end Tp
end Go.Proofs.YtafbojiojeemoaaGreatDoor

/-
  What Unquote answers, as a value.
-/
namespace Go.Proofs.YtafbojiojeemoaaGreatDoor
/-- A text, a place, an error. -/
abbrev uqv (x : List UInt8 × Nat × Int) : Value := .tuple #[.string ⟨x.1.toArray⟩, .int .i64 x.2.1, .int .i64 x.2.2]
end Go.Proofs.YtafbojiojeemoaaGreatDoor

/-
  Plain words on numbers: a number's text. No program stands here.
-/
namespace Go.Proofs.YtafbojiojeemoaaGreatDoor
namespace Np
open Go.RowKit

/-- Figures with so many behind the point. -/
def padF (f : List UInt8) (b : Nat) : List UInt8 := Lib.repeatL [48] (b + 1 - f.length) ++ f
def pointF (f : List UInt8) (b : Nat) : List UInt8 := (padF f b).take ((padF f b).length - b) ++ 46 :: (padF f b).drop ((padF f b).length - b)
def printS (f : List UInt8) (e : Int) : List UInt8 :=
  if f.isEmpty = true then [48] else if 0 ≤ e ∧ e ≤ 20 - f.length then f ++ Lib.repeatL [48] e.toNat
  else if -20 ≤ e ∧ e ≤ -1 then pointF f (-e).toNat else f ++ 101 :: Lib.itoa e
def printN (f : List UInt8) (g : Bool) (e : Int) : List UInt8 := if g = true then 45 :: printS f e else printS f e
theorem padF_long {f : List UInt8} {b : Nat} (h : b < f.length) : padF f b = f := by
  unfold padF; rw [show b + 1 - f.length = 0 by omega]; rfl
theorem padF_len (f : List UInt8) (b : Nat) : b < (padF f b).length := by
  unfold padF; rw [List.length_append, Lib.repeatL_length]; simp; omega
theorem padF_le (f : List UInt8) (b : Nat) : (padF f b).length ≤ f.length + b + 1 := by
  unfold padF; rw [List.length_append, Lib.repeatL_length]; simp; omega

theorem printS_len (f : List UInt8) (e : Int) (hf : f.length ≤ 1000000) (he : -1000000 ≤ e) (he2 : e ≤ 1000000) : (printS f e).length ≤ 1000100 := by
  unfold printS
  split
  · simp
  split
  · rw [List.length_append, Lib.repeatL_length]; simp; omega
  split
  · have h := padF_le f (-e).toNat
    have h2 := padF_len f (-e).toNat
    unfold pointF
    simp only [List.length_append, List.length_take, List.length_cons, List.length_drop]
    omega
  · have := Lib.itoa_length_le e (by omega) (by omega)
    simp only [List.length_append, List.length_cons]
    omega

end Np
end Go.Proofs.YtafbojiojeemoaaGreatDoor

/-
  Plain words: a list's parts are what it was made of; an object, made of its names and parts, is it; parts are right, and less deep. No program stands here.
-/
namespace Go.Proofs.YtafbojiojeemoaaGreatDoor
namespace Vp
open Go.RowKit Np Rw

theorem setNm_val {t : Tr Nd} (h : Val t) : setNm [] (flat t) = flat t := by rw [← flat_nmd, ← h.nm, nmd_self]
theorem rows_trees : ∀ L : List (List Nd), (∀ l ∈ L, rightL l = true) → ∃ ts : List (Tr Nd), (∀ t ∈ ts, Val t) ∧ L = ts.map flat
  | [], _ => ⟨[], by simp, rfl⟩
  | l :: L, h => by
    obtain ⟨ts, h1, h2⟩ := rows_trees L (fun x hx => h x (by simp [hx]))
    obtain ⟨t, ht, he⟩ := val_of_rightL (h l (by simp))
    exact ⟨t :: ts, by intro x hx; rcases List.mem_cons.1 hx with rfl | hx <;> first | exact ht | exact h1 x hx, by rw [List.map_cons, ← h2, he]⟩
theorem laid_plain : ∀ ts : List (Tr Nd), (∀ t ∈ ts, Val t) → laid ((ts.map flat).map fun l => (([], l) : Pr)) = flats ts
  | [], _ => rfl
  | t :: ts, h => by
    rw [List.map_cons, List.map_cons, laid_cons, laid_plain ts (fun x hx => h x (by simp [hx])), flats_cons]
    rw [setNm_val (h t (by simp))]
theorem list_tree {ts : List (Tr Nd)} (h : ∀ t ∈ ts, Val t) : hdN 5 (ts.map flat).length :: laid ((ts.map flat).map fun l => ([], l)) = flat (arrT ts) := by
  rw [laid_plain ts h, flat_arrT, List.length_map]
theorem nmd_all {ts : List (Tr Nd)} (h : ∀ t ∈ ts, t.nd.name = []) : ts.map (fun k => flat (nmd [] k)) = ts.map flat := by
  apply List.map_congr_left
  intro t ht
  conv => rhs; rw [← nmd_self t, h t ht]
theorem part_val {t k : Tr Nd} (h : Val t) (hk : k ∈ t.ks) : Val (nmd [] k) := Val.clr (h.parts k hk).1 (h.parts k hk).2
theorem depth_nmd (nm : List UInt8) (t : Tr Nd) : depth (nmd nm t) = depth t := by rw [depth_eq, depth_eq t]; rfl
theorem depths_le : ∀ {ts : List (Tr Nd)} {k : Tr Nd}, k ∈ ts → depth k ≤ depths ts
  | t :: ts, k, h => by
    rw [depths_cons]
    rcases List.mem_cons.1 h with rfl | h
    · omega
    · have := depths_le h; omega
theorem Val.cont {t : Tr Nd} (h : Val t) (h0 : t.ks ≠ []) : cont t.nd.kind = true := by
  rcases Classical.em (t.nd.kind = 5) with h5 | h5
  · rw [h5]; rfl
  · rcases Classical.em (t.nd.kind = 6) with h6 | h6
    · rw [h6]; rfl
    · exact absurd (h.leaf h5 h6) h0
theorem part_depth {t k : Tr Nd} (h : Val t) (hk : k ∈ t.ks) : depth (nmd [] k) < depth t := by
  rw [depth_nmd, depth_eq t, if_pos (h.cont (by intro e; rw [e] at hk; cases hk))]
  have := depths_le hk
  omega
theorem laid_named : ∀ ks : List (Tr Nd), laid ((ks.map fun k => k.nd.name).zip (ks.map fun k => flat (nmd [] k))) = flats ks
  | [] => rfl
  | k :: ks => by
    rw [List.map_cons, List.map_cons, List.zip_cons_cons, laid_cons, laid_named ks, flats_cons]
    show setNm k.nd.name (flat (nmd [] k)) ++ _ = _
    rw [← flat_nmd, nmd_nmd, nmd_self]
theorem obj_again {t : Tr Nd} (h : Val t) (hk : t.nd.kind = 6) : objB (t.ks.map fun k => k.nd.name) (t.ks.map fun k => flat (nmd [] k)) = true ∧ objV (t.ks.map fun k => k.nd.name) (t.ks.map fun k => flat (nmd [] k)) = flat t := by
  obtain ⟨h1, h2⟩ := h.named hk
  have hr : (t.ks.map fun k => k.nd.name).Pairwise (· < ·) := List.pairwise_map.2 h1
  have hb : objB (t.ks.map fun k => k.nd.name) (t.ks.map fun k => flat (nmd [] k)) = true := by
    refine objB_iff.2 ⟨by simp, ?_, fun s hs => ?_⟩
    · exact hr.imp (fun {a b} hab (e : a = b) => by subst e; exact List.lt_irrefl a hab)
    · obtain ⟨k, hk', rfl⟩ := List.mem_map.1 hs
      exact h2 k hk'
  refine ⟨hb, ?_⟩
  have hz : rises ((t.ks.map fun k => k.nd.name).zip (t.ks.map fun k => flat (nmd [] k))) := by
    have := List.pairwise_map (f := Prod.fst) (l := (t.ks.map fun k => k.nd.name).zip (t.ks.map fun k => flat (nmd [] k))) (R := (· < ·))
    rw [zip_keys (by simp)] at this
    exact this.1 hr
  rw [objV, if_pos hb, srt_of (List.Perm.refl _) hz, laid_named]
  conv => rhs; rw [h.obj hk, flat_objT]
  rw [List.length_map]
theorem arr_again {t : Tr Nd} (h : Val t) (hk : t.nd.kind = 5) : hdN 5 (t.ks.map fun k => flat (nmd [] k)).length :: laid ((t.ks.map fun k => flat (nmd [] k)).map fun l => ([], l)) = flat t := by
  have hn := h.unnamed hk
  have hv : ∀ k ∈ t.ks, Val k := fun k hk' => ⟨(h.parts k hk').1, (h.parts k hk').2, hn k hk'⟩
  rw [nmd_all hn, list_tree hv, ← h.arr hk]
theorem depth_leaf {t : Tr Nd} (h5 : t.nd.kind ≠ 5) (h6 : t.nd.kind ≠ 6) : depth t = 0 := by
  rw [depth_eq, if_neg]
  simp [cont, h5, h6]
theorem mem_flats : ∀ {ts : List (Tr Nd)} {k : Tr Nd} {n : Nd}, k ∈ ts → n ∈ flat k → n ∈ flats ts
  | t :: ts, k, n, h, hn => by
    rw [flats_cons, List.mem_append]
    rcases List.mem_cons.1 h with rfl | h
    · exact .inl hn
    · exact .inr (mem_flats h hn)
theorem len_flats : ∀ {ts : List (Tr Nd)} {k : Tr Nd}, k ∈ ts → (flat k).length ≤ (flats ts).length
  | t :: ts, k, h => by
    rw [flats_cons, List.length_append]
    rcases List.mem_cons.1 h with rfl | h
    · omega
    · have := len_flats h; omega
theorem sum_flats : ∀ ts : List (Tr Nd), ((ts.map flat).map List.length).sum = (flats ts).length
  | [] => rfl
  | t :: ts => by rw [List.map_cons, List.map_cons, List.sum_cons, sum_flats ts, flats_cons, List.length_append]
end Vp
open Go.RowKit Np Rw in
/-- The names of an object's parts. -/
def namesT (t : Tr Nd) : List (List UInt8) := if t.nd.kind = 6 then t.ks.map (fun k => k.nd.name) else []
end Go.Proofs.YtafbojiojeemoaaGreatDoor
