/-
  Plain words: whole numbers' figures. No program stands here.
-/
import Derived.Test.YtfmoigbiohbocaaDoorNumPlain11
import Derived.Test.YtfmoigbiohbocaaDoorNumOrdP
namespace Go.Proofs.YtfmoigbiohbocaaDoor
namespace Np
open Go.RowKit

/-- The worth of some figures, with so many places. -/
def wide : List UInt8 → Nat → Nat
  | [], _ => 0
  | c :: t, n => (c.toNat - 48) * 10 ^ (n - 1) + wide t (n - 1)
theorem wide_lt : ∀ (l : List UInt8) (n : Nat), figs l = true → l.length ≤ n → wide l n < 10 ^ n
  | [], n, _, _ => by simp [wide]; exact Nat.pow_pos (by decide)
  | c :: t, n, h, hl => by
    obtain ⟨m, rfl⟩ : ∃ m, n = m + 1 := ⟨n - 1, by simp at hl; omega⟩
    have hc := (fig_iff c).1 (fig_head h rfl)
    have ht : figs t = true := by simp [figs] at h ⊢; exact h.2
    have := wide_lt t m ht (by simpa using hl)
    unfold wide
    rw [Nat.add_sub_cancel, Nat.pow_succ]
    have hle : (c.toNat - 48) * 10 ^ m ≤ 9 * 10 ^ m := Nat.mul_le_mul_right _ (by omega)
    omega
theorem wide_pos : ∀ (l : List UInt8) (n : Nat), l ≠ [] → l.getLastD 0 ≠ 48 → figs l = true → l.length ≤ n → 0 < wide l n
  | [], _, h, _, _, _ => absurd rfl h
  | c :: t, n, _, hla, h, hl => by
    obtain ⟨m, rfl⟩ : ∃ m, n = m + 1 := ⟨n - 1, by simp at hl; omega⟩
    have hc := (fig_iff c).1 (fig_head h rfl)
    have ht : figs t = true := by simp [figs] at h ⊢; exact h.2
    unfold wide
    rw [Nat.add_sub_cancel]
    cases t with
    | nil =>
      have h48 : c ≠ 48 := by simpa using hla
      have : 48 < c.toNat := by
        rcases Nat.lt_or_ge 48 c.toNat with h | h
        · exact h
        · exact absurd (UInt8.toNat_inj.1 (by show c.toNat = (48 : UInt8).toNat; simp; omega)) h48
      have := Nat.mul_pos (show 0 < c.toNat - 48 by omega) (Nat.pow_pos (n := m) (show 0 < 10 by decide))
      omega
    | cons a r =>
      have := wide_pos (a :: r) m (by simp) (by simpa using hla) ht (by simpa using hl)
      omega
/-- Of figures without noughts behind, which are greater, byte by byte, is as they are worth with so many places. -/
theorem wide_lex : ∀ (a b : List UInt8) (n : Nat), figs a = true → figs b = true → (a = [] ∨ a.getLastD 0 ≠ 48) → (b = [] ∨ b.getLastD 0 ≠ 48) → a.length ≤ n → b.length ≤ n → (a < b ↔ wide a n < wide b n)
  | [], [], n, _, _, _, _, _, _ => by simp [wide]
  | [], b :: u, n, _, hb, _, hlb, _, hl => by
    have := wide_pos (b :: u) n (by simp) (by rcases hlb with h | h; (cases h); exact h) hb hl
    simp only [wide] at this ⊢
    constructor
    · intro _; exact this
    · intro _; exact List.nil_lt_cons _ _
  | a :: t, [], n, ha, _, hla, _, hl, _ => by
    simp [wide]
  | a :: t, b :: u, n, ha, hb, hla, hlb, hl1, hl2 => by
    obtain ⟨m, rfl⟩ : ∃ m, n = m + 1 := ⟨n - 1, by simp at hl1; omega⟩
    have hca := (fig_iff a).1 (fig_head ha rfl)
    have hcb := (fig_iff b).1 (fig_head hb rfl)
    have hta : figs t = true := by simp [figs] at ha ⊢; exact ha.2
    have htb : figs u = true := by simp [figs] at hb ⊢; exact hb.2
    have l1 := wide_lt t m hta (by simpa using hl1)
    have l2 := wide_lt u m htb (by simpa using hl2)
    have hla' : t = [] ∨ t.getLastD 0 ≠ 48 := by
      cases t with
      | nil => exact .inl rfl
      | cons x y => right; rcases hla with h | h; (cases h); simpa using h
    have hlb' : u = [] ∨ u.getLastD 0 ≠ 48 := by
      cases u with
      | nil => exact .inl rfl
      | cons x y => right; rcases hlb with h | h; (cases h); simpa using h
    have ih := wide_lex t u m hta htb hla' hlb' (by simpa using hl1) (by simpa using hl2)
    rw [List.cons_lt_cons_iff]
    unfold wide
    rw [Nat.add_sub_cancel]
    have e : a = b ↔ a.toNat = b.toNat := UInt8.toNat_inj.symm
    have e2 : a < b ↔ a.toNat < b.toNat := UInt8.lt_iff_toNat_lt
    rw [e, e2, ih]
    rcases Nat.lt_trichotomy a.toNat b.toNat with h | h | h
    · have : (a.toNat - 48) * 10 ^ m + 10 ^ m ≤ (b.toNat - 48) * 10 ^ m := by
        rw [← Nat.succ_mul]; exact Nat.mul_le_mul_right _ (by omega)
      constructor
      · intro _; omega
      · intro _; exact .inl h
    · rw [h]; omega
    · have : (b.toNat - 48) * 10 ^ m + 10 ^ m ≤ (a.toNat - 48) * 10 ^ m := by
        rw [← Nat.succ_mul]; exact Nat.mul_le_mul_right _ (by omega)
      constructor
      · rintro (h' | ⟨h', _⟩) <;> omega
      · intro h'; omega
theorem wide_snoc : ∀ (l : List UInt8) (c : UInt8), wide (l ++ [c]) (l.length + 1) = 10 * wide l l.length + (c.toNat - 48)
  | [], c => by simp [wide]
  | a :: t, c => by
    have ih := wide_snoc t c
    show (a.toNat - 48) * 10 ^ (t.length + 1 + 1 - 1) + wide (t ++ [c]) (t.length + 1 + 1 - 1) = 10 * ((a.toNat - 48) * 10 ^ (t.length + 1 - 1) + wide t (t.length + 1 - 1)) + (c.toNat - 48)
    rw [Nat.add_sub_cancel, Nat.add_sub_cancel, ih, Nat.pow_succ, ← Nat.mul_assoc]
    generalize (a.toNat - 48) * 10 ^ t.length = z
    omega
theorem wide_worth (l : List UInt8) : wide l l.length = worth l := by
  induction hn : l.length generalizing l with
  | zero => rw [List.length_eq_zero_iff.1 hn]; rfl
  | succ n ih =>
    rcases List.eq_nil_or_concat l with h | ⟨q, b, h⟩
    · rw [h] at hn; cases hn
    · rw [List.concat_eq_append] at h
      subst h
      have hq : q.length = n := by simpa using hn
      rw [← hq, wide_snoc, worth_snoc]
      rw [hq, ih q hq]
theorem wide_behind : ∀ (l : List UInt8) (b : Nat), wide (l ++ noughts b) (l.length + b) = wide l (l.length + b)
  | [], b => by
    simp only [List.nil_append, List.length_nil, Nat.zero_add]
    induction b with
    | zero => rfl
    | succ b ih =>
      rw [show noughts (b + 1) = 48 :: noughts b by simp [noughts, List.replicate_succ]]
      unfold wide at ih ⊢
      rw [Nat.add_sub_cancel]
      simp
      cases b with
      | zero => rfl
      | succ b => exact ih
  | a :: t, b => by
    have ih := wide_behind t b
    show (a.toNat - 48) * 10 ^ (t.length + 1 + b - 1) + wide (t ++ noughts b) (t.length + 1 + b - 1) = (a.toNat - 48) * 10 ^ (t.length + 1 + b - 1) + wide t (t.length + 1 + b - 1)
    rw [show t.length + 1 + b - 1 = t.length + b by omega, ih]

/-- A whole number's node. -/
def intN (neg : Bool) (u : Nat) : Nd := if u = 0 then nought else mkN neg (Lib.decDigits u) 0
theorem dec_len_lt (u : Nat) : u < 10 ^ (Lib.decDigits u).length ∧ (0 < u → 10 ^ ((Lib.decDigits u).length - 1) ≤ u) := by
  induction u using Nat.strongRecOn with
  | _ u ih =>
    rw [Lib.decDigits]
    split
    · rename_i h
      simp
      exact ⟨h, fun h => h⟩
    · rename_i h
      obtain ⟨i1, i2⟩ := ih (u / 10) (by omega)
      have i2 := i2 (by omega)
      rw [List.length_append]
      simp only [List.length_cons, List.length_nil, Nat.zero_add, Nat.add_sub_cancel]
      have hp : 0 < (Lib.decDigits (u / 10)).length := List.length_pos_iff.2 (dec_worth (u / 10)).2.2
      obtain ⟨m, hm⟩ : ∃ m, (Lib.decDigits (u / 10)).length = m + 1 := ⟨(Lib.decDigits (u / 10)).length - 1, by omega⟩
      rw [hm] at i1 i2 ⊢
      rw [Nat.add_sub_cancel] at i2
      rw [Nat.pow_succ (m := m + 1), Nat.pow_succ (m := m)]
      rw [Nat.pow_succ] at i1
      generalize 10 ^ m = z at *
      omega
theorem dec_head {u : Nat} (h : 0 < u) : ∃ c t, Lib.decDigits u = c :: t ∧ c ≠ 48 := by
  induction u using Nat.strongRecOn with
  | _ u ih =>
    rw [Lib.decDigits]
    split
    · rename_i h10
      refine ⟨_, [], rfl, fun e => ?_⟩
      have := congrArg UInt8.toNat e
      rw [dig_nat u h10] at this
      simp at this
      omega
    · obtain ⟨c, t, e, hc⟩ := ih (u / 10) (by omega) (by omega)
      rw [e]
      exact ⟨c, t ++ _, rfl, hc⟩
theorem dec_ten (u : Nat) (h : u ≤ 2147483648) : (Lib.decDigits u).length ≤ 10 := by
  rcases Nat.lt_or_ge 10 (Lib.decDigits u).length with h1 | h1
  · by_cases h0 : 0 < u
    · have h2 := (dec_len_lt u).2 h0
      have h3 : 10 ^ 10 ≤ 10 ^ ((Lib.decDigits u).length - 1) := Nat.pow_le_pow_right (by decide) (by omega)
      omega
    · rw [show u = 0 by omega] at h1
      rw [Lib.decDigits] at h1
      simp at h1
  · exact h1

theorem trimRight_split (l : List UInt8) : l = Lib.trimRightB l 48 ++ noughts (l.length - (Lib.trimRightB l 48).length) := by
  induction hn : l.length generalizing l with
  | zero => rw [List.length_eq_zero_iff.1 hn]; rfl
  | succ n ih =>
    rcases List.eq_nil_or_concat l with h | ⟨q, b, h⟩
    · rw [h] at hn; cases hn
    · rw [List.concat_eq_append] at h
      subst h
      have hq : q.length = n := by simpa using hn
      by_cases hb : b = 48
      · subst hb
        have e : Lib.trimRightB (q ++ [48]) 48 = Lib.trimRightB q 48 := by simp [Lib.trimRightB]
        have hle : (Lib.trimRightB q 48).length ≤ n := by
          rw [← hq, Lib.trimRightB, List.length_reverse]
          exact Nat.le_trans (List.dropWhile_suffix _).length_le (by simp)
        rw [e, show n + 1 - (Lib.trimRightB q 48).length = (n - (Lib.trimRightB q 48).length) + 1 by omega]
        have := ih q hq
        rw [show noughts (n - (Lib.trimRightB q 48).length + 1) = noughts (n - (Lib.trimRightB q 48).length) ++ [48] by simp [noughts, List.replicate_succ'], ← List.append_assoc, ← this]
      · rw [trimRight_snoc q b hb, hn]
        simp [noughts]
/-- What a whole number is made of. -/
theorem int_parts (neg : Bool) {u : Nat} (hu : 0 < u) (hm : u ≤ 2147483648) : ∃ (f : List UInt8) (b : Nat), intN neg u = ⟨3, 0, [], f, neg, b⟩ ∧ Lib.decDigits u = f ++ noughts b ∧ f.length + b ≤ 10 ∧ f ≠ [] ∧ f.getLastD 0 ≠ 48 ∧ figs f = true ∧ right (intN neg u) = true ∧ mk neg (Lib.decDigits u) 0 = (intN neg u, 0) := by
  obtain ⟨c, t, hct, hc⟩ := dec_head hu
  obtain ⟨w1, w2, w3⟩ := dec_worth u
  have h10 := dec_ten u hm
  have tl : Lib.trimLeftB (Lib.decDigits u) 48 = Lib.decDigits u := by rw [hct]; simp [Lib.trimLeftB, hc]
  have hne : Lib.trimRightB (Lib.decDigits u) 48 ≠ [] := by rw [hct]; exact trimRight_ne hc
  have hs := trimRight_split (Lib.decDigits u)
  have hle : (Lib.trimRightB (Lib.decDigits u) 48).length ≤ (Lib.decDigits u).length := by
    have := (trim_len (Lib.decDigits u)).1
    rwa [tl] at this
  have he := mkN_e neg (Lib.decDigits u) 0 (by omega) (by omega) (by omega)
  rw [tl] at he
  have hN : intN neg u = ⟨3, 0, [], Lib.trimRightB (Lib.decDigits u) 48, neg, ((Lib.decDigits u).length - (Lib.trimRightB (Lib.decDigits u) 48).length : Nat)⟩ := by
    unfold intN
    rw [if_neg (by omega)]
    have : mkN neg (Lib.decDigits u) 0 = ⟨3, 0, [], Lib.trimRightB (Lib.trimLeftB (Lib.decDigits u) 48) 48, neg, (mkN neg (Lib.decDigits u) 0).e⟩ := rfl
    rw [this, he, tl]
    simp
  have hR : right (mkN neg (Lib.decDigits u) 0) = true := by
    rw [mkN_right neg _ 0 w2 (by rw [tl]; exact w3), tl, he]
    simp only [Bool.and_eq_true, decide_eq_true_eq]
    omega
  have hI : intN neg u = mkN neg (Lib.decDigits u) 0 := by unfold intN; rw [if_neg (by omega)]
  refine ⟨_, _, hN, hs, by omega, hne, trimRight_last _ hne, figs_trimRight w2, by rw [hI]; exact hR, ?_⟩
  rw [mk_ok neg _ 0 w2 (by rw [tl, hct]; rfl) hR, hI]
theorem int_zero : mk false (Lib.decDigits 0) 0 = (intN false 0, 0) ∧ right (intN false 0) = true ∧ printN (intN false 0).s (intN false 0).neg (intN false 0).e = Lib.decDigits 0 ∧ readF (Lib.decDigits 0) = (intN false 0, 0, 0) := by
  have : Lib.decDigits 0 = [48] := by rw [Lib.decDigits]; rfl
  rw [this]
  decide +kernel
theorem int_all (neg : Bool) (u : Nat) (hn : neg = true → 0 < u) (hm : u ≤ 2147483648) : mk neg (Lib.decDigits u) 0 = (intN neg u, 0) ∧ right (intN neg u) = true ∧ printN (intN neg u).s (intN neg u).neg (intN neg u).e = (if neg = true then [45] else []) ++ Lib.decDigits u ∧ readF ((if neg = true then [45] else []) ++ Lib.decDigits u) = (intN neg u, 0, 0) := by
  by_cases hu : 0 < u
  · obtain ⟨f, b, h1, h2, h3, h4, h5, h6, h7, h8⟩ := int_parts neg hu hm
    obtain ⟨c, t, hct, hc⟩ := dec_head hu
    obtain ⟨w1, w2, w3⟩ := dec_worth u
    have hp : printN (intN neg u).s (intN neg u).neg (intN neg u).e = (if neg = true then [45] else []) ++ Lib.decDigits u := by
      have hS : printS f (b : Int) = f ++ noughts b := by
        unfold printS
        rw [if_neg (by simpa using h4), if_pos (by omega), repeat_noughts, show ((b : Nat) : Int).toNat = b by omega]
      rw [h1, h2]
      show printN f neg b = _
      unfold printN
      rw [hS]
      cases neg <;> simp
    refine ⟨h8, h7, hp, ?_⟩
    rw [← hp]
    exact print_back h7
  · obtain rfl : u = 0 := by omega
    cases neg
    · exact int_zero
    · exact absurd (hn rfl) hu
/-- Which of two whole numbers is greater. -/
theorem int_size {u v : Nat} {f g : List UInt8} {b d : Nat} (hu : 0 < u) (hv : 0 < v) (e1 : Lib.decDigits u = f ++ noughts b) (e2 : Lib.decDigits v = g ++ noughts d) (f1 : figs f = true) (g1 : figs g = true) (f2 : f.getLastD 0 ≠ 48) (g2 : g.getLastD 0 ≠ 48) :
    cmpSz f b g d = -1 ↔ u < v := by
  have lu : (Lib.decDigits u).length = f.length + b := by rw [e1, List.length_append]; simp [noughts]
  have lv : (Lib.decDigits v).length = g.length + d := by rw [e2, List.length_append]; simp [noughts]
  have du := dec_len_lt u
  have dv := dec_len_lt v
  have du2 := du.2 hu
  have dv2 := dv.2 hv
  have i1 := cmpI_lt (f.length + b) (g.length + d)
  have i2 := cmpI_eq (f.length + b) (g.length + d)
  have i3 := cmpI_gt (f.length + b) (g.length + d)
  unfold cmpSz
  rcases Nat.lt_trichotomy (f.length + b) (g.length + d) with h | h | h
  · rw [if_neg (fun e => by have := i2.1 e; omega), i1]
    constructor
    · intro _
      have : 10 ^ (Lib.decDigits u).length ≤ 10 ^ ((Lib.decDigits v).length - 1) := Nat.pow_le_pow_right (by decide) (by omega)
      omega
    · intro _; omega
  · rw [if_pos (i2.2 (by omega)), cmpB_lt]
    have k1 : wide f (f.length + b) = u := by
      rw [← wide_behind, ← e1, ← lu, wide_worth, (dec_worth u).1]
    have k2 : wide g (f.length + b) = v := by
      rw [h, ← wide_behind, ← e2, ← lv, wide_worth, (dec_worth v).1]
    rw [wide_lex f g (f.length + b) f1 g1 (.inr f2) (.inr g2) (by omega) (by omega), k1, k2]
  · rw [if_neg (fun e => by have := i2.1 e; omega)]
    constructor
    · intro e; have := i1.1 e; omega
    · intro _
      have : 10 ^ (Lib.decDigits v).length ≤ 10 ^ ((Lib.decDigits u).length - 1) := Nat.pow_le_pow_right (by decide) (by omega)
      omega
theorem int_cmp (n1 n2 : Bool) (u v : Nat) (h1 : n1 = true → 0 < u) (h2 : n2 = true → 0 < v) (m1 : u ≤ 2147483648) (m2 : v ≤ 2147483648) :
    cmpN (intN n1 u).s (intN n1 u).neg (intN n1 u).e (intN n2 v).s (intN n2 v).neg (intN n2 v).e < 0 ↔ (if n1 = true then -(u : Int) else u) < (if n2 = true then -(v : Int) else v) := by
  have sg : ∀ (n : Bool) (w : Nat), (n = true → 0 < w) → w ≤ 2147483648 → sgn (intN n w).s (intN n w).neg = if w = 0 then 0 else if n = true then -1 else 1 := by
    intro n w hn hw
    by_cases h0 : w = 0
    · subst h0
      have : n = false := by cases n with | false => rfl | true => exact absurd (hn rfl) (by omega)
      subst this
      rw [if_pos rfl]; decide
    · obtain ⟨f, b, e1, _, _, e4, _⟩ := int_parts n (u := w) (by omega) hw
      rw [e1, if_neg h0]
      unfold sgn
      rw [if_neg (by simpa using e4)]
  have s1 := sg n1 u h1 m1
  have s2 := sg n2 v h2 m2
  have hr := cmpN_range (intN n1 u).s (intN n1 u).neg (intN n1 u).e (intN n2 v).s (intN n2 v).neg (intN n2 v).e
  have i1 := cmpI_lt (sgn (intN n1 u).s (intN n1 u).neg) (sgn (intN n2 v).s (intN n2 v).neg)
  have i2 := cmpI_eq (sgn (intN n1 u).s (intN n1 u).neg) (sgn (intN n2 v).s (intN n2 v).neg)
  have i3 := compareInt_cases (sgn (intN n1 u).s (intN n1 u).neg) (sgn (intN n2 v).s (intN n2 v).neg)
  unfold cmpN
  by_cases hs : sgn (intN n1 u).s (intN n1 u).neg = sgn (intN n2 v).s (intN n2 v).neg
  · rw [if_pos (i2.2 hs), s1]
    rw [s1, s2] at hs
    by_cases hu : u = 0
    · have hv : v = 0 := by
        rw [if_pos hu] at hs
        by_cases hv : v = 0
        · exact hv
        · rw [if_neg hv] at hs; split at hs <;> omega
      rw [if_pos hu, hu, hv]
      simp
    · have hv : v ≠ 0 := by
        intro hv
        rw [if_neg hu, if_pos hv] at hs; split at hs <;> omega
      rw [if_neg hu] at hs ⊢
      rw [if_neg hv] at hs
      obtain ⟨f, b, a1, a2, _, a4, a5, a6, _⟩ := int_parts n1 (u := u) (by omega) m1
      obtain ⟨g, d, c1, c2, _, c4, c5, c6, _⟩ := int_parts n2 (u := v) (by omega) m2
      rw [a1, c1]
      simp only
      have z1 := int_size (show 0 < u by omega) (show 0 < v by omega) a2 c2 a6 c6 a5 c5
      have z2 := int_size (show 0 < v by omega) (show 0 < u by omega) c2 a2 c6 a6 c5 a5
      have z3 := cmpSz_neg f b g d
      have z4 := cmpSz_cases f b g d
      cases n1 <;> cases n2 <;> simp only [Bool.false_eq_true, if_false, if_true] at hs ⊢
      · omega
      · omega
      · omega
      · omega
  · rw [if_neg (fun e => hs (i2.1 e))]
    rw [s1, s2] at i1 i3 hs ⊢
    by_cases hu : u = 0 <;> by_cases hv : v = 0 <;> cases n1 <;> cases n2 <;> simp only [hu, hv, Bool.false_eq_true, if_false, if_true, not_true_eq_false] at i1 i3 hs h1 h2 ⊢ <;> omega

end Np
end Go.Proofs.YtfmoigbiohbocaaDoor
