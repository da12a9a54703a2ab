/-
  Joined: PaT, PaB1.
-/
import Derived.Test.YtdibcamnoolnmaaGreatDoorPathSetsJ2
import Derived.Test.YtdibcamnoolnmaaGreatDoorPathSetsJ3
import Derived.Lib.ItoaNum
import Derived.Lib.AtoiAll
import Derived.Lib.IndexMore
import Derived.Lib.IndexBytes
import Derived.Test.YtdibcamnoolnmaaGreatDoorMem

/-
  Plain words on texts of paths: a word, a step's text and a path's; the step that a text begins with, and the path of a text; back and forth. No program stands here.
-/
namespace Go.Proofs.YtdibcamnoolnmaaGreatDoor
namespace Pw
open Go.RowKit Np Rw Vp Up Qp

def isL (c : UInt8) : Bool := decide (97 ≤ c.toNat ∧ c.toNat ≤ 122) || decide (65 ≤ c.toNat ∧ c.toNat ≤ 90) || decide (c.toNat = 95)
def isF (c : UInt8) : Bool := decide (48 ≤ c.toNat ∧ c.toNat ≤ 57)
def isLF (c : UInt8) : Bool := isL c || isF c
/-- The word that a text begins with. -/
def wrd : List UInt8 → List UInt8
  | [] => []
  | c :: r => if isL c then c :: r.takeWhile isLF else []
/-- The place that a word goes on at. -/
def okAt (l : List UInt8) (k : Nat) : Bool := match l[k]? with
  | none => false
  | some c => isL c || (decide (0 < k) && isF c)
theorem takeWhile_len {α : Type} (p : α → Bool) : ∀ (l : List α) (n : Nat), n ≤ l.length → (∀ j, j < n → ∀ x, l[j]? = some x → p x = true) → (n = l.length ∨ ∃ x, l[n]? = some x ∧ p x = false) → l.takeWhile p = l.take n
  | [], n, hn, _, _ => by simp
  | a :: l, 0, _, _, h => by
    rcases h with h | ⟨x, hx, hp⟩
    · simp at h
    · simp at hx; subst hx
      rw [List.takeWhile_cons, hp]; simp
  | a :: l, n + 1, hn, h0, h => by
    have ha : p a = true := h0 0 (by omega) a (by simp)
    rw [List.takeWhile_cons, if_pos ha, List.take_succ_cons]
    congr 1
    refine takeWhile_len p l n (by simpa using hn) (fun j hj x hx => h0 (j + 1) (by omega) x (by simpa using hx)) ?_
    rcases h with h | ⟨x, hx, hp⟩
    · left; simpa using h
    · right; exact ⟨x, by simpa using hx, hp⟩
/-- What the walk finds is the word. -/
theorem wrd_of {l : List UInt8} {n : Nat} (hn : n ≤ l.length) (h0 : ∀ j, j < n → okAt l j = true) (h1 : okAt l n = false) : wrd l = l.take n := by
  cases l with
  | nil => simp [wrd]
  | cons c r =>
    cases n with
    | zero =>
      have : isL c = false := by simpa [okAt] using h1
      rw [wrd, this]; simp
    | succ n =>
      have hc : isL c = true := by simpa [okAt] using h0 0 (by omega)
      rw [wrd, if_pos hc, List.take_succ_cons]
      congr 1
      refine takeWhile_len isLF r n (by simpa using hn) (fun j hj x hx => ?_) ?_
      · have := h0 (j + 1) (by omega)
        rw [okAt, List.getElem?_cons_succ, hx] at this
        simpa [isLF] using this
      · rw [okAt, List.getElem?_cons_succ] at h1
        cases hr : r[n]? with
        | none =>
          left
          have := List.getElem?_eq_none_iff.1 hr
          simp at hn; omega
        | some x =>
          rw [hr] at h1
          exact Or.inr ⟨x, rfl, by simpa [isLF] using h1⟩
theorem wrd_le (l : List UInt8) : (wrd l).length ≤ l.length := by
  cases l with
  | nil => simp [wrd]
  | cons c r =>
    rw [wrd]; split
    · have := (List.takeWhile_sublist isLF (l := r)).length_le
      simp; omega
    · simp
theorem wrd_low : ∀ (l : List UInt8), ∀ c ∈ wrd l, c.toNat < 128 := by
  intro l c hc
  cases l with
  | nil => simp [wrd] at hc
  | cons a r =>
    rw [wrd] at hc
    have hL : ∀ x : UInt8, isL x = true → x.toNat < 128 := fun x h => by simp [isL] at h; omega
    have hF : ∀ x : UInt8, isF x = true → x.toNat < 128 := fun x h => by simp [isF] at h; omega
    split at hc
    · rename_i ha
      rcases List.mem_cons.1 hc with rfl | hc
      · exact hL _ ha
      · have := List.all_eq_true.1 (List.all_takeWhile (p := isLF) (l := r)) c hc
        simp [isLF] at this
        rcases this with h | h
        · exact hL _ h
        · exact hF _ h
    · simp at hc
/-- A step's text. -/
def isW (name : List UInt8) : Bool := decide (name ≠ []) && decide (wrd name = name)
def stT (s : St) : List UInt8 := if s.part then 91 :: (Lib.itoa s.n ++ [93]) else if isW s.name then 46 :: s.name else 46 :: quo s.name
def headT (p : List St) : List UInt8 := match p with
  | [] => [46]
  | s :: _ => if s.part then [46] else []
/-- A path's text. -/
def textP (p : List St) : List UInt8 := headT p ++ p.flatMap stT
/-- The number of a text of figures, or what is told in its place. -/
def atoiN (l : List UInt8) : Int := match Lib.atoiAll l with
  | .ok v => v
  | .range => Lib.atoiSat l
  | _ => 0
/-- The step that a text begins with, if it begins with one. -/
def gss (l : List UInt8) : St :=
  if Lib.hasPrefix l [91] then ⟨true, [], atoiN (Lib.cut (Lib.trimPrefix l [91]) [93]).1⟩
  else if (unqs (Lib.trimPrefix l [46])).2.2 = 0 then ⟨false, (unqs (Lib.trimPrefix l [46])).1, 0⟩
  else ⟨false, wrd (Lib.trimPrefix l [46]), 0⟩
def ahd (l : List UInt8) (first : Bool) : Nat := if first && Lib.hasPrefix l [46, 91] then 1 else 0
def bgn (l : List UInt8) (first : Bool) : Option (St × Nat) :=
  if first && !Lib.hasPrefix l [46, 91] && !Lib.hasPrefix l [46] then none
  else if rightS (gss (l.drop (ahd l first))) && Lib.hasPrefix (l.drop (ahd l first)) (stT (gss (l.drop (ahd l first)))) then some (gss (l.drop (ahd l first)), ahd l first + (stT (gss (l.drop (ahd l first)))).length) else none
def readF : Nat → List St → List UInt8 → Nat → List St × Nat × Int
  | 0, _, _, i => ([], i, 1)
  | f + 1, acc, l, i => match bgn (l.drop i) (i == 0) with
    | none => ([], i, 1)
    | some (g, n) => if acc.length = 20 then ([], i, 1) else if i + n = l.length then (acc ++ [g], 0, 0) else readF f (acc ++ [g]) l (i + n)
/-- The path of a text, or where it is none. -/
def readP (l : List UInt8) : List St × Nat × Int := if l = [46] then ([], 0, 0) else readF (l.length + 1) [] l 0

theorem pre_iff {l p : List UInt8} : Lib.hasPrefix l p = true ↔ ∃ t, l = p ++ t := by
  unfold Lib.hasPrefix
  rw [List.isPrefixOf_iff_prefix]
  constructor
  · rintro ⟨t, rfl⟩; exact ⟨t, rfl⟩
  · rintro ⟨t, rfl⟩; exact ⟨t, rfl⟩
theorem pre_len {l p : List UInt8} (h : Lib.hasPrefix l p = true) : p.length ≤ l.length := by
  obtain ⟨t, rfl⟩ := pre_iff.1 h; simp
theorem trim_of (p t : List UInt8) : Lib.trimPrefix (p ++ t) p = t := by
  unfold Lib.trimPrefix
  rw [if_pos (pre_iff.2 ⟨t, rfl⟩)]; simp
theorem stT_pos (s : St) : 1 ≤ (stT s).length := by
  unfold stT; split
  · simp
  · split <;> simp
theorem bgn_some {l : List UInt8} {first : Bool} {g : St} {n : Nat} (h : bgn l first = some (g, n)) : rightS g = true ∧ g = gss (l.drop (ahd l first)) ∧ n = ahd l first + (stT g).length ∧ (∃ t, l.drop (ahd l first) = stT g ++ t) ∧ (first = true → Lib.hasPrefix l [46, 91] = true ∨ Lib.hasPrefix l [46] = true) := by
  unfold bgn at h
  split at h
  · cases h
  · rename_i h1
    split at h
    · rename_i h2
      injection h with h
      injection h with ha hb
      rw [Bool.and_eq_true] at h2
      subst ha
      refine ⟨h2.1, rfl, hb.symm, pre_iff.1 h2.2, fun hf => ?_⟩
      subst hf
      cases hp : Lib.hasPrefix l [46, 91] <;> cases hq : Lib.hasPrefix l [46] <;> simp_all
    · cases h
theorem ahd_le (l : List UInt8) (first : Bool) : ahd l first ≤ l.length := by
  unfold ahd; split
  · rename_i h
    rw [Bool.and_eq_true] at h
    have := pre_len h.2
    simp at this; omega
  · omega
theorem bgn_len {l : List UInt8} {first : Bool} {g : St} {n : Nat} (h : bgn l first = some (g, n)) : 1 ≤ n ∧ n ≤ l.length := by
  obtain ⟨-, -, hn, ⟨t, ht⟩, -⟩ := bgn_some h
  have h1 := stT_pos g
  have h2 := congrArg List.length ht
  have h3 := ahd_le l first
  rw [List.length_drop, List.length_append] at h2
  omega
theorem bgn_text {l : List UInt8} {first : Bool} {g : St} {n : Nat} (h : bgn l first = some (g, n)) : l.take n = (if first then headT [g] else []) ++ stT g := by
  obtain ⟨-, hg, hn, ⟨t, ht⟩, hf⟩ := bgn_some h
  subst hn
  unfold ahd at *
  cases first with
  | false =>
    simp only [Bool.false_and, Bool.false_eq_true, if_false, List.drop_zero, Nat.zero_add, List.nil_append] at *
    rw [ht]; simp
  | true =>
    simp only [Bool.true_and, if_true] at *
    by_cases h2 : Lib.hasPrefix l [46, 91] = true
    · obtain ⟨r, hr⟩ := pre_iff.1 h2
      simp only [h2, if_true] at *
      subst hr
      have hg2 : g.part = true := by
        rw [hg]; unfold gss
        rw [if_pos (pre_iff.2 ⟨r, by simp⟩)]
      simp only [headT, hg2, if_true]
      simp only [List.cons_append, List.nil_append, List.drop_succ_cons, List.drop_zero] at ht
      rw [show [46, 91] ++ r = 46 :: (91 :: r) by simp, ht, Nat.add_comm, List.take_succ_cons]
      simp
    · have h2' : Lib.hasPrefix l [46, 91] = false := by simpa using h2
      have h3 : ∃ r, l = [46] ++ r := pre_iff.1 ((hf trivial).resolve_left h2)
      simp only [h2', Bool.false_eq_true, if_false, List.drop_zero, Nat.zero_add] at *
      obtain ⟨r, rfl⟩ := h3
      have hg2 : g.part = false := by
        rw [hg]; unfold gss
        have : Lib.hasPrefix ([46] ++ r) [91] = false := by simp [Lib.hasPrefix, List.isPrefixOf]
        rw [this]
        simp only [Bool.false_eq_true, if_false]
        split <;> rfl
      simp only [headT, hg2, Bool.false_eq_true, if_false, List.nil_append]
      rw [ht]; simp
theorem headT_append (s : St) (p q : List St) : headT (s :: p ++ q) = headT (s :: p) := rfl
theorem headT_one (s : St) (p : List St) : headT (s :: p) = headT [s] := rfl
/-- What any text is read as is right, and has it for its text; else the place is one of it. -/
theorem readF_good : ∀ (f : Nat) (acc : List St) (l : List UInt8) (i : Nat), i ≤ l.length → (i = 0 ↔ acc = []) → acc.all rightS = true → acc.length ≤ 20 → (acc ≠ [] → textP acc = l.take i) →
    ((readF f acc l i).2.2 = 0 ∧ (readF f acc l i).2.1 = 0 ∧ rightP (readF f acc l i).1 = true ∧ textP (readF f acc l i).1 = l) ∨ ((readF f acc l i).2.2 = 1 ∧ (readF f acc l i).1 = [] ∧ (readF f acc l i).2.1 ≤ l.length)
  | 0, acc, l, i, hi, _, _, _, _ => Or.inr ⟨rfl, rfl, hi⟩
  | f + 1, acc, l, i, hi, h0, hr, hl, ht => by
    rw [readF]
    cases hb : bgn (l.drop i) (i == 0) with
    | none => exact Or.inr ⟨rfl, rfl, hi⟩
    | some x =>
      obtain ⟨g, n⟩ := x
      simp only
      have b1 := bgn_some hb
      have b2 := bgn_len hb
      have b3 := bgn_text hb
      rw [List.length_drop] at b2
      have h4 : textP (acc ++ [g]) = l.take (i + n) := by
        rw [List.take_add, b3]
        cases acc with
        | nil =>
          have : i = 0 := h0.2 rfl
          subst this
          simp [textP]
        | cons a r =>
          have hi0 : ¬ i = 0 := fun e => by simpa using h0.1 e
          have e1 : (i == 0) = false := by simpa using hi0
          rw [e1, ← ht (by simp)]
          simp only [textP, headT_append, List.flatMap_append, Bool.false_eq_true, if_false]
          simp
      have h5 : (acc ++ [g]).all rightS = true := by
        rw [List.all_append, hr]; simp [b1.1]
      split
      · exact Or.inr ⟨rfl, rfl, hi⟩
      · split
        · rename_i h20 hn
          left
          refine ⟨rfl, rfl, ?_, ?_⟩
          · unfold rightP
            rw [h5]
            simp; omega
          · rw [h4, hn]; simp
        · rename_i h20 hn
          exact readF_good f (acc ++ [g]) l (i + n) (by omega) ⟨fun h => by omega, fun h => by simp at h⟩ h5 (by simp; omega) (fun _ => h4)
theorem readP_good (l : List UInt8) : ((readP l).2.2 = 0 ∧ (readP l).2.1 = 0 ∧ rightP (readP l).1 = true ∧ textP (readP l).1 = l) ∨ ((readP l).2.2 = 1 ∧ (readP l).1 = [] ∧ (readP l).2.1 ≤ l.length) := by
  unfold readP
  split
  · rename_i h
    subst h
    exact Or.inl ⟨rfl, rfl, rfl, rfl⟩
  · exact readF_good _ [] l 0 (Nat.zero_le _) (by simp) rfl (by simp) (fun h => absurd rfl h)
/-- A path's text, step by step. -/
def textK (p : List St) (k : Nat) : List UInt8 := headT p ++ (p.take k).flatMap stT
theorem textK_zero (p : List St) : textK p 0 = headT p := by simp [textK]
theorem textK_succ {p : List St} {k : Nat} {s : St} (h : p[k]? = some s) : textK p (k + 1) = textK p k ++ stT s := by
  obtain ⟨hk, rfl⟩ := List.getElem?_eq_some_iff.1 h
  unfold textK
  rw [List.take_succ_eq_append_getElem hk, List.flatMap_append]
  simp
theorem textK_all {p : List St} {k : Nat} (h : p.length ≤ k) : textK p k = textP p := by
  unfold textK textP
  rw [List.take_of_length_le h]
theorem textK_len (p : List St) (k : Nat) : (textK p k).length ≤ (textP p).length := by
  unfold textK textP
  have : p.flatMap stT = (p.take k).flatMap stT ++ (p.drop k).flatMap stT := by rw [← List.flatMap_append, List.take_append_drop]
  rw [this]
  simp only [List.length_append]; omega
/-- Figures: what is written is read. -/
theorem dec_app : ∀ (n acc : Nat) (r : List UInt8), acc * 10 ^ (Lib.decDigits n).length + n < 1000000000000 → Lib.parseUint10 acc (Lib.decDigits n ++ r) = Lib.parseUint10 (acc * 10 ^ (Lib.decDigits n).length + n) r := by
  intro n
  induction n using Nat.strongRecOn with
  | _ n ih =>
    intro acc r h
    by_cases hn : n < 10
    · rw [Lib.decDigits_one hn] at h ⊢
      have hc : (UInt8.ofNat (48 + n)).toNat = 48 + n := by simp; omega
      simp only [List.length_singleton, Nat.pow_one, List.cons_append, List.nil_append] at h ⊢
      rw [Lib.parseUint10, hc, if_pos (by omega), if_neg (by omega), if_neg (by omega)]
      congr 1; omega
    · have e1 : Lib.decDigits n = Lib.decDigits (n / 10) ++ [UInt8.ofNat (48 + n % 10)] := by rw [Lib.decDigits, dif_neg hn]
      have hc : (UInt8.ofNat (48 + n % 10)).toNat = 48 + n % 10 := by simp; omega
      rw [e1, List.length_append, List.length_singleton, Nat.pow_succ, ← Nat.mul_assoc] at h ⊢
      generalize hz : acc * 10 ^ (Lib.decDigits (n / 10)).length = z at h ⊢
      rw [List.append_assoc, ih (n / 10) (by omega) acc _ (by rw [hz]; omega), hz, List.cons_append, List.nil_append, Lib.parseUint10, hc, if_pos (by omega), if_neg (by omega), if_neg (by omega)]
      congr 1; omega
theorem dec_fig : ∀ (n : Nat), Lib.decDigits n ≠ [] ∧ ∀ c ∈ Lib.decDigits n, 48 ≤ c.toNat ∧ c.toNat ≤ 57 := by
  intro n
  induction n using Nat.strongRecOn with
  | _ n ih =>
    by_cases hn : n < 10
    · rw [Lib.decDigits_one hn]
      refine ⟨by simp, fun c hc => ?_⟩
      rw [List.mem_singleton.1 hc]
      simp; omega
    · have e1 : Lib.decDigits n = Lib.decDigits (n / 10) ++ [UInt8.ofNat (48 + n % 10)] := by rw [Lib.decDigits, dif_neg hn]
      rw [e1]
      refine ⟨by simp, fun c hc => ?_⟩
      rcases List.mem_append.1 hc with hc | hc
      · exact (ih (n / 10) (by omega)).2 c hc
      · rw [List.mem_singleton.1 hc]
        simp; omega
theorem itoa_nat {n : Int} (h : 0 ≤ n) : Lib.itoa n = Lib.decDigits n.toNat := by unfold Lib.itoa; rw [if_neg (by omega)]
theorem atoi_itoa {n : Int} (h0 : 0 ≤ n) (h1 : n ≤ 1000000) : atoiN (Lib.itoa n) = n := by
  rw [itoa_nat h0]
  obtain ⟨hne, hf⟩ := dec_fig n.toNat
  have h2 := dec_app n.toNat 0 [] (by omega)
  rw [List.append_nil, Nat.zero_mul, Nat.zero_add, Lib.parseUint10] at h2
  unfold atoiN Lib.atoiAll
  cases hd : Lib.decDigits n.toNat with
  | nil => exact absurd hd hne
  | cons c r =>
    rw [hd] at hf h2
    have hc := hf c (by simp)
    simp only
    rw [if_neg (show ¬ (c.toNat = 43 ∨ c.toNat = 45) by omega), show Lib.parseMag (c :: r) = Lib.parseUint10 0 (c :: r) by rw [Lib.parseMag, if_neg (by simp)], h2]
    have h45 : ¬ c.toNat = 45 := by omega
    simp only [h45, not_false_eq_true, true_and, false_and, if_false]
    rw [if_neg (by omega)]
    simp only
    omega
theorem index_fig : ∀ (a t : List UInt8), (∀ c ∈ a, c.toNat ≠ 93) → Lib.index (a ++ 93 :: t) [93] = a.length
  | [], t, _ => by simp [Lib.index, List.isPrefixOf]
  | c :: a, t, h => by
    have hc : ¬ (93 : UInt8) = c := fun e => h c (by simp) (by rw [← e]; rfl)
    have hi := index_fig a t (fun x hx => h x (by simp [hx]))
    rw [List.cons_append, Lib.index, hi]
    have : [93].isPrefixOf (c :: (a ++ 93 :: t)) = false := by simp [List.isPrefixOf, hc]
    rw [this]
    simp
theorem cut_fig (a t : List UInt8) (h : ∀ c ∈ a, c.toNat ≠ 93) : (Lib.cut (a ++ 93 :: t) [93]).1 = a := by
  unfold Lib.cut
  rw [index_fig a t h, if_pos (by omega)]
  simp
/-- What may stand behind a step. -/
def stops (r : List UInt8) : Prop := r = [] ∨ ∃ c t, r = c :: t ∧ isLF c = false
theorem wrd_app {a r : List UInt8} (ha : isW a = true) (hr : stops r) : wrd (a ++ r) = a := by
  unfold isW at ha
  rw [Bool.and_eq_true, decide_eq_true_eq, decide_eq_true_eq] at ha
  obtain ⟨hne, hw⟩ := ha
  cases a with
  | nil => exact absurd rfl hne
  | cons c a =>
    rw [wrd] at hw
    by_cases hc : isL c = true
    · rw [if_pos hc] at hw
      injection hw with _ hw
      rw [List.cons_append, wrd, if_pos hc]
      congr 1
      have hall : ∀ x ∈ a, isLF x = true := by
        have := List.all_eq_true.1 (List.all_takeWhile (p := isLF) (l := a))
        rw [hw] at this; exact this
      rw [List.takeWhile_append_of_pos hall]
      rcases hr with rfl | ⟨d, t, rfl, hd⟩
      · simp
      · rw [List.takeWhile_cons, hd]; simp
    · rw [if_neg hc] at hw; cases hw
theorem isW_first {a : List UInt8} (ha : isW a = true) : ∃ c r, a = c :: r ∧ isL c = true := by
  unfold isW at ha
  rw [Bool.and_eq_true, decide_eq_true_eq, decide_eq_true_eq] at ha
  obtain ⟨hne, hw⟩ := ha
  cases a with
  | nil => exact absurd rfl hne
  | cons c a =>
    refine ⟨c, a, rfl, ?_⟩
    rw [wrd] at hw
    by_cases hc : isL c = true
    · exact hc
    · rw [if_neg hc] at hw; cases hw
theorem isL_ne {c : UInt8} (h : isL c = true) : c.toNat ≠ 34 ∧ c.toNat ≠ 46 ∧ c.toNat ≠ 91 := by
  simp [isL] at h; omega
/-- A step's text, whatever stops behind it, is guessed as the step. -/
theorem gss_back {s : St} {r : List UInt8} (hs : rightS s = true) (hr : stops r) : gss (stT s ++ r) = s := by
  obtain ⟨pt, nm, n⟩ := s
  cases pt with
  | true =>
    unfold rightS at hs
    simp only [if_true, Bool.and_eq_true, decide_eq_true_eq] at hs
    obtain ⟨⟨rfl, h0⟩, h1⟩ := hs
    have e1 : stT ⟨true, [], n⟩ ++ r = [91] ++ (Lib.itoa n ++ 93 :: r) := by simp [stT]
    rw [e1]
    unfold gss
    rw [if_pos (pre_iff.2 ⟨_, rfl⟩), trim_of, cut_fig, atoi_itoa h0 h1]
    intro c hc
    rw [itoa_nat h0] at hc
    have := (dec_fig _).2 c hc
    omega
  | false =>
    unfold rightS at hs
    simp only [Bool.false_eq_true, if_false, Bool.and_eq_true, decide_eq_true_eq] at hs
    obtain ⟨rfl, hv⟩ := hs
    by_cases hw : isW nm = true
    · have e1 : stT ⟨false, nm, 0⟩ ++ r = [46] ++ (nm ++ r) := by simp [stT, hw]
      rw [e1]
      unfold gss
      have e2 : Lib.hasPrefix ([46] ++ (nm ++ r)) [91] = false := by simp [Lib.hasPrefix, List.isPrefixOf]
      rw [e2, trim_of]
      obtain ⟨c, a, rfl, hc⟩ := isW_first hw
      have e3 : unqs (c :: a ++ r) = ([], 0, 1) := by
        unfold unqs
        rw [if_neg (show ¬ bt (c :: a ++ r) 0 = 34 from fun e => (isL_ne hc).1 (by simpa [bt] using e))]
      rw [e3]
      simp only [Bool.false_eq_true, if_false]
      rw [if_neg (by decide), wrd_app hw hr]
    · have e1 : stT ⟨false, nm, 0⟩ ++ r = [46] ++ (quo nm ++ r) := by simp [stT, hw]
      rw [e1]
      unfold gss
      have e2 : Lib.hasPrefix ([46] ++ (quo nm ++ r)) [91] = false := by simp [Lib.hasPrefix, List.isPrefixOf]
      rw [e2, trim_of, quo_back nm r hv]
      simp
theorem stT_head (s : St) : ∃ c t, stT s = c :: t ∧ isLF c = false ∧ (s.part = true → c = 91) ∧ (s.part = false → c = 46) := by
  unfold stT
  split
  · rename_i h
    exact ⟨91, _, rfl, by decide, fun _ => rfl, fun e => by rw [h] at e; cases e⟩
  · rename_i h
    split
    · exact ⟨46, _, rfl, by decide, fun e => absurd e h, fun _ => rfl⟩
    · exact ⟨46, _, rfl, by decide, fun e => absurd e h, fun _ => rfl⟩
theorem flat_stops (p : List St) : stops (p.flatMap stT) := by
  cases p with
  | nil => exact Or.inl rfl
  | cons s p =>
    obtain ⟨c, t, h, hc, -⟩ := stT_head s
    exact Or.inr ⟨c, t ++ p.flatMap stT, by rw [List.flatMap_cons, h]; rfl, hc⟩
theorem bgn_back {s : St} {r : List UInt8} (first : Bool) (hs : rightS s = true) (hr : stops r) : bgn ((if first then headT [s] else []) ++ stT s ++ r) first = some (s, (if first then (headT [s]).length else 0) + (stT s).length) := by
  obtain ⟨c, t, h, hc, h1, h2⟩ := stT_head s
  have hg := gss_back hs hr
  have hp : Lib.hasPrefix (stT s ++ r) (stT s) = true := pre_iff.2 ⟨r, rfl⟩
  cases first with
  | false =>
    unfold bgn
    have ha : ahd (stT s ++ r) false = 0 := rfl
    simp only [Bool.false_eq_true, if_false, List.nil_append, Bool.false_and, ha, List.drop_zero, hg, hs, hp, Bool.and_true, if_true]
  | true =>
    cases hpt : s.part with
    | true =>
      have e1 : (headT [s]) ++ stT s ++ r = 46 :: (stT s ++ r) := by simp [headT, hpt]
      have e3 : (headT [s]).length = 1 := by simp [headT, hpt]
      have e2 : Lib.hasPrefix (46 :: (stT s ++ r)) [46, 91] = true := by
        rw [h, h1 hpt]; exact pre_iff.2 ⟨t ++ r, rfl⟩
      unfold bgn
      simp only [if_true]
      rw [e1, e3]
      have ha : ahd (46 :: (stT s ++ r)) true = 1 := by unfold ahd; rw [e2]; rfl
      rw [ha]
      simp only [e2, List.drop_succ_cons, List.drop_zero, hg, hs, hp, Bool.and_true, if_true, Bool.not_true, Bool.and_false, Bool.false_and, Bool.false_eq_true, if_false]
    | false =>
      have e1 : (headT [s]) ++ stT s ++ r = stT s ++ r := by simp [headT, hpt]
      have e3 : (headT [s]).length = 0 := by simp [headT, hpt]
      have e2 : Lib.hasPrefix (stT s ++ r) [46] = true := by
        rw [h, h2 hpt]; exact pre_iff.2 ⟨t ++ r, rfl⟩
      have e4 : Lib.hasPrefix (stT s ++ r) [46, 91] = false := by
        unfold stT
        rw [hpt]
        simp only [Bool.false_eq_true, if_false]
        split
        · rename_i hw
          obtain ⟨d, a, ha, hd⟩ := isW_first hw
          rw [ha]
          have : ¬ (91 : UInt8) = d := fun e => (isL_ne hd).2.2 (by rw [← e]; rfl)
          simp [Lib.hasPrefix, List.isPrefixOf, this]
        · simp [Lib.hasPrefix, List.isPrefixOf, quo]
      unfold bgn
      simp only [if_true]
      rw [e1, e3]
      have ha : ahd (stT s ++ r) true = 0 := by unfold ahd; rw [e4]; rfl
      rw [ha]
      simp only [e2, e4, List.drop_zero, hg, hs, hp, Bool.and_true, if_true, Bool.not_true, Bool.not_false, Bool.and_false, Bool.false_eq_true, if_false, Nat.zero_add]
theorem readF_back : ∀ (q acc : List St) (f : Nat) (l : List UInt8) (i : Nat), q ≠ [] → q.all rightS = true → acc.length + q.length ≤ 20 → l.length < i + f → i ≤ l.length → (i = 0 ↔ acc = []) →
    l.drop i = (if i == 0 then headT q else []) ++ q.flatMap stT → readF f acc l i = (acc ++ q, 0, 0)
  | [], _, _, _, _, h, _, _, _, _, _, _ => absurd rfl h
  | s :: q, acc, 0, l, i, _, _, _, hf, hi, _, _ => by omega
  | s :: q, acc, f + 1, l, i, _, hr, hn, hf, hi, h0, hl => by
    rw [List.all_cons, Bool.and_eq_true] at hr
    have hb := bgn_back (i == 0) hr.1 (flat_stops q)
    rw [List.flatMap_cons, ← List.append_assoc, headT_one] at hl
    rw [← hl] at hb
    rw [readF, hb]
    simp only
    rw [if_neg (by simp at hn; omega)]
    have hlen : l.length = i + ((if i == 0 then (headT [s]).length else 0) + (stT s).length) + (q.flatMap stT).length := by
      have h5 := congrArg List.length hl
      rw [List.length_drop, List.length_append, List.length_append] at h5
      cases he : (i == 0) <;> rw [he] at h5 <;> simp only [if_true, Bool.false_eq_true, if_false, List.length_nil] at h5 ⊢ <;> omega
    have hpos := stT_pos s
    generalize hk : (if i == 0 then (headT [s]).length else 0) + (stT s).length = k at hlen ⊢
    have hk1 : 1 ≤ k := by omega
    have hdrop : l.drop (i + k) = q.flatMap stT := by
      rw [← List.drop_drop, hl]
      have : k = ((if i == 0 then headT [s] else []) ++ stT s).length := by
        rw [← hk, List.length_append]
        cases (i == 0) <;> rfl
      rw [this, List.drop_left]
    cases q with
    | nil =>
      rw [if_pos (by simp at hlen; omega)]
    | cons s' q =>
      have hp2 := stT_pos s'
      have h6 : ¬ i + k = l.length := by
        rw [List.flatMap_cons, List.length_append] at hlen; omega
      rw [if_neg h6]
      have h7 : ((i + k) == 0) = false := by simp; omega
      rw [readF_back (s' :: q) (acc ++ [s]) f l (i + k) (by simp) hr.2 (by simp at hn ⊢; omega) (by omega) (by omega) ⟨fun h => by omega, fun h => by simp at h⟩ (by rw [h7, hdrop]; rfl)]
      simp
/-- A path's text is read as it. -/
theorem readP_back {p : List St} (h : rightP p = true) : readP (textP p) = (p, 0, 0) := by
  unfold rightP at h
  rw [Bool.and_eq_true, decide_eq_true_eq] at h
  cases p with
  | nil => rfl
  | cons s p =>
    unfold readP
    have hne : ¬ textP (s :: p) = [46] := by
      obtain ⟨c, t, h1, -, h2, h3⟩ := stT_head s
      cases hp : s.part with
      | true => simp [textP, headT, hp, h1]
      | false =>
        unfold textP stT at *
        simp only [headT, hp, Bool.false_eq_true, if_false, List.nil_append, List.flatMap_cons]
        split
        · rename_i hw
          obtain ⟨d, a, ha, hd⟩ := isW_first hw
          rw [ha]; simp
        · simp [quo]
    rw [if_neg hne]
    have := readF_back (s :: p) [] ((textP (s :: p)).length + 1) (textP (s :: p)) 0 (by simp) h.1 (by simpa using h.2) (by omega) (Nat.zero_le _) (by simp) (by rw [List.drop_zero]; rfl)
    simpa using this
/-- A text of two paths, one behind the other, where the second one begins with a field. -/
theorem text_append {p q : List St} (hp : p ≠ []) (hq : q ≠ []) (hf : (q.head hq).part = false) : textP (p ++ q) = textP p ++ textP q := by
  cases p with
  | nil => exact absurd rfl hp
  | cons s p =>
    cases q with
    | nil => exact absurd rfl hq
    | cons s' q =>
      have hf : s'.part = false := hf
      unfold textP
      rw [headT_append, List.flatMap_append]
      simp [headT, hf]
end Pw
end Go.Proofs.YtdibcamnoolnmaaGreatDoor

/-
  path's word: the word that a text begins with.
-/
namespace Go.Proofs.YtdibcamnoolnmaaGreatDoor
open Go.RowKit Np Rw Vp Pw

set_option maxHeartbeats 1000000 in
theorem pletter_any (c : UInt8) (w : World) : Calls Tryz.prog 169 #[.int .u8 c.toNat] w fun e w' => e = .returned (.bool (isL c)) ∧ w' = w := by
  have h0 : c.toNat < 256 := c.toNat_lt
  have HL : Hid (isL c = (decide (97 ≤ c.toNat ∧ c.toNat ≤ 122) || decide (65 ≤ c.toNat ∧ c.toNat ≤ 90) || decide (c.toNat = 95))) := Lib.hid rfl
  generalize isL c = b at *
  generalize c.toNat = n at *
  by_cases h1 : 97 ≤ n
  · by_cases h2 : n ≤ 122
    · have HR : Hid (b = true) := Lib.hid (by rw [HL.out]; simp; omega)
      go_enter Tryz.func169, Tryz.ntmps169
      go_wp2_with fail
      go_ret
      exact ⟨ret_bool HR.out.symm, rfl⟩
    · have HR : Hid (b = false) := Lib.hid (by rw [HL.out]; simp; omega)
      go_enter Tryz.func169, Tryz.ntmps169
      go_wp2_with fail
      all_goals go_ret
      all_goals exact ⟨ret_bool (by rw [HR.out]; simp; omega), rfl⟩
  · by_cases h3 : 65 ≤ n
    · by_cases h4 : n ≤ 90
      · have HR : Hid (b = true) := Lib.hid (by rw [HL.out]; simp; omega)
        go_enter Tryz.func169, Tryz.ntmps169
        go_wp2_with fail
        go_ret
        exact ⟨ret_bool HR.out.symm, rfl⟩
      · have HR : Hid (b = decide (n = 95)) := Lib.hid (by rw [HL.out, Bool.eq_iff_iff]; simp; omega)
        go_enter Tryz.func169, Tryz.ntmps169
        go_wp2_with fail
        all_goals go_ret
        all_goals exact ⟨ret_bool (by rw [HR.out, Bool.eq_iff_iff]; simp; omega), rfl⟩
    · have HR : Hid (b = false) := Lib.hid (by rw [HL.out]; simp; omega)
      go_enter Tryz.func169, Tryz.ntmps169
      go_wp2_with fail
      all_goals go_ret
      all_goals exact ⟨ret_bool (by rw [HR.out]; simp; omega), rfl⟩
set_option maxHeartbeats 1000000 in
theorem pfigure_any (c : UInt8) (w : World) : Calls Tryz.prog 170 #[.int .u8 c.toNat] w fun e w' => e = .returned (.bool (isF c)) ∧ w' = w := by
  have h0 : c.toNat < 256 := c.toNat_lt
  have HL : Hid (isF c = decide (48 ≤ c.toNat ∧ c.toNat ≤ 57)) := Lib.hid rfl
  generalize isF c = b at *
  generalize c.toNat = n at *
  by_cases h1 : 48 ≤ n
  · go_enter Tryz.func170, Tryz.ntmps170
    go_wp2_with fail
    all_goals go_ret
    all_goals exact ⟨ret_bool (by rw [HL.out, Bool.eq_iff_iff]; simp; omega), rfl⟩
  · go_enter Tryz.func170, Tryz.ntmps170
    go_wp2_with fail
    all_goals go_ret
    all_goals exact ⟨ret_bool (by rw [HL.out, Bool.eq_iff_iff]; simp; omega), rfl⟩

set_option maxRecDepth 100000 in
set_option maxHeartbeats 2000000 in
theorem word_any (s : ByteArray) (w : World) (hs : s.size ≤ maxLen) : Calls Tryz.prog 127 #[.string s] w fun e w' => e = .returned (.string ⟨(wrd s.data.toList).toArray⟩) ∧ w' = w := by
  unfold maxLen at hs
  have HX : Hid (∀ k, (h : k < s.size) → okAt s.data.toList k = (isL s[k] || (decide (0 < k) && isF s[k]))) := Lib.hid fun k h => by
    have : s.data.toList[k]? = some s[k] := by
      rw [List.getElem?_eq_getElem (by rw [size_toList]; exact h)]; rfl
    rw [okAt, this]
  have HEND : Hid (∀ k, k ≤ s.size → (∀ j, j < k → okAt s.data.toList j = true) → okAt s.data.toList k = false → s.extract 0 k = ⟨(wrd s.data.toList).toArray⟩) := Lib.hid fun k hk h0 h1 => by
    rw [wrd_of (by rw [size_toList]; exact hk) h0 h1]
    have h := Lib.extract_toList s 0 k
    rw [ByteArray.toList_eq, List.drop_zero, Nat.sub_zero] at h
    rw [← h]
  go_enter Tryz.func127, Tryz.ntmps127
  go_wp2_with fail
  go_loopw [3] (fun av wr => ∃ k : Nat, k ≤ s.size ∧ av = .int .i64 k ∧ Hid (∀ j, j < k → okAt s.data.toList j = true) ∧ wr = w) (fun av _ => s.size - (intOf av).toNat)
  case atStart => exact ⟨0, Nat.zero_le _, rfl, Lib.hid (by intro j hj; omega), rfl⟩
  case round =>
    obtain ⟨k, hk, rfl, HA, rfl⟩ := hrel
    by_cases hlt : k < s.size
    · have HO := Lib.hid (HX.out k hlt)
      go_wp2_with fail
      refine (pletter_any s[k] _).mono ?_
      rintro e w1 ⟨rfl, rfl⟩
      cases hL : isL s[k] with
      | true =>
        have HA2 : Hid (∀ j, j < k + 1 → okAt s.data.toList j = true) := Lib.hid fun j hj => by
          by_cases hjk : j < k
          · exact HA.out j hjk
          · obtain rfl : j = k := by omega
            rw [HO.out, hL]; rfl
        clear hL
        go_wp2_with fail
        go_roundw
        case rel => exact ⟨k + 1, by omega, by go_num, HA2, by first | trivial | rfl⟩
        case measure => simp [intOf]; omega
      | false =>
        by_cases h0 : 0 < k
        · have h0' : (k : Int) > 0 := by omega
          go_wp2_with fail
          refine (pfigure_any s[k] _).mono ?_
          rintro e w1 ⟨rfl, rfl⟩
          cases hF : isF s[k] with
          | true =>
            have HA2 : Hid (∀ j, j < k + 1 → okAt s.data.toList j = true) := Lib.hid fun j hj => by
              by_cases hjk : j < k
              · exact HA.out j hjk
              · obtain rfl : j = k := by omega
                rw [HO.out, hL, hF]; simp [h0]
            clear hL hF
            go_wp2_with fail
            go_roundw
            case rel => exact ⟨k + 1, by omega, by go_num, HA2, by first | trivial | rfl⟩
            case measure => simp [intOf]; omega
          | false =>
            have HE := Lib.hid (HEND.out k hk HA.out (by rw [HO.out, hL, hF]; simp))
            clear hL hF
            go_wp2_with fail
            go_ret
            exact ⟨ret_str HE.out, rfl⟩
        · have HE := Lib.hid (HEND.out k hk HA.out (by rw [HO.out, hL]; simp [h0]))
          clear hL
          go_wp2_with fail
          go_ret
          exact ⟨ret_str HE.out, rfl⟩
    · obtain rfl : k = s.size := by omega
      have HE := Lib.hid (HEND.out s.size hk HA.out (by
        rw [okAt, List.getElem?_eq_none (by rw [size_toList]; omega)]))
      go_wp2_with fail
      go_ret
      exact ⟨ret_str (by have := HE.out; simpa using this), rfl⟩
end Go.Proofs.YtdibcamnoolnmaaGreatDoor
