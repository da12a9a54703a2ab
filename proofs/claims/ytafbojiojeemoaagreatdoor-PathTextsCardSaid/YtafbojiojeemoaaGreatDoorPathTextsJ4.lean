/-
  Joined: PaT, PaB1, PT1, PaR0, PaR.
-/
import Derived.Test.YtafbojiojeemoaaGreatDoorPathTextsJ2
import Derived.Test.YtafbojiojeemoaaGreatDoorPathTextsJ3
import Derived.Lib.ItoaNum
import Derived.Lib.AtoiAll
import Derived.Lib.IndexMore
import Derived.Lib.IndexBytes
import Derived.Test.YtafbojiojeemoaaGreatDoorMem
import Derived.Lib.ValidLaws

/-
  Plain words on texts of paths: a word, a step's text and a path's; the step that a text begins with, and the path of a text; back and forth. No program stands here.
-/
namespace Go.Proofs.YtafbojiojeemoaaGreatDoor
namespace Pw
open Go.RowKit Np Rw Vp Up Qp

def isL (c : UInt8) : Bool := decide (97 ≤ c.toNat ∧ c.toNat ≤ 122) || decide (65 ≤ c.toNat ∧ c.toNat ≤ 90) || decide (c.toNat = 95)
def isF (c : UInt8) : Bool := decide (48 ≤ c.toNat ∧ c.toNat ≤ 57)
def isLF (c : UInt8) : Bool := isL c || isF c
/-- The word that a text begins with. -/
def wrd : List UInt8 → List UInt8
  | [] => []
  | c :: r => if isL c then c :: r.takeWhile isLF else []
/-- The place that a word goes on at. -/
def okAt (l : List UInt8) (k : Nat) : Bool := match l[k]? with
  | none => false
  | some c => isL c || (decide (0 < k) && isF c)
theorem takeWhile_len {α : Type} (p : α → Bool) : ∀ (l : List α) (n : Nat), n ≤ l.length → (∀ j, j < n → ∀ x, l[j]? = some x → p x = true) → (n = l.length ∨ ∃ x, l[n]? = some x ∧ p x = false) → l.takeWhile p = l.take n
  | [], n, hn, _, _ => by simp
  | a :: l, 0, _, _, h => by
    rcases h with h | ⟨x, hx, hp⟩
    · simp at h
    · simp at hx; subst hx
      rw [List.takeWhile_cons, hp]; simp
  | a :: l, n + 1, hn, h0, h => by
    have ha : p a = true := h0 0 (by omega) a (by simp)
    rw [List.takeWhile_cons, if_pos ha, List.take_succ_cons]
    congr 1
    refine takeWhile_len p l n (by simpa using hn) (fun j hj x hx => h0 (j + 1) (by omega) x (by simpa using hx)) ?_
    rcases h with h | ⟨x, hx, hp⟩
    · left; simpa using h
    · right; exact ⟨x, by simpa using hx, hp⟩
/-- What the walk finds is the word. -/
theorem wrd_of {l : List UInt8} {n : Nat} (hn : n ≤ l.length) (h0 : ∀ j, j < n → okAt l j = true) (h1 : okAt l n = false) : wrd l = l.take n := by
  cases l with
  | nil => simp [wrd]
  | cons c r =>
    cases n with
    | zero =>
      have : isL c = false := by simpa [okAt] using h1
      rw [wrd, this]; simp
    | succ n =>
      have hc : isL c = true := by simpa [okAt] using h0 0 (by omega)
      rw [wrd, if_pos hc, List.take_succ_cons]
      congr 1
      refine takeWhile_len isLF r n (by simpa using hn) (fun j hj x hx => ?_) ?_
      · have := h0 (j + 1) (by omega)
        rw [okAt, List.getElem?_cons_succ, hx] at this
        simpa [isLF] using this
      · rw [okAt, List.getElem?_cons_succ] at h1
        cases hr : r[n]? with
        | none =>
          left
          have := List.getElem?_eq_none_iff.1 hr
          simp at hn; omega
        | some x =>
          rw [hr] at h1
          exact Or.inr ⟨x, rfl, by simpa [isLF] using h1⟩
theorem wrd_le (l : List UInt8) : (wrd l).length ≤ l.length := by
  cases l with
  | nil => simp [wrd]
  | cons c r =>
    rw [wrd]; split
    · have := (List.takeWhile_sublist isLF (l := r)).length_le
      simp; omega
    · simp
theorem wrd_low : ∀ (l : List UInt8), ∀ c ∈ wrd l, c.toNat < 128 := by
  intro l c hc
  cases l with
  | nil => simp [wrd] at hc
  | cons a r =>
    rw [wrd] at hc
    have hL : ∀ x : UInt8, isL x = true → x.toNat < 128 := fun x h => by simp [isL] at h; omega
    have hF : ∀ x : UInt8, isF x = true → x.toNat < 128 := fun x h => by simp [isF] at h; omega
    split at hc
    · rename_i ha
      rcases List.mem_cons.1 hc with rfl | hc
      · exact hL _ ha
      · have := List.all_eq_true.1 (List.all_takeWhile (p := isLF) (l := r)) c hc
        simp [isLF] at this
        rcases this with h | h
        · exact hL _ h
        · exact hF _ h
    · simp at hc
/-- A step's text. -/
def isW (name : List UInt8) : Bool := decide (name ≠ []) && decide (wrd name = name)
def stT (s : St) : List UInt8 := if s.part then 91 :: (Lib.itoa s.n ++ [93]) else if isW s.name then 46 :: s.name else 46 :: quo s.name
def headT (p : List St) : List UInt8 := match p with
  | [] => [46]
  | s :: _ => if s.part then [46] else []
/-- A path's text. -/
def textP (p : List St) : List UInt8 := headT p ++ p.flatMap stT
/-- The number of a text of figures, or what is told in its place. -/
def atoiN (l : List UInt8) : Int := match Lib.atoiAll l with
  | .ok v => v
  | .range => Lib.atoiSat l
  | _ => 0
/-- The step that a text begins with, if it begins with one. -/
def gss (l : List UInt8) : St :=
  if Lib.hasPrefix l [91] then ⟨true, [], atoiN (Lib.cut (Lib.trimPrefix l [91]) [93]).1⟩
  else if (unqs (Lib.trimPrefix l [46])).2.2 = 0 then ⟨false, (unqs (Lib.trimPrefix l [46])).1, 0⟩
  else ⟨false, wrd (Lib.trimPrefix l [46]), 0⟩
def ahd (l : List UInt8) (first : Bool) : Nat := if first && Lib.hasPrefix l [46, 91] then 1 else 0
def bgn (l : List UInt8) (first : Bool) : Option (St × Nat) :=
  if first && !Lib.hasPrefix l [46, 91] && !Lib.hasPrefix l [46] then none
  else if rightS (gss (l.drop (ahd l first))) && Lib.hasPrefix (l.drop (ahd l first)) (stT (gss (l.drop (ahd l first)))) then some (gss (l.drop (ahd l first)), ahd l first + (stT (gss (l.drop (ahd l first)))).length) else none
def readF : Nat → List St → List UInt8 → Nat → List St × Nat × Int
  | 0, _, _, i => ([], i, 1)
  | f + 1, acc, l, i => match bgn (l.drop i) (i == 0) with
    | none => ([], i, 1)
    | some (g, n) => if acc.length = 20 then ([], i, 1) else if i + n = l.length then (acc ++ [g], 0, 0) else readF f (acc ++ [g]) l (i + n)
/-- The path of a text, or where it is none. -/
def readP (l : List UInt8) : List St × Nat × Int := if l = [46] then ([], 0, 0) else readF (l.length + 1) [] l 0

theorem pre_iff {l p : List UInt8} : Lib.hasPrefix l p = true ↔ ∃ t, l = p ++ t := by
  unfold Lib.hasPrefix
  rw [List.isPrefixOf_iff_prefix]
  constructor
  · rintro ⟨t, rfl⟩; exact ⟨t, rfl⟩
  · rintro ⟨t, rfl⟩; exact ⟨t, rfl⟩
theorem pre_len {l p : List UInt8} (h : Lib.hasPrefix l p = true) : p.length ≤ l.length := by
  obtain ⟨t, rfl⟩ := pre_iff.1 h; simp
theorem trim_of (p t : List UInt8) : Lib.trimPrefix (p ++ t) p = t := by
  unfold Lib.trimPrefix
  rw [if_pos (pre_iff.2 ⟨t, rfl⟩)]; simp
theorem stT_pos (s : St) : 1 ≤ (stT s).length := by
  unfold stT; split
  · simp
  · split <;> simp
theorem bgn_some {l : List UInt8} {first : Bool} {g : St} {n : Nat} (h : bgn l first = some (g, n)) : rightS g = true ∧ g = gss (l.drop (ahd l first)) ∧ n = ahd l first + (stT g).length ∧ (∃ t, l.drop (ahd l first) = stT g ++ t) ∧ (first = true → Lib.hasPrefix l [46, 91] = true ∨ Lib.hasPrefix l [46] = true) := by
  unfold bgn at h
  split at h
  · cases h
  · rename_i h1
    split at h
    · rename_i h2
      injection h with h
      injection h with ha hb
      rw [Bool.and_eq_true] at h2
      subst ha
      refine ⟨h2.1, rfl, hb.symm, pre_iff.1 h2.2, fun hf => ?_⟩
      subst hf
      cases hp : Lib.hasPrefix l [46, 91] <;> cases hq : Lib.hasPrefix l [46] <;> simp_all
    · cases h
theorem ahd_le (l : List UInt8) (first : Bool) : ahd l first ≤ l.length := by
  unfold ahd; split
  · rename_i h
    rw [Bool.and_eq_true] at h
    have := pre_len h.2
    simp at this; omega
  · omega
theorem bgn_len {l : List UInt8} {first : Bool} {g : St} {n : Nat} (h : bgn l first = some (g, n)) : 1 ≤ n ∧ n ≤ l.length := by
  obtain ⟨-, -, hn, ⟨t, ht⟩, -⟩ := bgn_some h
  have h1 := stT_pos g
  have h2 := congrArg List.length ht
  have h3 := ahd_le l first
  rw [List.length_drop, List.length_append] at h2
  omega
theorem bgn_text {l : List UInt8} {first : Bool} {g : St} {n : Nat} (h : bgn l first = some (g, n)) : l.take n = (if first then headT [g] else []) ++ stT g := by
  obtain ⟨-, hg, hn, ⟨t, ht⟩, hf⟩ := bgn_some h
  subst hn
  unfold ahd at *
  cases first with
  | false =>
    simp only [Bool.false_and, Bool.false_eq_true, if_false, List.drop_zero, Nat.zero_add, List.nil_append] at *
    rw [ht]; simp
  | true =>
    simp only [Bool.true_and, if_true] at *
    by_cases h2 : Lib.hasPrefix l [46, 91] = true
    · obtain ⟨r, hr⟩ := pre_iff.1 h2
      simp only [h2, if_true] at *
      subst hr
      have hg2 : g.part = true := by
        rw [hg]; unfold gss
        rw [if_pos (pre_iff.2 ⟨r, by simp⟩)]
      simp only [headT, hg2, if_true]
      simp only [List.cons_append, List.nil_append, List.drop_succ_cons, List.drop_zero] at ht
      rw [show [46, 91] ++ r = 46 :: (91 :: r) by simp, ht, Nat.add_comm, List.take_succ_cons]
      simp
    · have h2' : Lib.hasPrefix l [46, 91] = false := by simpa using h2
      have h3 : ∃ r, l = [46] ++ r := pre_iff.1 ((hf trivial).resolve_left h2)
      simp only [h2', Bool.false_eq_true, if_false, List.drop_zero, Nat.zero_add] at *
      obtain ⟨r, rfl⟩ := h3
      have hg2 : g.part = false := by
        rw [hg]; unfold gss
        have : Lib.hasPrefix ([46] ++ r) [91] = false := by simp [Lib.hasPrefix, List.isPrefixOf]
        rw [this]
        simp only [Bool.false_eq_true, if_false]
        split <;> rfl
      simp only [headT, hg2, Bool.false_eq_true, if_false, List.nil_append]
      rw [ht]; simp
theorem headT_append (s : St) (p q : List St) : headT (s :: p ++ q) = headT (s :: p) := rfl
theorem headT_one (s : St) (p : List St) : headT (s :: p) = headT [s] := rfl
/-- What any text is read as is right, and has it for its text; else the place is one of it. -/
theorem readF_good : ∀ (f : Nat) (acc : List St) (l : List UInt8) (i : Nat), i ≤ l.length → (i = 0 ↔ acc = []) → acc.all rightS = true → acc.length ≤ 20 → (acc ≠ [] → textP acc = l.take i) →
    ((readF f acc l i).2.2 = 0 ∧ (readF f acc l i).2.1 = 0 ∧ rightP (readF f acc l i).1 = true ∧ textP (readF f acc l i).1 = l) ∨ ((readF f acc l i).2.2 = 1 ∧ (readF f acc l i).1 = [] ∧ (readF f acc l i).2.1 ≤ l.length)
  | 0, acc, l, i, hi, _, _, _, _ => Or.inr ⟨rfl, rfl, hi⟩
  | f + 1, acc, l, i, hi, h0, hr, hl, ht => by
    rw [readF]
    cases hb : bgn (l.drop i) (i == 0) with
    | none => exact Or.inr ⟨rfl, rfl, hi⟩
    | some x =>
      obtain ⟨g, n⟩ := x
      simp only
      have b1 := bgn_some hb
      have b2 := bgn_len hb
      have b3 := bgn_text hb
      rw [List.length_drop] at b2
      have h4 : textP (acc ++ [g]) = l.take (i + n) := by
        rw [List.take_add, b3]
        cases acc with
        | nil =>
          have : i = 0 := h0.2 rfl
          subst this
          simp [textP]
        | cons a r =>
          have hi0 : ¬ i = 0 := fun e => by simpa using h0.1 e
          have e1 : (i == 0) = false := by simpa using hi0
          rw [e1, ← ht (by simp)]
          simp only [textP, headT_append, List.flatMap_append, Bool.false_eq_true, if_false]
          simp
      have h5 : (acc ++ [g]).all rightS = true := by
        rw [List.all_append, hr]; simp [b1.1]
      split
      · exact Or.inr ⟨rfl, rfl, hi⟩
      · split
        · rename_i h20 hn
          left
          refine ⟨rfl, rfl, ?_, ?_⟩
          · unfold rightP
            rw [h5]
            simp; omega
          · rw [h4, hn]; simp
        · rename_i h20 hn
          exact readF_good f (acc ++ [g]) l (i + n) (by omega) ⟨fun h => by omega, fun h => by simp at h⟩ h5 (by simp; omega) (fun _ => h4)
theorem readP_good (l : List UInt8) : ((readP l).2.2 = 0 ∧ (readP l).2.1 = 0 ∧ rightP (readP l).1 = true ∧ textP (readP l).1 = l) ∨ ((readP l).2.2 = 1 ∧ (readP l).1 = [] ∧ (readP l).2.1 ≤ l.length) := by
  unfold readP
  split
  · rename_i h
    subst h
    exact Or.inl ⟨rfl, rfl, rfl, rfl⟩
  · exact readF_good _ [] l 0 (Nat.zero_le _) (by simp) rfl (by simp) (fun h => absurd rfl h)
/-- A path's text, step by step. -/
def textK (p : List St) (k : Nat) : List UInt8 := headT p ++ (p.take k).flatMap stT
theorem textK_zero (p : List St) : textK p 0 = headT p := by simp [textK]
theorem textK_succ {p : List St} {k : Nat} {s : St} (h : p[k]? = some s) : textK p (k + 1) = textK p k ++ stT s := by
  obtain ⟨hk, rfl⟩ := List.getElem?_eq_some_iff.1 h
  unfold textK
  rw [List.take_succ_eq_append_getElem hk, List.flatMap_append]
  simp
theorem textK_all {p : List St} {k : Nat} (h : p.length ≤ k) : textK p k = textP p := by
  unfold textK textP
  rw [List.take_of_length_le h]
theorem textK_len (p : List St) (k : Nat) : (textK p k).length ≤ (textP p).length := by
  unfold textK textP
  have : p.flatMap stT = (p.take k).flatMap stT ++ (p.drop k).flatMap stT := by rw [← List.flatMap_append, List.take_append_drop]
  rw [this]
  simp only [List.length_append]; omega
/-- Figures: what is written is read. -/
theorem dec_app : ∀ (n acc : Nat) (r : List UInt8), acc * 10 ^ (Lib.decDigits n).length + n < 1000000000000 → Lib.parseUint10 acc (Lib.decDigits n ++ r) = Lib.parseUint10 (acc * 10 ^ (Lib.decDigits n).length + n) r := by
  intro n
  induction n using Nat.strongRecOn with
  | _ n ih =>
    intro acc r h
    by_cases hn : n < 10
    · rw [Lib.decDigits_one hn] at h ⊢
      have hc : (UInt8.ofNat (48 + n)).toNat = 48 + n := by simp; omega
      simp only [List.length_singleton, Nat.pow_one, List.cons_append, List.nil_append] at h ⊢
      rw [Lib.parseUint10, hc, if_pos (by omega), if_neg (by omega), if_neg (by omega)]
      congr 1; omega
    · have e1 : Lib.decDigits n = Lib.decDigits (n / 10) ++ [UInt8.ofNat (48 + n % 10)] := by rw [Lib.decDigits, dif_neg hn]
      have hc : (UInt8.ofNat (48 + n % 10)).toNat = 48 + n % 10 := by simp; omega
      rw [e1, List.length_append, List.length_singleton, Nat.pow_succ, ← Nat.mul_assoc] at h ⊢
      generalize hz : acc * 10 ^ (Lib.decDigits (n / 10)).length = z at h ⊢
      rw [List.append_assoc, ih (n / 10) (by omega) acc _ (by rw [hz]; omega), hz, List.cons_append, List.nil_append, Lib.parseUint10, hc, if_pos (by omega), if_neg (by omega), if_neg (by omega)]
      congr 1; omega
theorem dec_fig : ∀ (n : Nat), Lib.decDigits n ≠ [] ∧ ∀ c ∈ Lib.decDigits n, 48 ≤ c.toNat ∧ c.toNat ≤ 57 := by
  intro n
  induction n using Nat.strongRecOn with
  | _ n ih =>
    by_cases hn : n < 10
    · rw [Lib.decDigits_one hn]
      refine ⟨by simp, fun c hc => ?_⟩
      rw [List.mem_singleton.1 hc]
      simp; omega
    · have e1 : Lib.decDigits n = Lib.decDigits (n / 10) ++ [UInt8.ofNat (48 + n % 10)] := by rw [Lib.decDigits, dif_neg hn]
      rw [e1]
      refine ⟨by simp, fun c hc => ?_⟩
      rcases List.mem_append.1 hc with hc | hc
      · exact (ih (n / 10) (by omega)).2 c hc
      · rw [List.mem_singleton.1 hc]
        simp; omega
theorem itoa_nat {n : Int} (h : 0 ≤ n) : Lib.itoa n = Lib.decDigits n.toNat := by unfold Lib.itoa; rw [if_neg (by omega)]
theorem atoi_itoa {n : Int} (h0 : 0 ≤ n) (h1 : n ≤ 1000000) : atoiN (Lib.itoa n) = n := by
  rw [itoa_nat h0]
  obtain ⟨hne, hf⟩ := dec_fig n.toNat
  have h2 := dec_app n.toNat 0 [] (by omega)
  rw [List.append_nil, Nat.zero_mul, Nat.zero_add, Lib.parseUint10] at h2
  unfold atoiN Lib.atoiAll
  cases hd : Lib.decDigits n.toNat with
  | nil => exact absurd hd hne
  | cons c r =>
    rw [hd] at hf h2
    have hc := hf c (by simp)
    simp only
    rw [if_neg (show ¬ (c.toNat = 43 ∨ c.toNat = 45) by omega), show Lib.parseMag (c :: r) = Lib.parseUint10 0 (c :: r) by rw [Lib.parseMag, if_neg (by simp)], h2]
    have h45 : ¬ c.toNat = 45 := by omega
    simp only [h45, not_false_eq_true, true_and, false_and, if_false]
    rw [if_neg (by omega)]
    simp only
    omega
theorem index_fig : ∀ (a t : List UInt8), (∀ c ∈ a, c.toNat ≠ 93) → Lib.index (a ++ 93 :: t) [93] = a.length
  | [], t, _ => by simp [Lib.index, List.isPrefixOf]
  | c :: a, t, h => by
    have hc : ¬ (93 : UInt8) = c := fun e => h c (by simp) (by rw [← e]; rfl)
    have hi := index_fig a t (fun x hx => h x (by simp [hx]))
    rw [List.cons_append, Lib.index, hi]
    have : [93].isPrefixOf (c :: (a ++ 93 :: t)) = false := by simp [List.isPrefixOf, hc]
    rw [this]
    simp
theorem cut_fig (a t : List UInt8) (h : ∀ c ∈ a, c.toNat ≠ 93) : (Lib.cut (a ++ 93 :: t) [93]).1 = a := by
  unfold Lib.cut
  rw [index_fig a t h, if_pos (by omega)]
  simp
/-- What may stand behind a step. -/
def stops (r : List UInt8) : Prop := r = [] ∨ ∃ c t, r = c :: t ∧ isLF c = false
theorem wrd_app {a r : List UInt8} (ha : isW a = true) (hr : stops r) : wrd (a ++ r) = a := by
  unfold isW at ha
  rw [Bool.and_eq_true, decide_eq_true_eq, decide_eq_true_eq] at ha
  obtain ⟨hne, hw⟩ := ha
  cases a with
  | nil => exact absurd rfl hne
  | cons c a =>
    rw [wrd] at hw
    by_cases hc : isL c = true
    · rw [if_pos hc] at hw
      injection hw with _ hw
      rw [List.cons_append, wrd, if_pos hc]
      congr 1
      have hall : ∀ x ∈ a, isLF x = true := by
        have := List.all_eq_true.1 (List.all_takeWhile (p := isLF) (l := a))
        rw [hw] at this; exact this
      rw [List.takeWhile_append_of_pos hall]
      rcases hr with rfl | ⟨d, t, rfl, hd⟩
      · simp
      · rw [List.takeWhile_cons, hd]; simp
    · rw [if_neg hc] at hw; cases hw
theorem isW_first {a : List UInt8} (ha : isW a = true) : ∃ c r, a = c :: r ∧ isL c = true := by
  unfold isW at ha
  rw [Bool.and_eq_true, decide_eq_true_eq, decide_eq_true_eq] at ha
  obtain ⟨hne, hw⟩ := ha
  cases a with
  | nil => exact absurd rfl hne
  | cons c a =>
    refine ⟨c, a, rfl, ?_⟩
    rw [wrd] at hw
    by_cases hc : isL c = true
    · exact hc
    · rw [if_neg hc] at hw; cases hw
theorem isL_ne {c : UInt8} (h : isL c = true) : c.toNat ≠ 34 ∧ c.toNat ≠ 46 ∧ c.toNat ≠ 91 := by
  simp [isL] at h; omega
/-- A step's text, whatever stops behind it, is guessed as the step. -/
theorem gss_back {s : St} {r : List UInt8} (hs : rightS s = true) (hr : stops r) : gss (stT s ++ r) = s := by
  obtain ⟨pt, nm, n⟩ := s
  cases pt with
  | true =>
    unfold rightS at hs
    simp only [if_true, Bool.and_eq_true, decide_eq_true_eq] at hs
    obtain ⟨⟨rfl, h0⟩, h1⟩ := hs
    have e1 : stT ⟨true, [], n⟩ ++ r = [91] ++ (Lib.itoa n ++ 93 :: r) := by simp [stT]
    rw [e1]
    unfold gss
    rw [if_pos (pre_iff.2 ⟨_, rfl⟩), trim_of, cut_fig, atoi_itoa h0 h1]
    intro c hc
    rw [itoa_nat h0] at hc
    have := (dec_fig _).2 c hc
    omega
  | false =>
    unfold rightS at hs
    simp only [Bool.false_eq_true, if_false, Bool.and_eq_true, decide_eq_true_eq] at hs
    obtain ⟨rfl, hv⟩ := hs
    by_cases hw : isW nm = true
    · have e1 : stT ⟨false, nm, 0⟩ ++ r = [46] ++ (nm ++ r) := by simp [stT, hw]
      rw [e1]
      unfold gss
      have e2 : Lib.hasPrefix ([46] ++ (nm ++ r)) [91] = false := by simp [Lib.hasPrefix, List.isPrefixOf]
      rw [e2, trim_of]
      obtain ⟨c, a, rfl, hc⟩ := isW_first hw
      have e3 : unqs (c :: a ++ r) = ([], 0, 1) := by
        unfold unqs
        rw [if_neg (show ¬ bt (c :: a ++ r) 0 = 34 from fun e => (isL_ne hc).1 (by simpa [bt] using e))]
      rw [e3]
      simp only [Bool.false_eq_true, if_false]
      rw [if_neg (by decide), wrd_app hw hr]
    · have e1 : stT ⟨false, nm, 0⟩ ++ r = [46] ++ (quo nm ++ r) := by simp [stT, hw]
      rw [e1]
      unfold gss
      have e2 : Lib.hasPrefix ([46] ++ (quo nm ++ r)) [91] = false := by simp [Lib.hasPrefix, List.isPrefixOf]
      rw [e2, trim_of, quo_back nm r hv]
      simp
theorem stT_head (s : St) : ∃ c t, stT s = c :: t ∧ isLF c = false ∧ (s.part = true → c = 91) ∧ (s.part = false → c = 46) := by
  unfold stT
  split
  · rename_i h
    exact ⟨91, _, rfl, by decide, fun _ => rfl, fun e => by rw [h] at e; cases e⟩
  · rename_i h
    split
    · exact ⟨46, _, rfl, by decide, fun e => absurd e h, fun _ => rfl⟩
    · exact ⟨46, _, rfl, by decide, fun e => absurd e h, fun _ => rfl⟩
theorem flat_stops (p : List St) : stops (p.flatMap stT) := by
  cases p with
  | nil => exact Or.inl rfl
  | cons s p =>
    obtain ⟨c, t, h, hc, -⟩ := stT_head s
    exact Or.inr ⟨c, t ++ p.flatMap stT, by rw [List.flatMap_cons, h]; rfl, hc⟩
theorem bgn_back {s : St} {r : List UInt8} (first : Bool) (hs : rightS s = true) (hr : stops r) : bgn ((if first then headT [s] else []) ++ stT s ++ r) first = some (s, (if first then (headT [s]).length else 0) + (stT s).length) := by
  obtain ⟨c, t, h, hc, h1, h2⟩ := stT_head s
  have hg := gss_back hs hr
  have hp : Lib.hasPrefix (stT s ++ r) (stT s) = true := pre_iff.2 ⟨r, rfl⟩
  cases first with
  | false =>
    unfold bgn
    have ha : ahd (stT s ++ r) false = 0 := rfl
    simp only [Bool.false_eq_true, if_false, List.nil_append, Bool.false_and, ha, List.drop_zero, hg, hs, hp, Bool.and_true, if_true]
  | true =>
    cases hpt : s.part with
    | true =>
      have e1 : (headT [s]) ++ stT s ++ r = 46 :: (stT s ++ r) := by simp [headT, hpt]
      have e3 : (headT [s]).length = 1 := by simp [headT, hpt]
      have e2 : Lib.hasPrefix (46 :: (stT s ++ r)) [46, 91] = true := by
        rw [h, h1 hpt]; exact pre_iff.2 ⟨t ++ r, rfl⟩
      unfold bgn
      simp only [if_true]
      rw [e1, e3]
      have ha : ahd (46 :: (stT s ++ r)) true = 1 := by unfold ahd; rw [e2]; rfl
      rw [ha]
      simp only [e2, List.drop_succ_cons, List.drop_zero, hg, hs, hp, Bool.and_true, if_true, Bool.not_true, Bool.and_false, Bool.false_and, Bool.false_eq_true, if_false]
    | false =>
      have e1 : (headT [s]) ++ stT s ++ r = stT s ++ r := by simp [headT, hpt]
      have e3 : (headT [s]).length = 0 := by simp [headT, hpt]
      have e2 : Lib.hasPrefix (stT s ++ r) [46] = true := by
        rw [h, h2 hpt]; exact pre_iff.2 ⟨t ++ r, rfl⟩
      have e4 : Lib.hasPrefix (stT s ++ r) [46, 91] = false := by
        unfold stT
        rw [hpt]
        simp only [Bool.false_eq_true, if_false]
        split
        · rename_i hw
          obtain ⟨d, a, ha, hd⟩ := isW_first hw
          rw [ha]
          have : ¬ (91 : UInt8) = d := fun e => (isL_ne hd).2.2 (by rw [← e]; rfl)
          simp [Lib.hasPrefix, List.isPrefixOf, this]
        · simp [Lib.hasPrefix, List.isPrefixOf, quo]
      unfold bgn
      simp only [if_true]
      rw [e1, e3]
      have ha : ahd (stT s ++ r) true = 0 := by unfold ahd; rw [e4]; rfl
      rw [ha]
      simp only [e2, e4, List.drop_zero, hg, hs, hp, Bool.and_true, if_true, Bool.not_true, Bool.not_false, Bool.and_false, Bool.false_eq_true, if_false, Nat.zero_add]
theorem readF_back : ∀ (q acc : List St) (f : Nat) (l : List UInt8) (i : Nat), q ≠ [] → q.all rightS = true → acc.length + q.length ≤ 20 → l.length < i + f → i ≤ l.length → (i = 0 ↔ acc = []) →
    l.drop i = (if i == 0 then headT q else []) ++ q.flatMap stT → readF f acc l i = (acc ++ q, 0, 0)
  | [], _, _, _, _, h, _, _, _, _, _, _ => absurd rfl h
  | s :: q, acc, 0, l, i, _, _, _, hf, hi, _, _ => by omega
  | s :: q, acc, f + 1, l, i, _, hr, hn, hf, hi, h0, hl => by
    rw [List.all_cons, Bool.and_eq_true] at hr
    have hb := bgn_back (i == 0) hr.1 (flat_stops q)
    rw [List.flatMap_cons, ← List.append_assoc, headT_one] at hl
    rw [← hl] at hb
    rw [readF, hb]
    simp only
    rw [if_neg (by simp at hn; omega)]
    have hlen : l.length = i + ((if i == 0 then (headT [s]).length else 0) + (stT s).length) + (q.flatMap stT).length := by
      have h5 := congrArg List.length hl
      rw [List.length_drop, List.length_append, List.length_append] at h5
      cases he : (i == 0) <;> rw [he] at h5 <;> simp only [if_true, Bool.false_eq_true, if_false, List.length_nil] at h5 ⊢ <;> omega
    have hpos := stT_pos s
    generalize hk : (if i == 0 then (headT [s]).length else 0) + (stT s).length = k at hlen ⊢
    have hk1 : 1 ≤ k := by omega
    have hdrop : l.drop (i + k) = q.flatMap stT := by
      rw [← List.drop_drop, hl]
      have : k = ((if i == 0 then headT [s] else []) ++ stT s).length := by
        rw [← hk, List.length_append]
        cases (i == 0) <;> rfl
      rw [this, List.drop_left]
    cases q with
    | nil =>
      rw [if_pos (by simp at hlen; omega)]
    | cons s' q =>
      have hp2 := stT_pos s'
      have h6 : ¬ i + k = l.length := by
        rw [List.flatMap_cons, List.length_append] at hlen; omega
      rw [if_neg h6]
      have h7 : ((i + k) == 0) = false := by simp; omega
      rw [readF_back (s' :: q) (acc ++ [s]) f l (i + k) (by simp) hr.2 (by simp at hn ⊢; omega) (by omega) (by omega) ⟨fun h => by omega, fun h => by simp at h⟩ (by rw [h7, hdrop]; rfl)]
      simp
/-- A path's text is read as it. -/
theorem readP_back {p : List St} (h : rightP p = true) : readP (textP p) = (p, 0, 0) := by
  unfold rightP at h
  rw [Bool.and_eq_true, decide_eq_true_eq] at h
  cases p with
  | nil => rfl
  | cons s p =>
    unfold readP
    have hne : ¬ textP (s :: p) = [46] := by
      obtain ⟨c, t, h1, -, h2, h3⟩ := stT_head s
      cases hp : s.part with
      | true => simp [textP, headT, hp, h1]
      | false =>
        unfold textP stT at *
        simp only [headT, hp, Bool.false_eq_true, if_false, List.nil_append, List.flatMap_cons]
        split
        · rename_i hw
          obtain ⟨d, a, ha, hd⟩ := isW_first hw
          rw [ha]; simp
        · simp [quo]
    rw [if_neg hne]
    have := readF_back (s :: p) [] ((textP (s :: p)).length + 1) (textP (s :: p)) 0 (by simp) h.1 (by simpa using h.2) (by omega) (Nat.zero_le _) (by simp) (by rw [List.drop_zero]; rfl)
    simpa using this
/-- A text of two paths, one behind the other, where the second one begins with a field. -/
theorem text_append {p q : List St} (hp : p ≠ []) (hq : q ≠ []) (hf : (q.head hq).part = false) : textP (p ++ q) = textP p ++ textP q := by
  cases p with
  | nil => exact absurd rfl hp
  | cons s p =>
    cases q with
    | nil => exact absurd rfl hq
    | cons s' q =>
      have hf : s'.part = false := hf
      unfold textP
      rw [headT_append, List.flatMap_append]
      simp [headT, hf]
end Pw
end Go.Proofs.YtafbojiojeemoaaGreatDoor

/-
  path's word: the word that a text begins with.
-/
namespace Go.Proofs.YtafbojiojeemoaaGreatDoor
open Go.RowKit Np Rw Vp Pw

set_option maxHeartbeats 1000000 in
theorem pletter_any (c : UInt8) (w : World) : Calls Tryz.prog 123 #[.int .u8 c.toNat] w fun e w' => e = .returned (.bool (isL c)) ∧ w' = w := by
  have h0 : c.toNat < 256 := c.toNat_lt
  have HL : Hid (isL c = (decide (97 ≤ c.toNat ∧ c.toNat ≤ 122) || decide (65 ≤ c.toNat ∧ c.toNat ≤ 90) || decide (c.toNat = 95))) := Lib.hid rfl
  generalize isL c = b at *
  generalize c.toNat = n at *
  by_cases h1 : 97 ≤ n
  · by_cases h2 : n ≤ 122
    · have HR : Hid (b = true) := Lib.hid (by rw [HL.out]; simp; omega)
      go_enter Tryz.func123, Tryz.ntmps123
      go_wp2_with fail
      go_ret
      exact ⟨ret_bool HR.out.symm, rfl⟩
    · have HR : Hid (b = false) := Lib.hid (by rw [HL.out]; simp; omega)
      go_enter Tryz.func123, Tryz.ntmps123
      go_wp2_with fail
      all_goals go_ret
      all_goals exact ⟨ret_bool (by rw [HR.out]; simp; omega), rfl⟩
  · by_cases h3 : 65 ≤ n
    · by_cases h4 : n ≤ 90
      · have HR : Hid (b = true) := Lib.hid (by rw [HL.out]; simp; omega)
        go_enter Tryz.func123, Tryz.ntmps123
        go_wp2_with fail
        go_ret
        exact ⟨ret_bool HR.out.symm, rfl⟩
      · have HR : Hid (b = decide (n = 95)) := Lib.hid (by rw [HL.out, Bool.eq_iff_iff]; simp; omega)
        go_enter Tryz.func123, Tryz.ntmps123
        go_wp2_with fail
        all_goals go_ret
        all_goals exact ⟨ret_bool (by rw [HR.out, Bool.eq_iff_iff]; simp; omega), rfl⟩
    · have HR : Hid (b = false) := Lib.hid (by rw [HL.out]; simp; omega)
      go_enter Tryz.func123, Tryz.ntmps123
      go_wp2_with fail
      all_goals go_ret
      all_goals exact ⟨ret_bool (by rw [HR.out]; simp; omega), rfl⟩
set_option maxHeartbeats 1000000 in
theorem pfigure_any (c : UInt8) (w : World) : Calls Tryz.prog 124 #[.int .u8 c.toNat] w fun e w' => e = .returned (.bool (isF c)) ∧ w' = w := by
  have h0 : c.toNat < 256 := c.toNat_lt
  have HL : Hid (isF c = decide (48 ≤ c.toNat ∧ c.toNat ≤ 57)) := Lib.hid rfl
  generalize isF c = b at *
  generalize c.toNat = n at *
  by_cases h1 : 48 ≤ n
  · go_enter Tryz.func124, Tryz.ntmps124
    go_wp2_with fail
    all_goals go_ret
    all_goals exact ⟨ret_bool (by rw [HL.out, Bool.eq_iff_iff]; simp; omega), rfl⟩
  · go_enter Tryz.func124, Tryz.ntmps124
    go_wp2_with fail
    all_goals go_ret
    all_goals exact ⟨ret_bool (by rw [HL.out, Bool.eq_iff_iff]; simp; omega), rfl⟩

set_option maxRecDepth 100000 in
set_option maxHeartbeats 2000000 in
theorem word_any (s : ByteArray) (w : World) (hs : s.size ≤ maxLen) : Calls Tryz.prog 88 #[.string s] w fun e w' => e = .returned (.string ⟨(wrd s.data.toList).toArray⟩) ∧ w' = w := by
  unfold maxLen at hs
  have HX : Hid (∀ k, (h : k < s.size) → okAt s.data.toList k = (isL s[k] || (decide (0 < k) && isF s[k]))) := Lib.hid fun k h => by
    have : s.data.toList[k]? = some s[k] := by
      rw [List.getElem?_eq_getElem (by rw [size_toList]; exact h)]; rfl
    rw [okAt, this]
  have HEND : Hid (∀ k, k ≤ s.size → (∀ j, j < k → okAt s.data.toList j = true) → okAt s.data.toList k = false → s.extract 0 k = ⟨(wrd s.data.toList).toArray⟩) := Lib.hid fun k hk h0 h1 => by
    rw [wrd_of (by rw [size_toList]; exact hk) h0 h1]
    have h := Lib.extract_toList s 0 k
    rw [ByteArray.toList_eq, List.drop_zero, Nat.sub_zero] at h
    rw [← h]
  go_enter Tryz.func88, Tryz.ntmps88
  go_wp2_with fail
  go_loopw [3] (fun av wr => ∃ k : Nat, k ≤ s.size ∧ av = .int .i64 k ∧ Hid (∀ j, j < k → okAt s.data.toList j = true) ∧ wr = w) (fun av _ => s.size - (intOf av).toNat)
  case atStart => exact ⟨0, Nat.zero_le _, rfl, Lib.hid (by intro j hj; omega), rfl⟩
  case round =>
    obtain ⟨k, hk, rfl, HA, rfl⟩ := hrel
    by_cases hlt : k < s.size
    · have HO := Lib.hid (HX.out k hlt)
      go_wp2_with fail
      refine (pletter_any s[k] _).mono ?_
      rintro e w1 ⟨rfl, rfl⟩
      cases hL : isL s[k] with
      | true =>
        have HA2 : Hid (∀ j, j < k + 1 → okAt s.data.toList j = true) := Lib.hid fun j hj => by
          by_cases hjk : j < k
          · exact HA.out j hjk
          · obtain rfl : j = k := by omega
            rw [HO.out, hL]; rfl
        clear hL
        go_wp2_with fail
        go_roundw
        case rel => exact ⟨k + 1, by omega, by go_num, HA2, by first | trivial | rfl⟩
        case measure => simp [intOf]; omega
      | false =>
        by_cases h0 : 0 < k
        · have h0' : (k : Int) > 0 := by omega
          go_wp2_with fail
          refine (pfigure_any s[k] _).mono ?_
          rintro e w1 ⟨rfl, rfl⟩
          cases hF : isF s[k] with
          | true =>
            have HA2 : Hid (∀ j, j < k + 1 → okAt s.data.toList j = true) := Lib.hid fun j hj => by
              by_cases hjk : j < k
              · exact HA.out j hjk
              · obtain rfl : j = k := by omega
                rw [HO.out, hL, hF]; simp [h0]
            clear hL hF
            go_wp2_with fail
            go_roundw
            case rel => exact ⟨k + 1, by omega, by go_num, HA2, by first | trivial | rfl⟩
            case measure => simp [intOf]; omega
          | false =>
            have HE := Lib.hid (HEND.out k hk HA.out (by rw [HO.out, hL, hF]; simp))
            clear hL hF
            go_wp2_with fail
            go_ret
            exact ⟨ret_str HE.out, rfl⟩
        · have HE := Lib.hid (HEND.out k hk HA.out (by rw [HO.out, hL]; simp [h0]))
          clear hL
          go_wp2_with fail
          go_ret
          exact ⟨ret_str HE.out, rfl⟩
    · obtain rfl : k = s.size := by omega
      have HE := Lib.hid (HEND.out s.size hk HA.out (by
        rw [okAt, List.getElem?_eq_none (by rw [size_toList]; omega)]))
      go_wp2_with fail
      go_ret
      exact ⟨ret_str (by have := HE.out; simpa using this), rfl⟩
end Go.Proofs.YtafbojiojeemoaaGreatDoor

/-
  The document's own word: is a name one?
-/
namespace Go.Proofs.YtafbojiojeemoaaGreatDoor
open Go.RowKit Np Rw Vp Up Qp Pw

theorem isW_all {l : List UInt8} (h0 : l ≠ []) (h : ∀ j, j < l.length → okAt l j = true) : isW l = true := by
  have h1 : okAt l l.length = false := by rw [okAt, List.getElem?_eq_none (Nat.le_refl _)]
  have h2 := wrd_of (Nat.le_refl _) h h1
  unfold isW
  rw [h2, List.take_length]
  simp [h0]
theorem isW_bad {l : List UInt8} {k : Nat} (hk : k < l.length) (h : ∀ j, j < k → okAt l j = true) (h1 : okAt l k = false) : isW l = false := by
  have h2 := wrd_of (Nat.le_of_lt hk) h h1
  unfold isW
  rw [h2]
  have : l.take k ≠ l := by
    intro e
    have := congrArg List.length e
    rw [List.length_take] at this
    omega
  simp [this]
set_option maxRecDepth 100000 in
set_option maxHeartbeats 4000000 in
theorem refWordP_any (s : ByteArray) (w : World) (hs : s.size ≤ maxLen) : Calls Tryz.prog 52 #[.string s] w fun e w' => e = .returned (.bool (isW s.data.toList)) ∧ w' = w := by
  unfold maxLen at hs
  have HX : Hid (∀ k, (h : k < s.size) → okAt s.data.toList k = (isL s[k] || (decide (0 < k) && isF s[k]))) := Lib.hid fun k h => by
    have : s.data.toList[k]? = some s[k] := by
      rw [List.getElem?_eq_getElem (by rw [size_toList]; exact h)]; rfl
    rw [okAt, this]
  have HBAD : Hid (∀ k, k < s.size → (∀ j, j < k → okAt s.data.toList j = true) → okAt s.data.toList k = false → isW s.data.toList = false) := Lib.hid fun k hk h0 h1 => isW_bad (by rw [size_toList]; exact hk) h0 h1
  have HALL : Hid (0 < s.size → (∀ j, j < s.size → okAt s.data.toList j = true) → isW s.data.toList = true) := Lib.hid fun h0 h1 => isW_all (by intro e; have := congrArg List.length e; rw [size_toList, List.length_nil] at this; omega) (by rw [size_toList]; exact h1)
  have HEMP : Hid (s.size = 0 → isW s.data.toList = false) := Lib.hid fun h0 => by
    have : s.data.toList = [] := List.eq_nil_of_length_eq_zero (by rw [size_toList]; exact h0)
    rw [this]; rfl
  generalize isW s.data.toList = R at *
  go_enter Tryz.func52, Tryz.ntmps52
  go_wp2_with fail
  go_loopw [3] (fun av wr => ∃ k : Nat, k ≤ s.size ∧ av = .int .i64 k ∧ Hid (∀ j, j < k → okAt s.data.toList j = true) ∧ wr = w) (fun av _ => s.size - (intOf av).toNat)
  case atStart => exact ⟨0, Nat.zero_le _, rfl, Lib.hid (by intro j hj; omega), rfl⟩
  case round =>
    obtain ⟨k, hk, rfl, HA, rfl⟩ := hrel
    by_cases hlt : k < s.size
    · have HO := Lib.hid (HX.out k hlt)
      have hc := s[k].toNat_lt
      have HLd : Hid (isL s[k] = (decide (97 ≤ s[k].toNat ∧ s[k].toNat ≤ 122) || decide (65 ≤ s[k].toNat ∧ s[k].toNat ≤ 90) || decide (s[k].toNat = 95))) := Lib.hid rfl
      have HFd : Hid (isF s[k] = decide (48 ≤ s[k].toNat ∧ s[k].toNat ≤ 57)) := Lib.hid rfl
      have HGOOD : Hid (okAt s.data.toList k = true → ∀ j, j < k + 1 → okAt s.data.toList j = true) := Lib.hid fun h j hj => by
        by_cases hjk : j < k
        · exact HA.out j hjk
        · obtain rfl : j = k := by omega
          exact h
      have HB2 := Lib.hid (fun h => HBAD.out k hlt HA.out h)
      have HNUM : Hid ((97 ≤ s[k].toNat ∧ s[k].toNat ≤ 122 ∨ 65 ≤ s[k].toNat ∧ s[k].toNat ≤ 90 ∨ s[k].toNat = 95 ∨ 0 < k ∧ 48 ≤ s[k].toNat ∧ s[k].toNat ≤ 57) ↔ okAt s.data.toList k = true) := Lib.hid (by
        rw [HO.out, HLd.out, HFd.out]
        simp only [Bool.or_eq_true, Bool.and_eq_true, decide_eq_true_eq]
        omega)
      clear HO HLd HFd HX
      by_cases hnum : 97 ≤ s[k].toNat ∧ s[k].toNat ≤ 122 ∨ 65 ≤ s[k].toNat ∧ s[k].toNat ≤ 90 ∨ s[k].toNat = 95 ∨ 0 < k ∧ 48 ≤ s[k].toNat ∧ s[k].toNat ≤ 57
      · have HK := Lib.hid (HGOOD.out (HNUM.out.1 hnum))
        clear HNUM HGOOD HB2 HBAD HALL HEMP HA
        by_cases h0 : k = 0
        · subst h0
          go_wp2_with fail
          all_goals first
            | (refine ⟨⟨1, by omega, rfl, HK, by first | trivial | rfl⟩, ?_⟩; simp [intOf]; omega)
            | (exfalso; clear HK; simp at *; omega)
        · have hk0 : ((k : Int) == 0) = false := by simpa using h0
          go_wp2_with fail
          all_goals first
            | (refine ⟨⟨k + 1, by omega, by go_num, HK, by first | trivial | rfl⟩, ?_⟩; simp [intOf]; omega)
            | (exfalso; clear HK; simp at *; omega)
      · have HN := Lib.hid (HB2.out (by
          cases h : okAt s.data.toList k with
          | false => rfl
          | true => exact absurd (HNUM.out.2 h) hnum))
        clear HNUM HGOOD HB2 HBAD HALL HEMP HA
        by_cases h0 : k = 0
        · subst h0
          go_wp2_with fail
          all_goals first
            | (go_ret; exact ⟨ret_bool HN.out.symm, rfl⟩)
            | (exfalso; clear HN; simp at *; omega)
        · have hk0 : ((k : Int) == 0) = false := by simpa using h0
          go_wp2_with fail
          all_goals first
            | (go_ret; exact ⟨ret_bool HN.out.symm, rfl⟩)
            | (exfalso; clear HN; simp at *; omega)
    · obtain rfl : k = s.size := by omega
      by_cases h0 : s.size = 0
      · have HE := Lib.hid (HEMP.out h0)
        have hz : s.toList = [] := by rw [ByteArray.toList_eq]; exact List.eq_nil_of_length_eq_zero (by rw [size_toList]; exact h0)
        have hz2 : s.toList.isEmpty = true := by rw [hz]; rfl
        go_wp2_with fail
        all_goals go_ret
        all_goals exact ⟨ret_bool (by rw [HE.out]), rfl⟩
      · have HE := Lib.hid (HALL.out (by omega) HA.out)
        have hz2 : s.toList.isEmpty = false := by
          rw [ByteArray.toList_eq, List.isEmpty_eq_false_iff]
          intro e
          have := congrArg List.length e
          rw [size_toList, List.length_nil] at this
          omega
        go_wp2_with fail
        all_goals go_ret
        all_goals exact ⟨ret_bool (by rw [HE.out]), rfl⟩
end Go.Proofs.YtafbojiojeemoaaGreatDoor

/-
  Plain words: how a string that is read begins and ends; a word is of UTF-8. No program stands here.
-/
namespace Go.Proofs.YtafbojiojeemoaaGreatDoor
namespace Pw
open Go.RowKit Np Rw Vp Up Qp

theorem unqs_good (l : List UInt8) (h : (unqs l).2.2 = 0) : vld (unqs l).1 = true ∧ (unqs l).2.1 ≤ l.length ∧ bt l 0 = 34 := by
  unfold unqs at h ⊢
  split
  · rename_i h34
    rw [if_pos h34] at h
    cases hR : unq [] (l.drop 1) 1 with
    | mk x r =>
      obtain ⟨n, e⟩ := r
      rw [hR] at h
      simp only at h
      subst h
      obtain ⟨y, y1, y2, y3, -, y5⟩ := unq_good _ [] (l.drop 1) 1 n x (Nat.le_refl _) hR
      rw [List.nil_append] at y1
      subst y1
      rw [List.length_drop] at y5
      have : 0 < l.length := ne_of_bt (l := l) (k := 0) (by omega)
      exact ⟨y2, by simp only; omega, h34⟩
  · rename_i h34
    rw [if_neg h34] at h
    simp at h
theorem vld_low {l : List UInt8} (h : ∀ c ∈ l, c.toNat < 128) : vld l = true := by
  have := Lib.validD_ascii l.length l (fun b hb => h b (List.mem_of_mem_take hb))
  rw [List.drop_length] at this
  exact this.trans rfl
end Pw
end Go.Proofs.YtafbojiojeemoaaGreatDoor

/-
  Plain words: the document's own reading of a step and of a path is the program's. No program stands here.
-/
namespace Go.Proofs.YtafbojiojeemoaaGreatDoor
namespace Pw
open Go.RowKit Np Rw Vp Up Qp

def valD (d : List UInt8) : Nat := d.foldl (fun n c => n * 10 + (c.toNat - 48)) 0
/-- The figures that a text begins with, seven at most. -/
def figD (r : List UInt8) : List UInt8 := (r.take 7).takeWhile isF
/-- The number that a text begins with, and how many bytes that has. -/
def figR (r : List UInt8) : Option (Nat × Nat) := if figD r = [] ∨ ((figD r).head? = some 48 ∧ 1 < (figD r).length) ∨ 1000000 < valD (figD r) then none else some (valD (figD r), (figD r).length)
def partR (r : List UInt8) : Option (St × Nat) := match figR r with
  | none => none
  | some x => if r[x.2]? = some 93 then some (⟨true, [], x.1⟩, x.2 + 1) else none
def fieldR (r : List UInt8) : Option (St × Nat) :=
  if wrd r ≠ [] then some (⟨false, wrd r, 0⟩, (wrd r).length)
  else if (unqs r).2.2 = 0 ∧ isW (unqs r).1 = false ∧ quo (unqs r).1 = r.take (unqs r).2.1 then some (⟨false, (unqs r).1, 0⟩, (unqs r).2.1) else none
/-- The step that a text begins with, as the document reads it. -/
def stepR (l : List UInt8) (first : Bool) : Option (St × Nat) := match l with
  | [] => none
  | c :: r =>
    if c = 46 then match fieldR r with
      | some x => some (x.1, x.2 + 1)
      | none => if first then match r with
          | [] => none
          | d :: r' => if d = 91 then (partR r').map fun x => (x.1, x.2 + 2) else none
        else none
    else if first then none else if c = 91 then (partR r).map fun x => (x.1, x.2 + 1) else none

theorem valD_snoc (d : List UInt8) (c : UInt8) : valD (d ++ [c]) = valD d * 10 + (c.toNat - 48) := by simp [valD, List.foldl_append]
theorem isF_iff {c : UInt8} : isF c = true ↔ 48 ≤ c.toNat ∧ c.toNat ≤ 57 := by simp [isF]
theorem u8_of {c : UInt8} {n : Nat} (h : c.toNat = n) : UInt8.ofNat n = c := by subst h; simp
theorem dec_val : ∀ (n : Nat) (d : List UInt8), d.length = n → (∀ c ∈ d, isF c = true) → d ≠ [] → ¬ (d.head? = some 48 ∧ 1 < d.length) → Lib.decDigits (valD d) = d := by
  intro n
  induction n with
  | zero => intro d hl _ hne; exact absurd (List.eq_nil_of_length_eq_zero hl) hne
  | succ n ih =>
    intro d hl hf hne h0
    obtain ⟨d', c, rfl⟩ : ∃ d' c, d = d' ++ [c] := ⟨d.dropLast, d.getLast hne, (List.dropLast_concat_getLast hne).symm⟩
    have hc := isF_iff.1 (hf c (by simp))
    rw [valD_snoc]
    cases d' with
    | nil =>
      have : valD [] = 0 := rfl
      rw [this, Nat.zero_mul, Nat.zero_add, Lib.decDigits_one (by omega)]
      rw [u8_of (c := c) (by omega)]; rfl
    | cons a r =>
      have ha : ¬ a = 48 := fun e => h0 ⟨by rw [e]; rfl, by simp⟩
      have h1 := ih (a :: r) (by simpa using hl) (fun x hx => hf x (by simp at hx ⊢; rcases hx with h | h <;> simp [h])) (by simp) (fun h => ha (by simpa using h.1))
      have h2 : 1 ≤ valD (a :: r) := by
        rcases Nat.eq_zero_or_pos (valD (a :: r)) with h | h
        · rw [h, Lib.decDigits_one (by omega)] at h1
          injection h1 with h3 _
          exact absurd h3.symm ha
        · exact h
      rw [Lib.decDigits, dif_neg (by omega), show (valD (a :: r) * 10 + (c.toNat - 48)) / 10 = valD (a :: r) by omega, h1, show 48 + (valD (a :: r) * 10 + (c.toNat - 48)) % 10 = c.toNat by omega, u8_of rfl]
theorem val_dec : ∀ n : Nat, valD (Lib.decDigits n) = n := by
  intro n
  induction n using Nat.strongRecOn with
  | _ n ih =>
    by_cases hn : n < 10
    · rw [Lib.decDigits_one hn]
      simp [valD]; omega
    · rw [Lib.decDigits, dif_neg hn, valD_snoc, ih (n / 10) (by omega)]
      simp; omega
theorem dec_len {n : Nat} (h : n ≤ 1000000) : (Lib.decDigits n).length ≤ 7 := by
  rw [Lib.decDigits_length]
  have h1 := Lib.nDigits_pos n
  rcases Nat.eq_zero_or_pos n with h0 | h0
  · subst h0; rw [Lib.nDigits_small (by omega)]; omega
  · by_cases h7 : Lib.nDigits n ≤ 7
    · exact h7
    · exfalso
      have h8 : ∀ (k m : Nat), k + 1 ≤ Lib.nDigits m → 1 ≤ m → 10 ^ k ≤ m := by
        intro k
        induction k with
        | zero => intro m _ hm; simpa using hm
        | succ k ih =>
          intro m hk hm
          by_cases hm10 : m < 10
          · rw [Lib.nDigits_small hm10] at hk; omega
          · rw [Lib.nDigits_big hm10] at hk
            have := ih (m / 10) (by omega) (by omega)
            rw [Nat.pow_succ]; omega
      have := h8 7 n (by omega) h0
      omega
theorem dec_head {n : Nat} : ¬ ((Lib.decDigits n).head? = some 48 ∧ 1 < (Lib.decDigits n).length) := by
  intro ⟨h1, h2⟩
  have key : ∀ m : Nat, 1 ≤ m → (Lib.decDigits m).head? ≠ some 48 := by
    intro m
    induction m using Nat.strongRecOn with
    | _ m ih =>
      intro hm
      by_cases h10 : m < 10
      · rw [Lib.decDigits_one h10]
        intro h
        simp at h
        have := congrArg UInt8.toNat h
        simp at this; omega
      · have h3 := ih (m / 10) (by omega) (by omega)
        have h4 := (dec_fig (m / 10)).1
        rw [Lib.decDigits, dif_neg h10]
        cases hd : Lib.decDigits (m / 10) with
        | nil => exact absurd hd h4
        | cons a r => rw [hd] at h3; simpa using h3
  rcases Nat.eq_zero_or_pos n with h0 | h0
  · subst h0; rw [Lib.decDigits_one (by omega)] at h2; simp at h2
  · exact key n h0 h1
theorem figD_of {d t : List UInt8} (hd : ∀ c ∈ d, isF c = true) (hl : d.length ≤ 7) (ht : t = [] ∨ ∃ c r, t = c :: r ∧ isF c = false) : figD (d ++ t) = d := by
  unfold figD
  rw [List.take_append, List.take_of_length_le hl, List.takeWhile_append_of_pos hd]
  rcases ht with rfl | ⟨c, r, rfl, hc⟩
  · simp
  · cases h : 7 - d.length with
    | zero => simp
    | succ k => rw [List.take_succ_cons, List.takeWhile_cons, hc]; simp
theorem figD_pre (r : List UInt8) : (∃ t, r = figD r ++ t) ∧ (∀ c ∈ figD r, isF c = true) ∧ (figD r).length ≤ 7 := by
  unfold figD
  refine ⟨?_, ?_, ?_⟩
  · refine ⟨(r.take 7).dropWhile isF ++ r.drop 7, ?_⟩
    rw [← List.append_assoc, List.takeWhile_append_dropWhile, List.take_append_drop]
  · exact List.all_eq_true.1 List.all_takeWhile
  · have := (List.takeWhile_sublist isF (l := r.take 7)).length_le
    simp at this ⊢; omega
/-- A part, read and written. -/
theorem part_eq (r : List UInt8) : partR r = if rightS (gss (91 :: r)) && Lib.hasPrefix (91 :: r) (stT (gss (91 :: r))) then some (gss (91 :: r), (stT (gss (91 :: r))).length - 1) else none := by
  have hg : gss (91 :: r) = ⟨true, [], atoiN (Lib.cut r [93]).1⟩ := by
    unfold gss
    rw [if_pos (show Lib.hasPrefix (91 :: r) [91] = true from pre_iff.2 ⟨r, rfl⟩), show Lib.trimPrefix (91 :: r) [91] = r from trim_of [91] r]
  cases hR : partR r with
  | some x =>
    obtain ⟨g, k⟩ := x
    unfold partR at hR
    split at hR
    · cases hR
    · rename_i y hy
      split at hR
      · rename_i h93
        obtain ⟨n, m⟩ := y
        injection hR with hR
        injection hR with e1 e2
        simp only at h93 e1 e2
        subst e1 e2
        unfold figR at hy
        split at hy
        · cases hy
        · rename_i hcond
          injection hy with hy
          injection hy with e3 e4
          rw [not_or, not_or] at hcond
          obtain ⟨c1, c2, c3⟩ := hcond
          obtain ⟨⟨t, ht⟩, hf, hl⟩ := figD_pre r
          have hd := dec_val _ (figD r) rfl hf c1 c2
          have ht2 : ∃ u, t = 93 :: u := by
            have h93' : (figD r ++ t)[(figD r).length]? = some 93 := by rw [← ht, e4]; exact h93
            rw [List.getElem?_append_right (Nat.le_refl _), Nat.sub_self] at h93'
            cases t with
            | nil => simp at h93'
            | cons a u => simp at h93'; exact ⟨u, by rw [h93']⟩
          obtain ⟨u, rfl⟩ := ht2
          have hcut : (Lib.cut r [93]).1 = figD r := by
            have h5 := cut_fig (figD r) u (fun c hc => by have := isF_iff.1 (hf c hc); omega)
            rwa [← ht] at h5
          have hn : n ≤ 1000000 := by omega
          have hit : Lib.itoa (n : Int) = figD r := by rw [itoa_nat (by omega), Int.toNat_natCast, ← e3, hd]
          have hat : atoiN (figD r) = n := by rw [← hit, atoi_itoa (by omega) (by omega)]
          rw [hg, hcut, hat]
          have hst : stT ⟨true, [], (n : Int)⟩ = 91 :: (figD r ++ [93]) := by rw [stT, if_pos rfl, hit]
          have hr : rightS ⟨true, [], (n : Int)⟩ = true := by unfold rightS; simp; omega
          have hp : Lib.hasPrefix (91 :: r) (stT ⟨true, [], (n : Int)⟩) = true := by
            rw [hst]
            refine pre_iff.2 ⟨u, ?_⟩
            conv => lhs; rw [ht]
            simp
          rw [hr, hp, hst, if_pos (by rfl)]
          congr 2
          simp; omega
      · cases hR
  | none =>
    by_cases hc : (rightS (gss (91 :: r)) && Lib.hasPrefix (91 :: r) (stT (gss (91 :: r)))) = true
    · exfalso
      rw [Bool.and_eq_true] at hc
      obtain ⟨h1, h2⟩ := hc
      rw [hg] at h1 h2
      generalize atoiN (Lib.cut r [93]).1 = n at h1 h2
      unfold rightS at h1
      simp only [if_true, Bool.and_eq_true, decide_eq_true_eq] at h1
      obtain ⟨⟨-, h3⟩, h4⟩ := h1
      obtain ⟨t, ht⟩ := pre_iff.1 h2
      rw [stT, if_pos rfl, itoa_nat h3] at ht
      have hr : r = Lib.decDigits n.toNat ++ 93 :: t := by simpa using ht
      have hf : figD r = Lib.decDigits n.toNat := by
        rw [hr]
        exact figD_of (fun c hc => isF_iff.2 ((dec_fig _).2 c hc)) (dec_len (by omega)) (.inr ⟨93, t, rfl, by decide⟩)
      have hfr : figR r = some (n.toNat, (Lib.decDigits n.toNat).length) := by
        unfold figR
        rw [hf, val_dec, if_neg]
        rintro (h | h | h)
        · exact (dec_fig _).1 h
        · exact dec_head h
        · omega
      unfold partR at hR
      rw [hfr] at hR
      simp only at hR
      rw [if_pos (by rw [hr, List.getElem?_append_right (Nat.le_refl _), Nat.sub_self]; rfl)] at hR
      cases hR
    · rw [if_neg hc]
theorem wrd_isW {r : List UInt8} (h : wrd r ≠ []) : isW (wrd r) = true := by
  unfold isW
  rw [Bool.and_eq_true, decide_eq_true_eq, decide_eq_true_eq]
  refine ⟨h, ?_⟩
  cases r with
  | nil => simp [wrd] at h
  | cons c r =>
    rw [wrd] at h ⊢
    by_cases hc : isL c = true
    · rw [if_pos hc, wrd, if_pos hc]
      congr 1
      have := takeWhile_len isLF (List.takeWhile isLF r) _ (Nat.le_refl _) (fun j hj x hx => List.all_eq_true.1 (List.all_takeWhile (p := isLF) (l := r)) x (List.mem_of_getElem? hx)) (Or.inl rfl)
      rw [this, List.take_length]
    · rw [if_neg hc] at h; exact absurd rfl h
theorem unqs_first {r : List UInt8} (h : (unqs r).2.2 = 0) : ∃ t, r = 34 :: t := by
  obtain ⟨-, -, h3⟩ := unqs_good r h
  cases r with
  | nil => simp [bt] at h3
  | cons c t => exact ⟨t, by rw [← u8_of (c := c) (n := 34) (by simpa [bt] using h3)]; rfl⟩
theorem wrd_mark (t : List UInt8) : wrd (34 :: t) = [] := by rw [wrd, if_neg (by decide)]
theorem wrd_pre (r : List UInt8) : ∃ u, r = wrd r ++ u := by
  cases r with
  | nil => exact ⟨[], rfl⟩
  | cons c r =>
    rw [wrd]
    split
    · exact ⟨r.dropWhile isLF, by rw [List.cons_append, List.takeWhile_append_dropWhile]⟩
    · exact ⟨c :: r, rfl⟩
/-- A field, read and written. -/
theorem field_eq (r : List UInt8) (h91 : Lib.hasPrefix (46 :: r) [91] = false) : fieldR r = if rightS (gss (46 :: r)) && Lib.hasPrefix (46 :: r) (stT (gss (46 :: r))) then some (gss (46 :: r), (stT (gss (46 :: r))).length - 1) else none := by
  have hg : gss (46 :: r) = if (unqs r).2.2 = 0 then ⟨false, (unqs r).1, 0⟩ else ⟨false, wrd r, 0⟩ := by
    unfold gss
    rw [h91, show Lib.trimPrefix (46 :: r) [46] = r from trim_of [46] r]
    rfl
  unfold fieldR
  by_cases hu : (unqs r).2.2 = 0
  · rw [if_pos hu] at hg
    rw [hg]
    obtain ⟨hv, hn, -⟩ := unqs_good r hu
    obtain ⟨t, ht⟩ := unqs_first hu
    have hw : wrd r = [] := by rw [ht, wrd_mark]
    rw [if_neg (by rw [hw]; simp)]
    have hr : rightS ⟨false, (unqs r).1, 0⟩ = true := by unfold rightS; simp [hv]
    rw [hr, Bool.true_and]
    by_cases hW : isW (unqs r).1 = true
    · rw [if_neg (by rw [hW]; simp), if_neg]
      intro h
      obtain ⟨u, hu2⟩ := pre_iff.1 h
      obtain ⟨c, a, ha, hc⟩ := isW_first hW
      rw [stT, if_neg (by simp), if_pos hW, ha, ht] at hu2
      simp at hu2
      exact (isL_ne hc).1 (by rw [← hu2.1]; rfl)
    · have hW' : isW (unqs r).1 = false := by simpa using hW
      have hst : stT ⟨false, (unqs r).1, 0⟩ = 46 :: quo (unqs r).1 := by rw [stT, if_neg (by simp), if_neg hW]
      rw [hst]
      by_cases hq : quo (unqs r).1 = r.take (unqs r).2.1
      · rw [if_pos ⟨hu, hW', hq⟩, if_pos]
        · have h5 := congrArg List.length hq
          rw [List.length_take, Nat.min_eq_left hn] at h5
          rw [List.length_cons, Nat.add_sub_cancel, h5]
        · refine pre_iff.2 ⟨r.drop (unqs r).2.1, ?_⟩
          rw [List.cons_append, hq, List.take_append_drop]
      · rw [if_neg (fun h => hq h.2.2), if_neg]
        intro h
        obtain ⟨u, hu2⟩ := pre_iff.1 h
        have hr2 : r = quo (unqs r).1 ++ u := by simpa using hu2
        have hb := quo_back (unqs r).1 u hv
        rw [← hr2] at hb
        apply hq
        have hlen : (unqs r).2.1 = (quo (unqs r).1).length := by rw [hb]
        rw [hlen]
        have key : ∀ (z u r : List UInt8), r = z ++ u → z = r.take z.length := by rintro z u r rfl; simp
        exact key _ u r hr2
  · rw [if_neg hu] at hg
    rw [hg]
    by_cases hw : wrd r = []
    · rw [if_neg (by rw [hw]; simp), if_neg (fun h => hu h.1), if_neg]
      intro h
      rw [Bool.and_eq_true] at h
      obtain ⟨u, hu2⟩ := pre_iff.1 h.2
      rw [hw] at hu2
      have hst : stT ⟨false, [], 0⟩ = 46 :: quo [] := by rw [stT, if_neg (by simp), if_neg (by decide)]
      rw [hst] at hu2
      have hr2 : r = quo [] ++ u := by simpa using hu2
      apply hu
      rw [hr2, quo_back [] u (vld_low (by simp))]
    · rw [if_pos hw]
      have hW := wrd_isW hw
      have hr : rightS ⟨false, wrd r, 0⟩ = true := by unfold rightS; simp [vld_low (wrd_low r)]
      have hst : stT ⟨false, wrd r, 0⟩ = 46 :: wrd r := by rw [stT, if_neg (by simp), if_pos hW]
      have hp : Lib.hasPrefix (46 :: r) (46 :: wrd r) = true := by
        obtain ⟨u, hu⟩ := wrd_pre r
        exact pre_iff.2 ⟨u, by rw [List.cons_append, ← hu]⟩
      rw [hr, hst, hp]
      simp
/-- A step, read: the document's way is the program's. -/
theorem step_eq (l : List UInt8) (first : Bool) : stepR l first = bgn l first := by
  cases l with
  | nil =>
    cases first with
    | true => rfl
    | false =>
      unfold bgn ahd
      simp only [Bool.false_and, Bool.false_eq_true, if_false, List.drop_nil]
      rw [if_neg]; · rfl
      intro h
      rw [Bool.and_eq_true] at h
      have h1 : (stT (gss [])).length ≤ 0 := pre_len h.2
      have h2 := stT_pos (gss [])
      omega
  | cons c r =>
    by_cases hc : c = 46
    · subst hc
      unfold stepR
      simp only
      rw [if_pos trivial]
      have h46 : Lib.hasPrefix (46 :: r) [46] = true := pre_iff.2 ⟨r, rfl⟩
      have h91 : Lib.hasPrefix (46 :: r) [91] = false := by simp [Lib.hasPrefix, List.isPrefixOf]
      have hF := field_eq r h91
      have hst : ∀ g, 1 ≤ (stT g).length := stT_pos
      by_cases h2 : first = true ∧ Lib.hasPrefix (46 :: r) [46, 91] = true
      · obtain ⟨rfl, h2⟩ := h2
        obtain ⟨t, ht⟩ := pre_iff.1 h2
        have hr : r = 91 :: t := by simpa using ht
        subst hr
        have hfn : fieldR (91 :: t) = none := by
          unfold fieldR
          rw [if_neg (by rw [wrd, if_neg (by decide)]; simp), if_neg]
          intro h
          obtain ⟨u, hu⟩ := unqs_first h.1
          cases hu
        rw [hfn]
        simp only [if_true]
        rw [part_eq]
        unfold bgn
        have ha : ahd (46 :: 91 :: t) true = 1 := by unfold ahd; rw [h2]; rfl
        rw [ha, h2]
        simp only [Bool.not_true, Bool.and_false, Bool.false_and, Bool.false_eq_true, if_false, List.drop_succ_cons, List.drop_zero]
        split
        · simp only [Option.map_some]
          have := hst (gss (91 :: t))
          congr 2; omega
        · rfl
      · have ha : ahd (46 :: r) first = 0 := by
          unfold ahd
          rw [if_neg]
          rw [Bool.and_eq_true]; exact h2
        have hbg : bgn (46 :: r) first = if rightS (gss (46 :: r)) && Lib.hasPrefix (46 :: r) (stT (gss (46 :: r))) then some (gss (46 :: r), 0 + (stT (gss (46 :: r))).length) else none := by
          unfold bgn
          rw [ha, h46]
          simp only [Bool.not_true, Bool.and_false, Bool.false_eq_true, if_false, List.drop_zero]
        rw [hbg, hF]
        have hp := hst (gss (46 :: r))
        split
        · rename_i x hx
          split at hx
          · rename_i hcond
            injection hx with hx
            subst hx
            rw [if_pos hcond]
            simp only
            congr 2; omega
          · cases hx
        · rename_i hx
          split at hx
          · cases hx
          · rename_i hcond
            rw [if_neg hcond]
            cases first with
            | false => rfl
            | true =>
              simp only [if_true]
              cases r with
              | nil => rfl
              | cons d r' =>
                simp only
                rw [if_neg]
                intro hd
                apply h2
                exact ⟨rfl, pre_iff.2 ⟨r', by rw [hd]; rfl⟩⟩
    · unfold stepR
      simp only
      rw [if_neg hc]
      have h46 : Lib.hasPrefix (c :: r) [46] = false := by simp [Lib.hasPrefix, List.isPrefixOf]; exact fun h => hc h.symm
      have h462 : Lib.hasPrefix (c :: r) [46, 91] = false := by simp [Lib.hasPrefix, List.isPrefixOf]; intro h; exact absurd h.symm hc
      cases first with
      | true =>
        unfold bgn
        rw [h46, h462]; rfl
      | false =>
        have hbg : bgn (c :: r) false = if rightS (gss (c :: r)) && Lib.hasPrefix (c :: r) (stT (gss (c :: r))) then some (gss (c :: r), 0 + (stT (gss (c :: r))).length) else none := rfl
        rw [hbg]
        simp only [Bool.false_eq_true, if_false]
        have hp := stT_pos (gss (c :: r))
        by_cases h91 : c = 91
        · subst h91
          rw [if_pos rfl, part_eq]
          split
          · simp only [Option.map_some]
            congr 2; omega
          · rfl
        · rw [if_neg h91, if_neg]
          intro h
          rw [Bool.and_eq_true] at h
          obtain ⟨d, t, hd, -, h5, h6⟩ := stT_head (gss (c :: r))
          obtain ⟨u, hu⟩ := pre_iff.1 h.2
          rw [hd] at hu
          have hcd : c = d := by simpa using congrArg List.head? hu
          cases hpt : (gss (c :: r)).part with
          | true => exact h91 (by rw [hcd]; exact h5 hpt)
          | false => exact hc (by rw [hcd]; exact h6 hpt)
end Pw
end Go.Proofs.YtafbojiojeemoaaGreatDoor
