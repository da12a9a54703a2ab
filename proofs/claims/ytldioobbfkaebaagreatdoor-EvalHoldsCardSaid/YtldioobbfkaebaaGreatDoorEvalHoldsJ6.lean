/-
  Joined: PaT, Mem, Pa1, PT1, PaR0, PaB1, NumPlain3, NumPlain4, FwO.
-/
import Derived.Test.YtldioobbfkaebaaGreatDoorEvalHoldsJ2
import Derived.Test.YtldioobbfkaebaaGreatDoorEvalHoldsJ5
import Derived.Lib.ItoaNum
import Derived.Lib.AtoiAll
import Derived.Lib.IndexMore
import Derived.Lib.IndexBytes
import Derived.Below
import Derived.Laws.OwnMore
import Derived.Deep.AppendLies
import Derived.Deep.Draws
import Derived.Maps.AppendAt
import Derived.RegionTactic
import Derived.OwnWalk
import Derived.Deep.Light
import Derived.Lib.ValidLaws
import Derived.Lib.Repeat
import Derived.Lib.ItoaLen
set_option maxHeartbeats 4000000
set_option maxRecDepth 100000
namespace Go.Proofs.YtldioobbfkaebaaGreatDoor
section
namespace Pw
open Go.RowKit Np Rw Vp Up Qp
def isL (c : UInt8) : Bool := decide (97 ≤ c.toNat ∧ c.toNat ≤ 122) || decide (65 ≤ c.toNat ∧ c.toNat ≤ 90) || decide (c.toNat = 95)
def isF (c : UInt8) : Bool := decide (48 ≤ c.toNat ∧ c.toNat ≤ 57)
def isLF (c : UInt8) : Bool := isL c || isF c
def wrd : List UInt8 → List UInt8
 | [] => []
 | c :: r => if isL c then c :: r.takeWhile isLF else []
def okAt (l : List UInt8) (k : Nat) : Bool := match l[k]? with
 | none => false
 | some c => isL c || (decide (0 < k) && isF c)
theorem takeWhile_len {α : Type} (p : α → Bool) : ∀ (l : List α) (n : Nat), n ≤ l.length → (∀ j, j < n → ∀ x, l[j]? = some x → p x = true) → (n = l.length ∨ ∃ x, l[n]? = some x ∧ p x = false) → l.takeWhile p = l.take n
 | [], n, hn, _, _ => by simp
 | a :: l, 0, _, _, h => by
  rcases h with h | ⟨x, hx, hp⟩
  ·simp at h
  ·simp at hx; subst hx
   rw [List.takeWhile_cons, hp]; simp
 | a :: l, n + 1, hn, h0, h => by
  have ha : p a = true := h0 0 (by omega) a (by simp)
  rw [List.takeWhile_cons, if_pos ha, List.take_succ_cons]
  congr 1
  refine takeWhile_len p l n (by simpa using hn) (fun j hj x hx => h0 (j + 1) (by omega) x (by simpa using hx)) ?_
  rcases h with h | ⟨x, hx, hp⟩
  ·left; simpa using h
  ·right; exact ⟨x, by simpa using hx, hp⟩
theorem wrd_of {l : List UInt8} {n : Nat} (hn : n ≤ l.length) (h0 : ∀ j, j < n → okAt l j = true) (h1 : okAt l n = false) : wrd l = l.take n := by
 cases l with
 | nil => simp [wrd]
 | cons c r =>
  cases n with
  | zero =>
   have : isL c = false := by simpa [okAt] using h1
   rw [wrd, this]; simp
  | succ n =>
   have hc : isL c = true := by simpa [okAt] using h0 0 (by omega)
   rw [wrd, if_pos hc, List.take_succ_cons]
   congr 1
   refine takeWhile_len isLF r n (by simpa using hn) (fun j hj x hx => ?_) ?_
   ·have := h0 (j + 1) (by omega)
    rw [okAt, List.getElem?_cons_succ, hx] at this
    simpa [isLF] using this
   ·rw [okAt, List.getElem?_cons_succ] at h1
    cases hr : r[n]? with
    | none =>
     left
     have := List.getElem?_eq_none_iff.1 hr
     simp at hn; omega
    | some x =>
     rw [hr] at h1
     exact Or.inr ⟨x, rfl, by simpa [isLF] using h1⟩
theorem wrd_le (l : List UInt8) : (wrd l).length ≤ l.length := by
 cases l with
 | nil => simp [wrd]
 | cons c r =>
  rw [wrd]; split
  ·have := (List.takeWhile_sublist isLF (l := r)).length_le
   simp; omega
  ·simp
theorem wrd_low : ∀ (l : List UInt8), ∀ c ∈ wrd l, c.toNat < 128 := by
 intro l c hc
 cases l with
 | nil => simp [wrd] at hc
 | cons a r =>
  rw [wrd] at hc
  have hL : ∀ x : UInt8, isL x = true → x.toNat < 128 := fun x h => by simp [isL] at h; omega
  have hF : ∀ x : UInt8, isF x = true → x.toNat < 128 := fun x h => by simp [isF] at h; omega
  split at hc
  ·rename_i ha
   rcases List.mem_cons.1 hc with rfl | hc
   ·exact hL _ ha
   ·have := List.all_eq_true.1 (List.all_takeWhile (p := isLF) (l := r)) c hc
    simp [isLF] at this
    rcases this with h | h
    ·exact hL _ h
    ·exact hF _ h
  ·simp at hc
def isW (name : List UInt8) : Bool := decide (name ≠ []) && decide (wrd name = name)
def stT (s : St) : List UInt8 := if s.part then 91 :: (Lib.itoa s.n ++ [93]) else if isW s.name then 46 :: s.name else 46 :: quo s.name
def headT (p : List St) : List UInt8 := match p with
 | [] => [46]
 | s :: _ => if s.part then [46] else []
def textP (p : List St) : List UInt8 := headT p ++ p.flatMap stT
def atoiN (l : List UInt8) : Int := match Lib.atoiAll l with
 | .ok v => v
 | .range => Lib.atoiSat l
 | _ => 0
def gss (l : List UInt8) : St :=
 if Lib.hasPrefix l [91] then ⟨true, [], atoiN (Lib.cut (Lib.trimPrefix l [91]) [93]).1⟩
 else if (unqs (Lib.trimPrefix l [46])).2.2 = 0 then ⟨false, (unqs (Lib.trimPrefix l [46])).1, 0⟩
 else ⟨false, wrd (Lib.trimPrefix l [46]), 0⟩
def ahd (l : List UInt8) (first : Bool) : Nat := if first && Lib.hasPrefix l [46, 91] then 1 else 0
def bgn (l : List UInt8) (first : Bool) : Option (St × Nat) :=
 if first && !Lib.hasPrefix l [46, 91] && !Lib.hasPrefix l [46] then none
 else if rightS (gss (l.drop (ahd l first))) && Lib.hasPrefix (l.drop (ahd l first)) (stT (gss (l.drop (ahd l first)))) then some (gss (l.drop (ahd l first)), ahd l first + (stT (gss (l.drop (ahd l first)))).length) else none
def readF : Nat → List St → List UInt8 → Nat → List St × Nat × Int
 | 0, _, _, i => ([], i, 1)
 | f + 1, acc, l, i => match bgn (l.drop i) (i == 0) with
  | none => ([], i, 1)
  | some (g, n) => if acc.length = 20 then ([], i, 1) else if i + n = l.length then (acc ++ [g], 0, 0) else readF f (acc ++ [g]) l (i + n)
def readP (l : List UInt8) : List St × Nat × Int := if l = [46] then ([], 0, 0) else readF (l.length + 1) [] l 0
theorem pre_iff {l p : List UInt8} : Lib.hasPrefix l p = true ↔ ∃ t, l = p ++ t := by
 unfold Lib.hasPrefix
 rw [List.isPrefixOf_iff_prefix]
 constructor
 ·rintro ⟨t, rfl⟩; exact ⟨t, rfl⟩
 ·rintro ⟨t, rfl⟩; exact ⟨t, rfl⟩
theorem pre_len {l p : List UInt8} (h : Lib.hasPrefix l p = true) : p.length ≤ l.length := by
 obtain ⟨t, rfl⟩ := pre_iff.1 h; simp
theorem trim_of (p t : List UInt8) : Lib.trimPrefix (p ++ t) p = t := by
 unfold Lib.trimPrefix
 rw [if_pos (pre_iff.2 ⟨t, rfl⟩)]; simp
theorem stT_pos (s : St) : 1 ≤ (stT s).length := by
 unfold stT; split
 ·simp
 ·split <;> simp
theorem bgn_some {l : List UInt8} {first : Bool} {g : St} {n : Nat} (h : bgn l first = some (g, n)) : rightS g = true ∧ g = gss (l.drop (ahd l first)) ∧ n = ahd l first + (stT g).length ∧ (∃ t, l.drop (ahd l first) = stT g ++ t) ∧ (first = true → Lib.hasPrefix l [46, 91] = true ∨ Lib.hasPrefix l [46] = true) := by
 unfold bgn at h
 split at h
 ·cases h
 ·rename_i h1
  split at h
  ·rename_i h2
   injection h with h
   injection h with ha hb
   rw [Bool.and_eq_true] at h2
   subst ha
   refine ⟨h2.1, rfl, hb.symm, pre_iff.1 h2.2, fun hf => ?_⟩
   subst hf
   cases hp : Lib.hasPrefix l [46, 91] <;> cases hq : Lib.hasPrefix l [46] <;> simp_all
  ·cases h
theorem ahd_le (l : List UInt8) (first : Bool) : ahd l first ≤ l.length := by
 unfold ahd; split
 ·rename_i h
  rw [Bool.and_eq_true] at h
  have := pre_len h.2
  simp at this; omega
 ·omega
theorem bgn_len {l : List UInt8} {first : Bool} {g : St} {n : Nat} (h : bgn l first = some (g, n)) : 1 ≤ n ∧ n ≤ l.length := by
 obtain ⟨-, -, hn, ⟨t, ht⟩, -⟩ := bgn_some h
 have h1 := stT_pos g
 have h2 := congrArg List.length ht
 have h3 := ahd_le l first
 rw [List.length_drop, List.length_append] at h2
 omega
theorem bgn_text {l : List UInt8} {first : Bool} {g : St} {n : Nat} (h : bgn l first = some (g, n)) : l.take n = (if first then headT [g] else []) ++ stT g := by
 obtain ⟨-, hg, hn, ⟨t, ht⟩, hf⟩ := bgn_some h
 subst hn
 unfold ahd at *
 cases first with
 | false =>
  simp only [Bool.false_and, Bool.false_eq_true, if_false, List.drop_zero, Nat.zero_add, List.nil_append] at *
  rw [ht]; simp
 | true =>
  simp only [Bool.true_and, if_true] at *
  by_cases h2 : Lib.hasPrefix l [46, 91] = true
  ·obtain ⟨r, hr⟩ := pre_iff.1 h2
   simp only [h2, if_true] at *
   subst hr
   have hg2 : g.part = true := by
    rw [hg]; unfold gss
    rw [if_pos (pre_iff.2 ⟨r, by simp⟩)]
   simp only [headT, hg2, if_true]
   simp only [List.cons_append, List.nil_append, List.drop_succ_cons, List.drop_zero] at ht
   rw [show [46, 91] ++ r = 46 :: (91 :: r) by simp, ht, Nat.add_comm, List.take_succ_cons]
   simp
  ·have h2' : Lib.hasPrefix l [46, 91] = false := by simpa using h2
   have h3 : ∃ r, l = [46] ++ r := pre_iff.1 ((hf trivial).resolve_left h2)
   simp only [h2', Bool.false_eq_true, if_false, List.drop_zero, Nat.zero_add] at *
   obtain ⟨r, rfl⟩ := h3
   have hg2 : g.part = false := by
    rw [hg]; unfold gss
    have : Lib.hasPrefix ([46] ++ r) [91] = false := by simp [Lib.hasPrefix, List.isPrefixOf]
    rw [this]
    simp only [Bool.false_eq_true, if_false]
    split <;> rfl
   simp only [headT, hg2, Bool.false_eq_true, if_false, List.nil_append]
   rw [ht]; simp
theorem headT_append (s : St) (p q : List St) : headT (s :: p ++ q) = headT (s :: p) := rfl
theorem readF_good : ∀ (f : Nat) (acc : List St) (l : List UInt8) (i : Nat), i ≤ l.length → (i = 0 ↔ acc = []) → acc.all rightS = true → acc.length ≤ 20 → (acc ≠ [] → textP acc = l.take i) →
  ((readF f acc l i).2.2 = 0 ∧ (readF f acc l i).2.1 = 0 ∧ rightP (readF f acc l i).1 = true ∧ textP (readF f acc l i).1 = l) ∨ ((readF f acc l i).2.2 = 1 ∧ (readF f acc l i).1 = [] ∧ (readF f acc l i).2.1 ≤ l.length)
 | 0, acc, l, i, hi, _, _, _, _ => Or.inr ⟨rfl, rfl, hi⟩
 | f + 1, acc, l, i, hi, h0, hr, hl, ht => by
  rw [readF]
  cases hb : bgn (l.drop i) (i == 0) with
  | none => exact Or.inr ⟨rfl, rfl, hi⟩
  | some x =>
   obtain ⟨g, n⟩ := x
   simp only
   have b1 := bgn_some hb
   have b2 := bgn_len hb
   have b3 := bgn_text hb
   rw [List.length_drop] at b2
   have h4 : textP (acc ++ [g]) = l.take (i + n) := by
    rw [List.take_add, b3]
    cases acc with
    | nil =>
     have : i = 0 := h0.2 rfl
     subst this
     simp [textP]
    | cons a r =>
     have hi0 : ¬ i = 0 := fun e => by simpa using h0.1 e
     have e1 : (i == 0) = false := by simpa using hi0
     rw [e1, ← ht (by simp)]
     simp only [textP, headT_append, List.flatMap_append, Bool.false_eq_true, if_false]
     simp
   have h5 : (acc ++ [g]).all rightS = true := by
    rw [List.all_append, hr]; simp [b1.1]
   split
   ·exact Or.inr ⟨rfl, rfl, hi⟩
   ·split
    ·rename_i h20 hn
     left
     refine ⟨rfl, rfl, ?_, ?_⟩
     ·unfold rightP
      rw [h5]
      simp; omega
     ·rw [h4, hn]; simp
    ·rename_i h20 hn
     exact readF_good f (acc ++ [g]) l (i + n) (by omega) ⟨fun h => by omega, fun h => by simp at h⟩ h5 (by simp; omega) (fun _ => h4)
theorem readP_good (l : List UInt8) : ((readP l).2.2 = 0 ∧ (readP l).2.1 = 0 ∧ rightP (readP l).1 = true ∧ textP (readP l).1 = l) ∨ ((readP l).2.2 = 1 ∧ (readP l).1 = [] ∧ (readP l).2.1 ≤ l.length) := by
 unfold readP
 split
 ·rename_i h
  subst h
  exact Or.inl ⟨rfl, rfl, rfl, rfl⟩
 ·exact readF_good _ [] l 0 (Nat.zero_le _) (by simp) rfl (by simp) (fun h => absurd rfl h)
def textK (p : List St) (k : Nat) : List UInt8 := headT p ++ (p.take k).flatMap stT
theorem textK_zero (p : List St) : textK p 0 = headT p := by simp [textK]
theorem textK_succ {p : List St} {k : Nat} {s : St} (h : p[k]? = some s) : textK p (k + 1) = textK p k ++ stT s := by
 obtain ⟨hk, rfl⟩ := List.getElem?_eq_some_iff.1 h
 unfold textK
 rw [List.take_succ_eq_append_getElem hk, List.flatMap_append]
 simp
theorem textK_all {p : List St} {k : Nat} (h : p.length ≤ k) : textK p k = textP p := by
 unfold textK textP
 rw [List.take_of_length_le h]
theorem textK_len (p : List St) (k : Nat) : (textK p k).length ≤ (textP p).length := by
 unfold textK textP
 have : p.flatMap stT = (p.take k).flatMap stT ++ (p.drop k).flatMap stT := by rw [← List.flatMap_append, List.take_append_drop]
 rw [this]
 simp only [List.length_append]; omega
theorem dec_app : ∀ (n acc : Nat) (r : List UInt8), acc * 10 ^ (Lib.decDigits n).length + n < 1000000000000 → Lib.parseUint10 acc (Lib.decDigits n ++ r) = Lib.parseUint10 (acc * 10 ^ (Lib.decDigits n).length + n) r := by
 intro n
 induction n using Nat.strongRecOn with
 | _ n ih =>
  intro acc r h
  by_cases hn : n < 10
  ·rw [Lib.decDigits_one hn] at h ⊢
   have hc : (UInt8.ofNat (48 + n)).toNat = 48 + n := by simp; omega
   simp only [List.length_singleton, Nat.pow_one, List.cons_append, List.nil_append] at h ⊢
   rw [Lib.parseUint10, hc, if_pos (by omega), if_neg (by omega), if_neg (by omega)]
   congr 1; omega
  ·have e1 : Lib.decDigits n = Lib.decDigits (n / 10) ++ [UInt8.ofNat (48 + n % 10)] := by rw [Lib.decDigits, dif_neg hn]
   have hc : (UInt8.ofNat (48 + n % 10)).toNat = 48 + n % 10 := by simp; omega
   rw [e1, List.length_append, List.length_singleton, Nat.pow_succ, ← Nat.mul_assoc] at h ⊢
   generalize hz : acc * 10 ^ (Lib.decDigits (n / 10)).length = z at h ⊢
   rw [List.append_assoc, ih (n / 10) (by omega) acc _ (by rw [hz]; omega), hz, List.cons_append, List.nil_append, Lib.parseUint10, hc, if_pos (by omega), if_neg (by omega), if_neg (by omega)]
   congr 1; omega
theorem dec_fig : ∀ (n : Nat), Lib.decDigits n ≠ [] ∧ ∀ c ∈ Lib.decDigits n, 48 ≤ c.toNat ∧ c.toNat ≤ 57 := by
 intro n
 induction n using Nat.strongRecOn with
 | _ n ih =>
  by_cases hn : n < 10
  ·rw [Lib.decDigits_one hn]
   refine ⟨by simp, fun c hc => ?_⟩
   rw [List.mem_singleton.1 hc]
   simp; omega
  ·have e1 : Lib.decDigits n = Lib.decDigits (n / 10) ++ [UInt8.ofNat (48 + n % 10)] := by rw [Lib.decDigits, dif_neg hn]
   rw [e1]
   refine ⟨by simp, fun c hc => ?_⟩
   rcases List.mem_append.1 hc with hc | hc
   ·exact (ih (n / 10) (by omega)).2 c hc
   ·rw [List.mem_singleton.1 hc]
    simp; omega
theorem itoa_nat {n : Int} (h : 0 ≤ n) : Lib.itoa n = Lib.decDigits n.toNat := by unfold Lib.itoa; rw [if_neg (by omega)]
theorem atoi_itoa {n : Int} (h0 : 0 ≤ n) (h1 : n ≤ 1000000) : atoiN (Lib.itoa n) = n := by
 rw [itoa_nat h0]
 obtain ⟨hne, hf⟩ := dec_fig n.toNat
 have h2 := dec_app n.toNat 0 [] (by omega)
 rw [List.append_nil, Nat.zero_mul, Nat.zero_add, Lib.parseUint10] at h2
 unfold atoiN Lib.atoiAll
 cases hd : Lib.decDigits n.toNat with
 | nil => exact absurd hd hne
 | cons c r =>
  rw [hd] at hf h2
  have hc := hf c (by simp)
  simp only
  rw [if_neg (show ¬ (c.toNat = 43 ∨ c.toNat = 45) by omega), show Lib.parseMag (c :: r) = Lib.parseUint10 0 (c :: r) by rw [Lib.parseMag, if_neg (by simp)], h2]
  have h45 : ¬ c.toNat = 45 := by omega
  simp only [h45, not_false_eq_true, true_and, false_and, if_false]
  rw [if_neg (by omega)]
  simp only
  omega
theorem index_fig : ∀ (a t : List UInt8), (∀ c ∈ a, c.toNat ≠ 93) → Lib.index (a ++ 93 :: t) [93] = a.length
 | [], t, _ => by simp [Lib.index, List.isPrefixOf]
 | c :: a, t, h => by
  have hc : ¬ (93 : UInt8) = c := fun e => h c (by simp) (by rw [← e]; rfl)
  have hi := index_fig a t (fun x hx => h x (by simp [hx]))
  rw [List.cons_append, Lib.index, hi]
  have : [93].isPrefixOf (c :: (a ++ 93 :: t)) = false := by simp [List.isPrefixOf, hc]
  rw [this]
  simp
theorem cut_fig (a t : List UInt8) (h : ∀ c ∈ a, c.toNat ≠ 93) : (Lib.cut (a ++ 93 :: t) [93]).1 = a := by
 unfold Lib.cut
 rw [index_fig a t h, if_pos (by omega)]
 simp
theorem isW_first {a : List UInt8} (ha : isW a = true) : ∃ c r, a = c :: r ∧ isL c = true := by
 unfold isW at ha
 rw [Bool.and_eq_true, decide_eq_true_eq, decide_eq_true_eq] at ha
 obtain ⟨hne, hw⟩ := ha
 cases a with
 | nil => exact absurd rfl hne
 | cons c a =>
  refine ⟨c, a, rfl, ?_⟩
  rw [wrd] at hw
  by_cases hc : isL c = true
  ·exact hc
  ·rw [if_neg hc] at hw; cases hw
theorem isL_ne {c : UInt8} (h : isL c = true) : c.toNat ≠ 34 ∧ c.toNat ≠ 46 ∧ c.toNat ≠ 91 := by
 simp [isL] at h; omega
theorem stT_head (s : St) : ∃ c t, stT s = c :: t ∧ isLF c = false ∧ (s.part = true → c = 91) ∧ (s.part = false → c = 46) := by
 unfold stT
 split
 ·rename_i h
  exact ⟨91, _, rfl, by decide, fun _ => rfl, fun e => by rw [h] at e; cases e⟩
 ·rename_i h
  split
  ·exact ⟨46, _, rfl, by decide, fun e => absurd e h, fun _ => rfl⟩
  ·exact ⟨46, _, rfl, by decide, fun e => absurd e h, fun _ => rfl⟩
end Pw
end
section
open Go.RowKit Np
theorem quiet_more {w w' : World} (h : ∃ n, w' = w.drewN n) (k : Nat) : ∃ n, w'.drewN k = w.drewN n := by
 obtain ⟨n, rfl⟩ := h
 exact ⟨n + k, by rw [World.drewN_drewN]⟩
def CellsAt (w : World) (g o : Nat) (cs : List Value) : Prop := ∀ j u, cs[j]? = some u → w.cell? ⟨g, o + j, none⟩ = some u
theorem CellsAt.below {w w' : World} {g o : Nat} {cs : List Value} (h : CellsAt w g o cs) (hg : g < w.heap.size) (hb : Below w.heap.size w w') : CellsAt w' g o cs :=
 fun j u hu => (hb.cell (p := ⟨g, o + j, none⟩) hg).trans (h j u hu)
def Row {α : Type} (enc : α → List Value) (sz : Nat) (w : World) (v : Value) (l : List α) : Prop :=
 ∃ (A : Option Addr) (c : Nat), v = .slice A l.length c ∧ l.length ≤ c ∧ c ≤ maxLen ∧ (A = none → c = 0) ∧ (0 < l.length → ∃ g o : Nat, A = some ⟨g, o, none⟩ ∧ g < w.heap.size ∧ ∀ k x, l[k]? = some x → CellsAt w g (o + k * sz) (enc x))
section
variable {α : Type} {enc : α → List Value} {sz : Nat} {w w' : World} {v : Value} {l : List α}
theorem Row.below (h : Row enc sz w v l) (hb : Below w.heap.size w w') : Row enc sz w' v l := by
 obtain ⟨A, c, hv, hc, hm, hz, H⟩ := h
 refine ⟨A, c, hv, hc, hm, hz, fun h0 => ?_⟩
 obtain ⟨g, o, hA, hg, hx⟩ := H h0
 exact ⟨g, o, hA, Nat.lt_of_lt_of_le hg hb.size, fun k x hk => (hx k x hk).below hg hb⟩
theorem Row.low {g o c n : Nat} (h : Row enc sz w (.slice (some ⟨g, o, none⟩) l.length c) l) (hg : g < n) (hb : Below n w w') : Row enc sz w' (.slice (some ⟨g, o, none⟩) l.length c) l := by
 obtain ⟨A, c', hv, hc, hm, hz, H⟩ := h
 refine ⟨A, c', hv, hc, hm, hz, fun h0 => ?_⟩
 obtain ⟨g', o', hA, hg', hx⟩ := H h0
 injection hv with e1 _ _
 rw [hA] at e1
 injection e1 with e1
 injection e1 with e1 _
 subst e1
 exact ⟨g, o', hA, Nat.lt_of_lt_of_le hg' hb.size, fun k x hk j u hu => (hb.cell (p := ⟨g, o' + k * sz + j, none⟩) hg).trans (hx k x hk j u hu)⟩
theorem Row.nil (w : World) : Row enc sz w (.slice none 0 0) ([] : List α) := ⟨none, 0, rfl, Nat.le_refl _, Nat.zero_le _, fun _ => rfl, fun h => absurd h (by simp)⟩
theorem Row.empty (w : World) (ad : Addr) (c : Nat) (hm : c ≤ maxLen) : Row enc sz w (.slice (some ad) 0 c) ([] : List α) := ⟨some ad, c, rfl, Nat.zero_le _, hm, fun h => (by cases h), fun h => absurd h (by simp)⟩
theorem Row.opened (h : Row enc sz w v l) (h0 : 0 < l.length) : ∃ g o c : Nat, v = .slice (some ⟨g, o, none⟩) l.length c ∧ l.length ≤ c ∧ c ≤ maxLen ∧ g < w.heap.size ∧ ∀ k x, l[k]? = some x → CellsAt w g (o + k * sz) (enc x) := by
 obtain ⟨A, c, rfl, hc, hm, _, H⟩ := h
 obtain ⟨g, o, rfl, hg, hx⟩ := H h0
 exact ⟨g, o, c, rfl, hc, hm, hg, hx⟩
theorem Row.len (h : Row enc sz w v l) : l.length ≤ maxLen := by
 obtain ⟨A, c, _, hc, hm, _, _⟩ := h
 omega
theorem Row.mk {g o c : Nat} (hc : l.length ≤ c) (hm : c ≤ maxLen) (hg : g < w.heap.size) (hx : ∀ k x, l[k]? = some x → CellsAt w g (o + k * sz) (enc x)) : Row enc sz w (.slice (some ⟨g, o, none⟩) l.length c) l :=
 ⟨_, c, rfl, hc, hm, fun h => (by cases h), fun _ => ⟨g, o, rfl, hg, hx⟩⟩
end
abbrev nda (n : Nd) : Value := .agg #[.int .i64 n.kind, .int .i64 n.many, .string ⟨n.name.toArray⟩, .string ⟨n.s.toArray⟩, .bool n.neg, .int .i64 n.e]
def ndc (n : Nd) : List Value := [.int .i64 n.kind, .int .i64 n.many, .string ⟨n.name.toArray⟩, .string ⟨n.s.toArray⟩, .bool n.neg, .int .i64 n.e]
def stc (s : List UInt8) : List Value := [.string ⟨s.toArray⟩]
def inc (n : Int) : List Value := [.int .i64 n]
abbrev Nds (w : World) (v : Value) (l : List Nd) : Prop := Row ndc 6 w v l
abbrev Sts (w : World) (v : Value) (l : List (List UInt8)) : Prop := Row stc 1 w v l
abbrev Ins (w : World) (v : Value) (l : List Int) : Prop := Row inc 1 w v l
structure Nd6 (w : World) (g o : Nat) (n : Nd) : Prop where
 c0 : w.cell? ⟨g, o, none⟩ = some (.int .i64 n.kind)
 c1 : w.cell? ⟨g, o + 1, none⟩ = some (.int .i64 n.many)
 c2 : w.cell? ⟨g, o + 2, none⟩ = some (.string ⟨n.name.toArray⟩)
 c3 : w.cell? ⟨g, o + 3, none⟩ = some (.string ⟨n.s.toArray⟩)
 c4 : w.cell? ⟨g, o + 4, none⟩ = some (.bool n.neg)
 c5 : w.cell? ⟨g, o + 5, none⟩ = some (.int .i64 n.e)
theorem CellsAt.nd {w : World} {g o : Nat} {n : Nd} (h : CellsAt w g o (ndc n)) : Nd6 w g o n := ⟨h 0 _ rfl, h 1 _ rfl, h 2 _ rfl, h 3 _ rfl, h 4 _ rfl, h 5 _ rfl⟩
theorem Nd6.quiet {w w' : World} {g o : Nat} {n : Nd} (h : Nd6 w g o n) (hq : ∃ m, w' = w.drewN m) : Nd6 w' g o n := by
 obtain ⟨m, rfl⟩ := hq
 exact ⟨h.c0, h.c1, h.c2, h.c3, h.c4, h.c5⟩
theorem Nd6.drewN {w : World} {g o : Nat} {n : Nd} (h : Nd6 w g o n) (m : Nat) : Nd6 (w.drewN m) g o n := ⟨h.c0, h.c1, h.c2, h.c3, h.c4, h.c5⟩
theorem Nd6.below {w w' : World} {g o : Nat} {n : Nd} (h : Nd6 w g o n) (hg : g < w.heap.size) (hb : Below w.heap.size w w') : Nd6 w' g o n :=
 ⟨(hb.cell hg).trans h.c0, (hb.cell hg).trans h.c1, (hb.cell hg).trans h.c2, (hb.cell hg).trans h.c3, (hb.cell hg).trans h.c4, (hb.cell hg).trans h.c5⟩
theorem CellsAt.one {w : World} {g o k : Nat} {v : Value} (h : CellsAt w g (o + k * 1) [v]) : w.cell? ⟨g, o + k, none⟩ = some v := by
 have := h 0 _ rfl; rwa [Nat.mul_one] at this
theorem CellsAt.st {w : World} {g o k : Nat} {s : List UInt8} (h : CellsAt w g (o + k * 1) (stc s)) : w.cell? ⟨g, o + k, none⟩ = some (.string ⟨s.toArray⟩) := CellsAt.one h
theorem CellsAt.int {w : World} {g o k : Nat} {n : Int} (h : CellsAt w g (o + k * 1) (inc n)) : w.cell? ⟨g, o + k, none⟩ = some (.int .i64 n) := CellsAt.one h
theorem cell_quiet {w w' : World} {p : Addr} {v : Value} (h : w.cell? p = some v) (hq : ∃ m, w' = w.drewN m) : w'.cell? p = some v := by
 obtain ⟨m, rfl⟩ := hq
 exact h
theorem Row.quiet {α : Type} {enc : α → List Value} {sz : Nat} {w w' : World} {v : Value} {l : List α} (h : Row enc sz w v l) (hq : ∃ m, w' = w.drewN m) : Row enc sz w' v l := h.below (below_quiet hq)
def Rowz {α : Type} (enc : α → List Value) (sz : Nat) (w : World) (v : Value) (L : List (List α)) : Prop :=
 ∃ vs : List Value, vs.length = L.length ∧ Row (fun x => [x]) 1 w v vs ∧ ∀ (k : Nat) (x : Value) (l : List α), vs[k]? = some x → L[k]? = some l → Row enc sz w x l
abbrev Vls (w : World) (v : Value) (L : List (List Nd)) : Prop := Rowz ndc 6 w v L
section
variable {α : Type} {enc : α → List Value} {sz : Nat} {w w' : World} {v : Value} {L : List (List α)}
theorem Rowz.below (h : Rowz enc sz w v L) (hb : Below w.heap.size w w') : Rowz enc sz w' v L := by
 obtain ⟨vs, hl, h1, h2⟩ := h
 exact ⟨vs, hl, h1.below hb, fun k x l hx hk => (h2 k x l hx hk).below hb⟩
end
theorem bytes_eq_iff (a b : ByteArray) : a.toList = b.toList ↔ a = b := by
 rw [ByteArray.toList_eq, ByteArray.toList_eq]
 exact ⟨fun h => ByteArray.ext (Array.toList_inj.1 h), fun h => by rw [h]⟩
theorem neq_nd (a b : Nd) (w : World) :
  (binOp .neq 30 (.agg #[.int .i64 a.kind, .int .i64 a.many, .string ⟨a.name.toArray⟩, .string ⟨a.s.toArray⟩, .bool a.neg, .int .i64 a.e]) (.agg #[.int .i64 b.kind, .int .i64 b.many, .string ⟨b.name.toArray⟩, .string ⟨b.s.toArray⟩, .bool b.neg, .int .i64 b.e])).run Tryz.prog w
   = .ok (.bool (!decide (a = b))) w := by
 obtain ⟨k, m, nm, s, g, x⟩ := a
 obtain ⟨k2, m2, nm2, s2, g2, x2⟩ := b
 simp only [Nd.mk.injEq]
 by_cases h1 : k = k2
 ·by_cases h2 : m = m2
  ·by_cases h3 : nm = nm2
   ·by_cases h4 : s = s2
    ·by_cases h5 : g = g2
     ·by_cases h6 : x = x2
      ·subst h1 h2 h3 h4 h5 h6; simp [go_sem]
      ·subst h1 h2 h3 h4 h5; simp [go_sem, h6]
     ·subst h1 h2 h3 h4; simp [go_sem, h5]
    ·subst h1 h2 h3; simp [go_sem, h4]
   ·subst h1 h2; simp [go_sem, h3]
  ·subst h1; simp [go_sem, h2]
 ·simp [go_sem, h1]
def sameNode (k m : Int) (nm s : ByteArray) (g : Bool) (x : Int) (k2 m2 : Int) (nm2 s2 : ByteArray) (g2 : Bool) (x2 : Int) : Bool :=
 decide (k = k2 ∧ m = m2 ∧ nm = nm2 ∧ s = s2 ∧ g = g2 ∧ x = x2)
theorem eql_node (k m : Int) (nm s : ByteArray) (g : Bool) (x : Int) (k2 m2 : Int) (nm2 s2 : ByteArray) (g2 : Bool) (x2 : Int) (w : World) :
  (binOp .eql 30 (.agg #[.int .i64 k, .int .i64 m, .string nm, .string s, .bool g, .int .i64 x]) (.agg #[.int .i64 k2, .int .i64 m2, .string nm2, .string s2, .bool g2, .int .i64 x2])).run Tryz.prog w
   = .ok (.bool (sameNode k m nm s g x k2 m2 nm2 s2 g2 x2)) w := by
 unfold sameNode
 by_cases h1 : k = k2
 ·by_cases h2 : m = m2
  ·by_cases h3 : nm = nm2
   ·by_cases h4 : s = s2
    ·by_cases h5 : g = g2
     ·by_cases h6 : x = x2
      ·subst h1 h2 h3 h4 h5 h6; simp [go_sem]
      ·subst h1 h2 h3 h4 h5; simp [go_sem, h6]
     ·subst h1 h2 h3 h4; simp [go_sem, h5]
    ·have h4' : ¬ s.toList = s2.toList := fun h => h4 ((bytes_eq_iff _ _).1 h)
     subst h1 h2 h3; simp [go_sem, h4, h4']
   ·have h3' : ¬ nm.toList = nm2.toList := fun h => h3 ((bytes_eq_iff _ _).1 h)
    subst h1 h2; simp [go_sem, h3, h3']
  ·subst h1; simp [go_sem, h2]
 ·simp [go_sem, h1]
end
section
open Go.RowKit Np Rw Vp Pw
abbrev sta (s : St) : Value := .agg #[.bool s.part, .string ⟨s.name.toArray⟩, .int .i64 s.n]
def spc (s : St) : List Value := [.bool s.part, .string ⟨s.name.toArray⟩, .int .i64 s.n]
theorem spc_len (s : St) : (spc s).length = 3 := rfl
abbrev Sps (w : World) (v : Value) (l : List St) : Prop := Row spc 3 w v l
structure Sp3 (w : World) (g o : Nat) (s : St) : Prop where
 c0 : w.cell? ⟨g, o, none⟩ = some (.bool s.part)
 c1 : w.cell? ⟨g, o + 1, none⟩ = some (.string ⟨s.name.toArray⟩)
 c2 : w.cell? ⟨g, o + 2, none⟩ = some (.int .i64 s.n)
theorem CellsAt.sp {w : World} {g o : Nat} {s : St} (h : CellsAt w g o (spc s)) : Sp3 w g o s := ⟨h 0 _ rfl, h 1 _ rfl, h 2 _ rfl⟩
end
section
open Go.RowKit Np Rw Vp Up Qp Pw
theorem isW_all {l : List UInt8} (h0 : l ≠ []) (h : ∀ j, j < l.length → okAt l j = true) : isW l = true := by
 have h1 : okAt l l.length = false := by rw [okAt, List.getElem?_eq_none (Nat.le_refl _)]
 have h2 := wrd_of (Nat.le_refl _) h h1
 unfold isW
 rw [h2, List.take_length]
 simp [h0]
theorem isW_bad {l : List UInt8} {k : Nat} (hk : k < l.length) (h : ∀ j, j < k → okAt l j = true) (h1 : okAt l k = false) : isW l = false := by
 have h2 := wrd_of (Nat.le_of_lt hk) h h1
 unfold isW
 rw [h2]
 have : l.take k ≠ l := by
  intro e
  have := congrArg List.length e
  rw [List.length_take] at this
  omega
 simp [this]
theorem refWordP_any (s : ByteArray) (w : World) (hs : s.size ≤ maxLen) : Calls Tryz.prog 20 #[.string s] w fun e w' => e = .returned (.bool (isW s.data.toList)) ∧ w' = w := by
 unfold maxLen at hs
 have HX : Hid (∀ k, (h : k < s.size) → okAt s.data.toList k = (isL s[k] || (decide (0 < k) && isF s[k]))) := Lib.hid fun k h => by
  have : s.data.toList[k]? = some s[k] := by
   rw [List.getElem?_eq_getElem (by rw [size_toList]; exact h)]; rfl
  rw [okAt, this]
 have HBAD : Hid (∀ k, k < s.size → (∀ j, j < k → okAt s.data.toList j = true) → okAt s.data.toList k = false → isW s.data.toList = false) := Lib.hid fun k hk h0 h1 => isW_bad (by rw [size_toList]; exact hk) h0 h1
 have HALL : Hid (0 < s.size → (∀ j, j < s.size → okAt s.data.toList j = true) → isW s.data.toList = true) := Lib.hid fun h0 h1 => isW_all (by intro e; have := congrArg List.length e; rw [size_toList, List.length_nil] at this; omega) (by rw [size_toList]; exact h1)
 have HEMP : Hid (s.size = 0 → isW s.data.toList = false) := Lib.hid fun h0 => by
  have : s.data.toList = [] := List.eq_nil_of_length_eq_zero (by rw [size_toList]; exact h0)
  rw [this]; rfl
 generalize isW s.data.toList = R at *
 go_enter Tryz.func20, Tryz.ntmps20
 go_wp2_with fail
 go_loopw [3] (fun av wr => ∃ k : Nat, k ≤ s.size ∧ av = .int .i64 k ∧ Hid (∀ j, j < k → okAt s.data.toList j = true) ∧ wr = w) (fun av _ => s.size - (intOf av).toNat)
 case atStart => exact ⟨0, Nat.zero_le _, rfl, Lib.hid (by intro j hj; omega), rfl⟩
 case round =>
  obtain ⟨k, hk, rfl, HA, rfl⟩ := hrel
  by_cases hlt : k < s.size
  ·have HO := Lib.hid (HX.out k hlt)
   have hc := s[k].toNat_lt
   have HLd : Hid (isL s[k] = (decide (97 ≤ s[k].toNat ∧ s[k].toNat ≤ 122) || decide (65 ≤ s[k].toNat ∧ s[k].toNat ≤ 90) || decide (s[k].toNat = 95))) := Lib.hid rfl
   have HFd : Hid (isF s[k] = decide (48 ≤ s[k].toNat ∧ s[k].toNat ≤ 57)) := Lib.hid rfl
   have HGOOD : Hid (okAt s.data.toList k = true → ∀ j, j < k + 1 → okAt s.data.toList j = true) := Lib.hid fun h j hj => by
    by_cases hjk : j < k
    ·exact HA.out j hjk
    ·obtain rfl : j = k := by omega
     exact h
   have HB2 := Lib.hid (fun h => HBAD.out k hlt HA.out h)
   have HNUM : Hid ((97 ≤ s[k].toNat ∧ s[k].toNat ≤ 122 ∨ 65 ≤ s[k].toNat ∧ s[k].toNat ≤ 90 ∨ s[k].toNat = 95 ∨ 0 < k ∧ 48 ≤ s[k].toNat ∧ s[k].toNat ≤ 57) ↔ okAt s.data.toList k = true) := Lib.hid (by
    rw [HO.out, HLd.out, HFd.out]
    simp only [Bool.or_eq_true, Bool.and_eq_true, decide_eq_true_eq]
    omega)
   clear HO HLd HFd HX
   by_cases hnum : 97 ≤ s[k].toNat ∧ s[k].toNat ≤ 122 ∨ 65 ≤ s[k].toNat ∧ s[k].toNat ≤ 90 ∨ s[k].toNat = 95 ∨ 0 < k ∧ 48 ≤ s[k].toNat ∧ s[k].toNat ≤ 57
   ·have HK := Lib.hid (HGOOD.out (HNUM.out.1 hnum))
    clear HNUM HGOOD HB2 HBAD HALL HEMP HA
    by_cases h0 : k = 0
    ·subst h0
     go_wp2_with fail
     all_goals first
      | (refine ⟨⟨1, by omega, rfl, HK, by first | trivial | rfl⟩, ?_⟩; simp [intOf]; omega)
      | (exfalso; clear HK; simp at *; omega)
    ·have hk0 : ((k : Int) == 0) = false := by simpa using h0
     go_wp2_with fail
     all_goals first
      | (refine ⟨⟨k + 1, by omega, by go_num, HK, by first | trivial | rfl⟩, ?_⟩; simp [intOf]; omega)
      | (exfalso; clear HK; simp at *; omega)
   ·have HN := Lib.hid (HB2.out (by
     cases h : okAt s.data.toList k with
     | false => rfl
     | true => exact absurd (HNUM.out.2 h) hnum))
    clear HNUM HGOOD HB2 HBAD HALL HEMP HA
    by_cases h0 : k = 0
    ·subst h0
     go_wp2_with fail
     all_goals first
      | (go_ret; exact ⟨ret_bool HN.out.symm, rfl⟩)
      | (exfalso; clear HN; simp at *; omega)
    ·have hk0 : ((k : Int) == 0) = false := by simpa using h0
     go_wp2_with fail
     all_goals first
      | (go_ret; exact ⟨ret_bool HN.out.symm, rfl⟩)
      | (exfalso; clear HN; simp at *; omega)
  ·obtain rfl : k = s.size := by omega
   by_cases h0 : s.size = 0
   ·have HE := Lib.hid (HEMP.out h0)
    have hz : s.toList = [] := by rw [ByteArray.toList_eq]; exact List.eq_nil_of_length_eq_zero (by rw [size_toList]; exact h0)
    have hz2 : s.toList.isEmpty = true := by rw [hz]; rfl
    go_wp2_with fail
    all_goals go_ret
    all_goals exact ⟨ret_bool (by rw [HE.out]), rfl⟩
   ·have HE := Lib.hid (HALL.out (by omega) HA.out)
    have hz2 : s.toList.isEmpty = false := by
     rw [ByteArray.toList_eq, List.isEmpty_eq_false_iff]
     intro e
     have := congrArg List.length e
     rw [size_toList, List.length_nil] at this
     omega
    go_wp2_with fail
    all_goals go_ret
    all_goals exact ⟨ret_bool (by rw [HE.out]), rfl⟩
end
section
namespace Pw
open Go.RowKit Np Rw Vp Up Qp
theorem unqs_good (l : List UInt8) (h : (unqs l).2.2 = 0) : vld (unqs l).1 = true ∧ (unqs l).2.1 ≤ l.length ∧ bt l 0 = 34 := by
 unfold unqs at h ⊢
 split
 ·rename_i h34
  rw [if_pos h34] at h
  cases hR : unq [] (l.drop 1) 1 with
  | mk x r =>
   obtain ⟨n, e⟩ := r
   rw [hR] at h
   simp only at h
   subst h
   obtain ⟨y, y1, y2, y3, -, y5⟩ := unq_good _ [] (l.drop 1) 1 n x (Nat.le_refl _) hR
   rw [List.nil_append] at y1
   subst y1
   rw [List.length_drop] at y5
   have : 0 < l.length := ne_of_bt (l := l) (k := 0) (by omega)
   exact ⟨y2, by simp only; omega, h34⟩
 ·rename_i h34
  rw [if_neg h34] at h
  simp at h
theorem vld_low {l : List UInt8} (h : ∀ c ∈ l, c.toNat < 128) : vld l = true := by
 have := Lib.validD_ascii l.length l (fun b hb => h b (List.mem_of_mem_take hb))
 rw [List.drop_length] at this
 exact this.trans rfl
end Pw
end
section
open Go.RowKit Np Rw Vp Pw
theorem pletter_any (c : UInt8) (w : World) : Calls Tryz.prog 221 #[.int .u8 c.toNat] w fun e w' => e = .returned (.bool (isL c)) ∧ w' = w := by
 have h0 : c.toNat < 256 := c.toNat_lt
 have HL : Hid (isL c = (decide (97 ≤ c.toNat ∧ c.toNat ≤ 122) || decide (65 ≤ c.toNat ∧ c.toNat ≤ 90) || decide (c.toNat = 95))) := Lib.hid rfl
 generalize isL c = b at *
 generalize c.toNat = n at *
 by_cases h1 : 97 ≤ n
 ·by_cases h2 : n ≤ 122
  ·have HR : Hid (b = true) := Lib.hid (by rw [HL.out]; simp; omega)
   go_enter Tryz.func221, Tryz.ntmps221
   go_wp2_with fail
   go_ret
   exact ⟨ret_bool HR.out.symm, rfl⟩
  ·have HR : Hid (b = false) := Lib.hid (by rw [HL.out]; simp; omega)
   go_enter Tryz.func221, Tryz.ntmps221
   go_wp2_with fail
   all_goals go_ret
   all_goals exact ⟨ret_bool (by rw [HR.out]; simp; omega), rfl⟩
 ·by_cases h3 : 65 ≤ n
  ·by_cases h4 : n ≤ 90
   ·have HR : Hid (b = true) := Lib.hid (by rw [HL.out]; simp; omega)
    go_enter Tryz.func221, Tryz.ntmps221
    go_wp2_with fail
    go_ret
    exact ⟨ret_bool HR.out.symm, rfl⟩
   ·have HR : Hid (b = decide (n = 95)) := Lib.hid (by rw [HL.out, Bool.eq_iff_iff]; simp; omega)
    go_enter Tryz.func221, Tryz.ntmps221
    go_wp2_with fail
    all_goals go_ret
    all_goals exact ⟨ret_bool (by rw [HR.out, Bool.eq_iff_iff]; simp; omega), rfl⟩
  ·have HR : Hid (b = false) := Lib.hid (by rw [HL.out]; simp; omega)
   go_enter Tryz.func221, Tryz.ntmps221
   go_wp2_with fail
   all_goals go_ret
   all_goals exact ⟨ret_bool (by rw [HR.out]; simp; omega), rfl⟩
theorem pfigure_any (c : UInt8) (w : World) : Calls Tryz.prog 222 #[.int .u8 c.toNat] w fun e w' => e = .returned (.bool (isF c)) ∧ w' = w := by
 have h0 : c.toNat < 256 := c.toNat_lt
 have HL : Hid (isF c = decide (48 ≤ c.toNat ∧ c.toNat ≤ 57)) := Lib.hid rfl
 generalize isF c = b at *
 generalize c.toNat = n at *
 by_cases h1 : 48 ≤ n
 ·go_enter Tryz.func222, Tryz.ntmps222
  go_wp2_with fail
  all_goals go_ret
  all_goals exact ⟨ret_bool (by rw [HL.out, Bool.eq_iff_iff]; simp; omega), rfl⟩
 ·go_enter Tryz.func222, Tryz.ntmps222
  go_wp2_with fail
  all_goals go_ret
  all_goals exact ⟨ret_bool (by rw [HL.out, Bool.eq_iff_iff]; simp; omega), rfl⟩
theorem word_any (s : ByteArray) (w : World) (hs : s.size ≤ maxLen) : Calls Tryz.prog 193 #[.string s] w fun e w' => e = .returned (.string ⟨(wrd s.data.toList).toArray⟩) ∧ w' = w := by
 unfold maxLen at hs
 have HX : Hid (∀ k, (h : k < s.size) → okAt s.data.toList k = (isL s[k] || (decide (0 < k) && isF s[k]))) := Lib.hid fun k h => by
  have : s.data.toList[k]? = some s[k] := by
   rw [List.getElem?_eq_getElem (by rw [size_toList]; exact h)]; rfl
  rw [okAt, this]
 have HEND : Hid (∀ k, k ≤ s.size → (∀ j, j < k → okAt s.data.toList j = true) → okAt s.data.toList k = false → s.extract 0 k = ⟨(wrd s.data.toList).toArray⟩) := Lib.hid fun k hk h0 h1 => by
  rw [wrd_of (by rw [size_toList]; exact hk) h0 h1]
  have h := Lib.extract_toList s 0 k
  rw [ByteArray.toList_eq, List.drop_zero, Nat.sub_zero] at h
  rw [← h]
 go_enter Tryz.func193, Tryz.ntmps193
 go_wp2_with fail
 go_loopw [3] (fun av wr => ∃ k : Nat, k ≤ s.size ∧ av = .int .i64 k ∧ Hid (∀ j, j < k → okAt s.data.toList j = true) ∧ wr = w) (fun av _ => s.size - (intOf av).toNat)
 case atStart => exact ⟨0, Nat.zero_le _, rfl, Lib.hid (by intro j hj; omega), rfl⟩
 case round =>
  obtain ⟨k, hk, rfl, HA, rfl⟩ := hrel
  by_cases hlt : k < s.size
  ·have HO := Lib.hid (HX.out k hlt)
   go_wp2_with fail
   refine (pletter_any s[k] _).mono ?_
   rintro e w1 ⟨rfl, rfl⟩
   cases hL : isL s[k] with
   | true =>
    have HA2 : Hid (∀ j, j < k + 1 → okAt s.data.toList j = true) := Lib.hid fun j hj => by
     by_cases hjk : j < k
     ·exact HA.out j hjk
     ·obtain rfl : j = k := by omega
      rw [HO.out, hL]; rfl
    clear hL
    go_wp2_with fail
    go_roundw
    case rel => exact ⟨k + 1, by omega, by go_num, HA2, by first | trivial | rfl⟩
    case measure => simp [intOf]; omega
   | false =>
    by_cases h0 : 0 < k
    ·have h0' : (k : Int) > 0 := by omega
     go_wp2_with fail
     refine (pfigure_any s[k] _).mono ?_
     rintro e w1 ⟨rfl, rfl⟩
     cases hF : isF s[k] with
     | true =>
      have HA2 : Hid (∀ j, j < k + 1 → okAt s.data.toList j = true) := Lib.hid fun j hj => by
       by_cases hjk : j < k
       ·exact HA.out j hjk
       ·obtain rfl : j = k := by omega
        rw [HO.out, hL, hF]; simp [h0]
      clear hL hF
      go_wp2_with fail
      go_roundw
      case rel => exact ⟨k + 1, by omega, by go_num, HA2, by first | trivial | rfl⟩
      case measure => simp [intOf]; omega
     | false =>
      have HE := Lib.hid (HEND.out k hk HA.out (by rw [HO.out, hL, hF]; simp))
      clear hL hF
      go_wp2_with fail
      go_ret
      exact ⟨ret_str HE.out, rfl⟩
    ·have HE := Lib.hid (HEND.out k hk HA.out (by rw [HO.out, hL]; simp [h0]))
     clear hL
     go_wp2_with fail
     go_ret
     exact ⟨ret_str HE.out, rfl⟩
  ·obtain rfl : k = s.size := by omega
   have HE := Lib.hid (HEND.out s.size hk HA.out (by
    rw [okAt, List.getElem?_eq_none (by rw [size_toList]; omega)]))
   go_wp2_with fail
   go_ret
   exact ⟨ret_str (by have := HE.out; simpa using this), rfl⟩
end
section
namespace Np
open Go.RowKit
def powOf (r : Wr) : Int := if r.down = true then -(worth (Lib.trimLeftB r.power 48) : Int) else (worth (Lib.trimLeftB r.power 48) : Int)
def mkW (r : Wr) : Nd × Int := mk r.neg (r.whole ++ r.part) (powOf r - r.part.length)
def readF (l : List UInt8) : Nd × Int × Int :=
 if (scanF l).2.2 = false then (nd0, (scanF l).2.1, 1) else if 6 < (Lib.trimLeftB (scanF l).1.power 48).length then (nd0, 0, 2) else ((mkW (scanF l).1).1, 0, (mkW (scanF l).1).2)
end Np
end
section
namespace Np
open Go.RowKit
end Np
end
section
namespace Fw
open Go.RowKit Np Rw Vp Pw
structure Tm where
 op : Int
 many : Int
 name : List UInt8
 s : List UInt8
 n : Int
 c : Nd
deriving DecidableEq
abbrev tmany (t : Tm) : Int := t.many
def zeroC : Nd := ⟨0, 0, [], [], false, 0⟩
def noNm (t : Tm) : Tm := { t with name := [] }
end Fw
end
end Go.Proofs.YtldioobbfkaebaaGreatDoor
