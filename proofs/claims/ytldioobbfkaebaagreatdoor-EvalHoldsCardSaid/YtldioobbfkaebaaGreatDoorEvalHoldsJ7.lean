/-
  Joined: PaR, NumW2, NumW3, NumW4, NumW5, NumW6, NumW7, RefW3, Own, PaB0.
-/
import Derived.Test.YtldioobbfkaebaaGreatDoorEvalHoldsJ6
import Derived.Test.YtldioobbfkaebaaGreatDoorEvalHoldsJ2
import Derived.Test.YtldioobbfkaebaaGreatDoorEvalHoldsJ4
import Derived.Test.YtldioobbfkaebaaGreatDoorEvalHoldsJ5
import Derived.Deep.LoopGhost
import Derived.RegionTactic
import Derived.ChangeAlike
import Derived.Deep.DeepCutAuto
import Derived.Lib.ItoaLen
import Derived.Outline
import Derived.Test.YtldioobbfkaebaaGreatDoorEvalHoldsJ1
import Derived.WalkSmall
import Derived.Laws.AppendOwnNone
import Derived.Lib.CutLaws
import Derived.Lib.IndexBytes
import Derived.Lib.Bytealg
import Derived.Shelf.RegionOpenPlain
set_option maxHeartbeats 2000000
set_option maxRecDepth 100000
namespace Go.Proofs.YtldioobbfkaebaaGreatDoor
section
namespace Pw
open Go.RowKit Np Rw Vp Up Qp
def valD (d : List UInt8) : Nat := d.foldl (fun n c => n * 10 + (c.toNat - 48)) 0
def figD (r : List UInt8) : List UInt8 := (r.take 7).takeWhile isF
def figR (r : List UInt8) : Option (Nat × Nat) := if figD r = [] ∨ ((figD r).head? = some 48 ∧ 1 < (figD r).length) ∨ 1000000 < valD (figD r) then none else some (valD (figD r), (figD r).length)
def partR (r : List UInt8) : Option (St × Nat) := match figR r with
 | none => none
 | some x => if r[x.2]? = some 93 then some (⟨true, [], x.1⟩, x.2 + 1) else none
def fieldR (r : List UInt8) : Option (St × Nat) :=
 if wrd r ≠ [] then some (⟨false, wrd r, 0⟩, (wrd r).length)
 else if (unqs r).2.2 = 0 ∧ isW (unqs r).1 = false ∧ quo (unqs r).1 = r.take (unqs r).2.1 then some (⟨false, (unqs r).1, 0⟩, (unqs r).2.1) else none
def stepR (l : List UInt8) (first : Bool) : Option (St × Nat) := match l with
 | [] => none
 | c :: r =>
  if c = 46 then match fieldR r with
   | some x => some (x.1, x.2 + 1)
   | none => if first then match r with
     | [] => none
     | d :: r' => if d = 91 then (partR r').map fun x => (x.1, x.2 + 2) else none
    else none
  else if first then none else if c = 91 then (partR r).map fun x => (x.1, x.2 + 1) else none
theorem valD_snoc (d : List UInt8) (c : UInt8) : valD (d ++ [c]) = valD d * 10 + (c.toNat - 48) := by simp [valD, List.foldl_append]
theorem isF_iff {c : UInt8} : isF c = true ↔ 48 ≤ c.toNat ∧ c.toNat ≤ 57 := by simp [isF]
theorem u8_of {c : UInt8} {n : Nat} (h : c.toNat = n) : UInt8.ofNat n = c := by subst h; simp
theorem dec_val : ∀ (n : Nat) (d : List UInt8), d.length = n → (∀ c ∈ d, isF c = true) → d ≠ [] → ¬ (d.head? = some 48 ∧ 1 < d.length) → Lib.decDigits (valD d) = d := by
 intro n
 induction n with
 | zero => intro d hl _ hne; exact absurd (List.eq_nil_of_length_eq_zero hl) hne
 | succ n ih =>
  intro d hl hf hne h0
  obtain ⟨d', c, rfl⟩ : ∃ d' c, d = d' ++ [c] := ⟨d.dropLast, d.getLast hne, (List.dropLast_concat_getLast hne).symm⟩
  have hc := isF_iff.1 (hf c (by simp))
  rw [valD_snoc]
  cases d' with
  | nil =>
   have : valD [] = 0 := rfl
   rw [this, Nat.zero_mul, Nat.zero_add, Lib.decDigits_one (by omega)]
   rw [u8_of (c := c) (by omega)]; rfl
  | cons a r =>
   have ha : ¬ a = 48 := fun e => h0 ⟨by rw [e]; rfl, by simp⟩
   have h1 := ih (a :: r) (by simpa using hl) (fun x hx => hf x (by simp at hx ⊢; rcases hx with h | h <;> simp [h])) (by simp) (fun h => ha (by simpa using h.1))
   have h2 : 1 ≤ valD (a :: r) := by
    rcases Nat.eq_zero_or_pos (valD (a :: r)) with h | h
    ·rw [h, Lib.decDigits_one (by omega)] at h1
     injection h1 with h3 _
     exact absurd h3.symm ha
    ·exact h
   rw [Lib.decDigits, dif_neg (by omega), show (valD (a :: r) * 10 + (c.toNat - 48)) / 10 = valD (a :: r) by omega, h1, show 48 + (valD (a :: r) * 10 + (c.toNat - 48)) % 10 = c.toNat by omega, u8_of rfl]
theorem val_dec : ∀ n : Nat, valD (Lib.decDigits n) = n := by
 intro n
 induction n using Nat.strongRecOn with
 | _ n ih =>
  by_cases hn : n < 10
  ·rw [Lib.decDigits_one hn]
   simp [valD]; omega
  ·rw [Lib.decDigits, dif_neg hn, valD_snoc, ih (n / 10) (by omega)]
   simp; omega
theorem dec_len {n : Nat} (h : n ≤ 1000000) : (Lib.decDigits n).length ≤ 7 := by
 rw [Lib.decDigits_length]
 have h1 := Lib.nDigits_pos n
 rcases Nat.eq_zero_or_pos n with h0 | h0
 ·subst h0; rw [Lib.nDigits_small (by omega)]; omega
 ·by_cases h7 : Lib.nDigits n ≤ 7
  ·exact h7
  ·exfalso
   have h8 : ∀ (k m : Nat), k + 1 ≤ Lib.nDigits m → 1 ≤ m → 10 ^ k ≤ m := by
    intro k
    induction k with
    | zero => intro m _ hm; simpa using hm
    | succ k ih =>
     intro m hk hm
     by_cases hm10 : m < 10
     ·rw [Lib.nDigits_small hm10] at hk; omega
     ·rw [Lib.nDigits_big hm10] at hk
      have := ih (m / 10) (by omega) (by omega)
      rw [Nat.pow_succ]; omega
   have := h8 7 n (by omega) h0
   omega
theorem dec_head {n : Nat} : ¬ ((Lib.decDigits n).head? = some 48 ∧ 1 < (Lib.decDigits n).length) := by
 intro ⟨h1, h2⟩
 have key : ∀ m : Nat, 1 ≤ m → (Lib.decDigits m).head? ≠ some 48 := by
  intro m
  induction m using Nat.strongRecOn with
  | _ m ih =>
   intro hm
   by_cases h10 : m < 10
   ·rw [Lib.decDigits_one h10]
    intro h
    simp at h
    have := congrArg UInt8.toNat h
    simp at this; omega
   ·have h3 := ih (m / 10) (by omega) (by omega)
    have h4 := (dec_fig (m / 10)).1
    rw [Lib.decDigits, dif_neg h10]
    cases hd : Lib.decDigits (m / 10) with
    | nil => exact absurd hd h4
    | cons a r => rw [hd] at h3; simpa using h3
 rcases Nat.eq_zero_or_pos n with h0 | h0
 ·subst h0; rw [Lib.decDigits_one (by omega)] at h2; simp at h2
 ·exact key n h0 h1
theorem figD_of {d t : List UInt8} (hd : ∀ c ∈ d, isF c = true) (hl : d.length ≤ 7) (ht : t = [] ∨ ∃ c r, t = c :: r ∧ isF c = false) : figD (d ++ t) = d := by
 unfold figD
 rw [List.take_append, List.take_of_length_le hl, List.takeWhile_append_of_pos hd]
 rcases ht with rfl | ⟨c, r, rfl, hc⟩
 ·simp
 ·cases h : 7 - d.length with
  | zero => simp
  | succ k => rw [List.take_succ_cons, List.takeWhile_cons, hc]; simp
theorem figD_pre (r : List UInt8) : (∃ t, r = figD r ++ t) ∧ (∀ c ∈ figD r, isF c = true) ∧ (figD r).length ≤ 7 := by
 unfold figD
 refine ⟨?_, ?_, ?_⟩
 ·refine ⟨(r.take 7).dropWhile isF ++ r.drop 7, ?_⟩
  rw [← List.append_assoc, List.takeWhile_append_dropWhile, List.take_append_drop]
 ·exact List.all_eq_true.1 List.all_takeWhile
 ·have := (List.takeWhile_sublist isF (l := r.take 7)).length_le
  simp at this ⊢; omega
theorem part_eq (r : List UInt8) : partR r = if rightS (gss (91 :: r)) && Lib.hasPrefix (91 :: r) (stT (gss (91 :: r))) then some (gss (91 :: r), (stT (gss (91 :: r))).length - 1) else none := by
 have hg : gss (91 :: r) = ⟨true, [], atoiN (Lib.cut r [93]).1⟩ := by
  unfold gss
  rw [if_pos (show Lib.hasPrefix (91 :: r) [91] = true from pre_iff.2 ⟨r, rfl⟩), show Lib.trimPrefix (91 :: r) [91] = r from trim_of [91] r]
 cases hR : partR r with
 | some x =>
  obtain ⟨g, k⟩ := x
  unfold partR at hR
  split at hR
  ·cases hR
  ·rename_i y hy
   split at hR
   ·rename_i h93
    obtain ⟨n, m⟩ := y
    injection hR with hR
    injection hR with e1 e2
    simp only at h93 e1 e2
    subst e1 e2
    unfold figR at hy
    split at hy
    ·cases hy
    ·rename_i hcond
     injection hy with hy
     injection hy with e3 e4
     rw [not_or, not_or] at hcond
     obtain ⟨c1, c2, c3⟩ := hcond
     obtain ⟨⟨t, ht⟩, hf, hl⟩ := figD_pre r
     have hd := dec_val _ (figD r) rfl hf c1 c2
     have ht2 : ∃ u, t = 93 :: u := by
      have h93' : (figD r ++ t)[(figD r).length]? = some 93 := by rw [← ht, e4]; exact h93
      rw [List.getElem?_append_right (Nat.le_refl _), Nat.sub_self] at h93'
      cases t with
      | nil => simp at h93'
      | cons a u => simp at h93'; exact ⟨u, by rw [h93']⟩
     obtain ⟨u, rfl⟩ := ht2
     have hcut : (Lib.cut r [93]).1 = figD r := by
      have h5 := cut_fig (figD r) u (fun c hc => by have := isF_iff.1 (hf c hc); omega)
      rwa [← ht] at h5
     have hn : n ≤ 1000000 := by omega
     have hit : Lib.itoa (n : Int) = figD r := by rw [itoa_nat (by omega), Int.toNat_natCast, ← e3, hd]
     have hat : atoiN (figD r) = n := by rw [← hit, atoi_itoa (by omega) (by omega)]
     rw [hg, hcut, hat]
     have hst : stT ⟨true, [], (n : Int)⟩ = 91 :: (figD r ++ [93]) := by rw [stT, if_pos rfl, hit]
     have hr : rightS ⟨true, [], (n : Int)⟩ = true := by unfold rightS; simp; omega
     have hp : Lib.hasPrefix (91 :: r) (stT ⟨true, [], (n : Int)⟩) = true := by
      rw [hst]
      refine pre_iff.2 ⟨u, ?_⟩
      conv => lhs; rw [ht]
      simp
     rw [hr, hp, hst, if_pos (by rfl)]
     congr 2
     simp; omega
   ·cases hR
 | none =>
  by_cases hc : (rightS (gss (91 :: r)) && Lib.hasPrefix (91 :: r) (stT (gss (91 :: r)))) = true
  ·exfalso
   rw [Bool.and_eq_true] at hc
   obtain ⟨h1, h2⟩ := hc
   rw [hg] at h1 h2
   generalize atoiN (Lib.cut r [93]).1 = n at h1 h2
   unfold rightS at h1
   simp only [if_true, Bool.and_eq_true, decide_eq_true_eq] at h1
   obtain ⟨⟨-, h3⟩, h4⟩ := h1
   obtain ⟨t, ht⟩ := pre_iff.1 h2
   rw [stT, if_pos rfl, itoa_nat h3] at ht
   have hr : r = Lib.decDigits n.toNat ++ 93 :: t := by simpa using ht
   have hf : figD r = Lib.decDigits n.toNat := by
    rw [hr]
    exact figD_of (fun c hc => isF_iff.2 ((dec_fig _).2 c hc)) (dec_len (by omega)) (.inr ⟨93, t, rfl, by decide⟩)
   have hfr : figR r = some (n.toNat, (Lib.decDigits n.toNat).length) := by
    unfold figR
    rw [hf, val_dec, if_neg]
    rintro (h | h | h)
    ·exact (dec_fig _).1 h
    ·exact dec_head h
    ·omega
   unfold partR at hR
   rw [hfr] at hR
   simp only at hR
   rw [if_pos (by rw [hr, List.getElem?_append_right (Nat.le_refl _), Nat.sub_self]; rfl)] at hR
   cases hR
  ·rw [if_neg hc]
theorem wrd_isW {r : List UInt8} (h : wrd r ≠ []) : isW (wrd r) = true := by
 unfold isW
 rw [Bool.and_eq_true, decide_eq_true_eq, decide_eq_true_eq]
 refine ⟨h, ?_⟩
 cases r with
 | nil => simp [wrd] at h
 | cons c r =>
  rw [wrd] at h ⊢
  by_cases hc : isL c = true
  ·rw [if_pos hc, wrd, if_pos hc]
   congr 1
   have := takeWhile_len isLF (List.takeWhile isLF r) _ (Nat.le_refl _) (fun j hj x hx => List.all_eq_true.1 (List.all_takeWhile (p := isLF) (l := r)) x (List.mem_of_getElem? hx)) (Or.inl rfl)
   rw [this, List.take_length]
  ·rw [if_neg hc] at h; exact absurd rfl h
theorem unqs_first {r : List UInt8} (h : (unqs r).2.2 = 0) : ∃ t, r = 34 :: t := by
 obtain ⟨-, -, h3⟩ := unqs_good r h
 cases r with
 | nil => simp [bt] at h3
 | cons c t => exact ⟨t, by rw [← u8_of (c := c) (n := 34) (by simpa [bt] using h3)]; rfl⟩
theorem wrd_mark (t : List UInt8) : wrd (34 :: t) = [] := by rw [wrd, if_neg (by decide)]
theorem wrd_pre (r : List UInt8) : ∃ u, r = wrd r ++ u := by
 cases r with
 | nil => exact ⟨[], rfl⟩
 | cons c r =>
  rw [wrd]
  split
  ·exact ⟨r.dropWhile isLF, by rw [List.cons_append, List.takeWhile_append_dropWhile]⟩
  ·exact ⟨c :: r, rfl⟩
theorem field_eq (r : List UInt8) (h91 : Lib.hasPrefix (46 :: r) [91] = false) : fieldR r = if rightS (gss (46 :: r)) && Lib.hasPrefix (46 :: r) (stT (gss (46 :: r))) then some (gss (46 :: r), (stT (gss (46 :: r))).length - 1) else none := by
 have hg : gss (46 :: r) = if (unqs r).2.2 = 0 then ⟨false, (unqs r).1, 0⟩ else ⟨false, wrd r, 0⟩ := by
  unfold gss
  rw [h91, show Lib.trimPrefix (46 :: r) [46] = r from trim_of [46] r]
  rfl
 unfold fieldR
 by_cases hu : (unqs r).2.2 = 0
 ·rw [if_pos hu] at hg
  rw [hg]
  obtain ⟨hv, hn, -⟩ := unqs_good r hu
  obtain ⟨t, ht⟩ := unqs_first hu
  have hw : wrd r = [] := by rw [ht, wrd_mark]
  rw [if_neg (by rw [hw]; simp)]
  have hr : rightS ⟨false, (unqs r).1, 0⟩ = true := by unfold rightS; simp [hv]
  rw [hr, Bool.true_and]
  by_cases hW : isW (unqs r).1 = true
  ·rw [if_neg (by rw [hW]; simp), if_neg]
   intro h
   obtain ⟨u, hu2⟩ := pre_iff.1 h
   obtain ⟨c, a, ha, hc⟩ := isW_first hW
   rw [stT, if_neg (by simp), if_pos hW, ha, ht] at hu2
   simp at hu2
   exact (isL_ne hc).1 (by rw [← hu2.1]; rfl)
  ·have hW' : isW (unqs r).1 = false := by simpa using hW
   have hst : stT ⟨false, (unqs r).1, 0⟩ = 46 :: quo (unqs r).1 := by rw [stT, if_neg (by simp), if_neg hW]
   rw [hst]
   by_cases hq : quo (unqs r).1 = r.take (unqs r).2.1
   ·rw [if_pos ⟨hu, hW', hq⟩, if_pos]
    ·have h5 := congrArg List.length hq
     rw [List.length_take, Nat.min_eq_left hn] at h5
     rw [List.length_cons, Nat.add_sub_cancel, h5]
    ·refine pre_iff.2 ⟨r.drop (unqs r).2.1, ?_⟩
     rw [List.cons_append, hq, List.take_append_drop]
   ·rw [if_neg (fun h => hq h.2.2), if_neg]
    intro h
    obtain ⟨u, hu2⟩ := pre_iff.1 h
    have hr2 : r = quo (unqs r).1 ++ u := by simpa using hu2
    have hb := quo_back (unqs r).1 u hv
    rw [← hr2] at hb
    apply hq
    have hlen : (unqs r).2.1 = (quo (unqs r).1).length := by rw [hb]
    rw [hlen]
    have key : ∀ (z u r : List UInt8), r = z ++ u → z = r.take z.length := by rintro z u r rfl; simp
    exact key _ u r hr2
 ·rw [if_neg hu] at hg
  rw [hg]
  by_cases hw : wrd r = []
  ·rw [if_neg (by rw [hw]; simp), if_neg (fun h => hu h.1), if_neg]
   intro h
   rw [Bool.and_eq_true] at h
   obtain ⟨u, hu2⟩ := pre_iff.1 h.2
   rw [hw] at hu2
   have hst : stT ⟨false, [], 0⟩ = 46 :: quo [] := by rw [stT, if_neg (by simp), if_neg (by decide)]
   rw [hst] at hu2
   have hr2 : r = quo [] ++ u := by simpa using hu2
   apply hu
   rw [hr2, quo_back [] u (vld_low (by simp))]
  ·rw [if_pos hw]
   have hW := wrd_isW hw
   have hr : rightS ⟨false, wrd r, 0⟩ = true := by unfold rightS; simp [vld_low (wrd_low r)]
   have hst : stT ⟨false, wrd r, 0⟩ = 46 :: wrd r := by rw [stT, if_neg (by simp), if_pos hW]
   have hp : Lib.hasPrefix (46 :: r) (46 :: wrd r) = true := by
    obtain ⟨u, hu⟩ := wrd_pre r
    exact pre_iff.2 ⟨u, by rw [List.cons_append, ← hu]⟩
   rw [hr, hst, hp]
   simp
theorem step_eq (l : List UInt8) (first : Bool) : stepR l first = bgn l first := by
 cases l with
 | nil =>
  cases first with
  | true => rfl
  | false =>
   unfold bgn ahd
   simp only [Bool.false_and, Bool.false_eq_true, if_false, List.drop_nil]
   rw [if_neg]; · rfl
   intro h
   rw [Bool.and_eq_true] at h
   have h1 : (stT (gss [])).length ≤ 0 := pre_len h.2
   have h2 := stT_pos (gss [])
   omega
 | cons c r =>
  by_cases hc : c = 46
  ·subst hc
   unfold stepR
   simp only
   rw [if_pos trivial]
   have h46 : Lib.hasPrefix (46 :: r) [46] = true := pre_iff.2 ⟨r, rfl⟩
   have h91 : Lib.hasPrefix (46 :: r) [91] = false := by simp [Lib.hasPrefix, List.isPrefixOf]
   have hF := field_eq r h91
   have hst : ∀ g, 1 ≤ (stT g).length := stT_pos
   by_cases h2 : first = true ∧ Lib.hasPrefix (46 :: r) [46, 91] = true
   ·obtain ⟨rfl, h2⟩ := h2
    obtain ⟨t, ht⟩ := pre_iff.1 h2
    have hr : r = 91 :: t := by simpa using ht
    subst hr
    have hfn : fieldR (91 :: t) = none := by
     unfold fieldR
     rw [if_neg (by rw [wrd, if_neg (by decide)]; simp), if_neg]
     intro h
     obtain ⟨u, hu⟩ := unqs_first h.1
     cases hu
    rw [hfn]
    simp only [if_true]
    rw [part_eq]
    unfold bgn
    have ha : ahd (46 :: 91 :: t) true = 1 := by unfold ahd; rw [h2]; rfl
    rw [ha, h2]
    simp only [Bool.not_true, Bool.and_false, Bool.false_and, Bool.false_eq_true, if_false, List.drop_succ_cons, List.drop_zero]
    split
    ·simp only [Option.map_some]
     have := hst (gss (91 :: t))
     congr 2; omega
    ·rfl
   ·have ha : ahd (46 :: r) first = 0 := by
     unfold ahd
     rw [if_neg]
     rw [Bool.and_eq_true]; exact h2
    have hbg : bgn (46 :: r) first = if rightS (gss (46 :: r)) && Lib.hasPrefix (46 :: r) (stT (gss (46 :: r))) then some (gss (46 :: r), 0 + (stT (gss (46 :: r))).length) else none := by
     unfold bgn
     rw [ha, h46]
     simp only [Bool.not_true, Bool.and_false, Bool.false_eq_true, if_false, List.drop_zero]
    rw [hbg, hF]
    have hp := hst (gss (46 :: r))
    split
    ·rename_i x hx
     split at hx
     ·rename_i hcond
      injection hx with hx
      subst hx
      rw [if_pos hcond]
      simp only
      congr 2; omega
     ·cases hx
    ·rename_i hx
     split at hx
     ·cases hx
     ·rename_i hcond
      rw [if_neg hcond]
      cases first with
      | false => rfl
      | true =>
       simp only [if_true]
       cases r with
       | nil => rfl
       | cons d r' =>
        simp only
        rw [if_neg]
        intro hd
        apply h2
        exact ⟨rfl, pre_iff.2 ⟨r', by rw [hd]; rfl⟩⟩
  ·unfold stepR
   simp only
   rw [if_neg hc]
   have h46 : Lib.hasPrefix (c :: r) [46] = false := by simp [Lib.hasPrefix, List.isPrefixOf]; exact fun h => hc h.symm
   have h462 : Lib.hasPrefix (c :: r) [46, 91] = false := by simp [Lib.hasPrefix, List.isPrefixOf]; intro h; exact absurd h.symm hc
   cases first with
   | true =>
    unfold bgn
    rw [h46, h462]; rfl
   | false =>
    have hbg : bgn (c :: r) false = if rightS (gss (c :: r)) && Lib.hasPrefix (c :: r) (stT (gss (c :: r))) then some (gss (c :: r), 0 + (stT (gss (c :: r))).length) else none := rfl
    rw [hbg]
    simp only [Bool.false_eq_true, if_false]
    have hp := stT_pos (gss (c :: r))
    by_cases h91 : c = 91
    ·subst h91
     rw [if_pos rfl, part_eq]
     split
     ·simp only [Option.map_some]
      congr 2; omega
     ·rfl
    ·rw [if_neg h91, if_neg]
     intro h
     rw [Bool.and_eq_true] at h
     obtain ⟨d, t, hd, -, h5, h6⟩ := stT_head (gss (c :: r))
     obtain ⟨u, hu⟩ := pre_iff.1 h.2
     rw [hd] at hu
     have hcd : c = d := by simpa using congrArg List.head? hu
     cases hpt : (gss (c :: r)).part with
     | true => exact h91 (by rw [hcd]; exact h5 hpt)
     | false => exact hc (by rw [hcd]; exact h6 hpt)
end Pw
end
section
open Go.RowKit Np
theorem isNaNStr_any (s : ByteArray) (w : World) :
  Calls Tryz.prog 184 #[.string s] w fun e w' => e = .returned (.bool false) ∧ w = w' := by
 go_enter Tryz.func184, Tryz.ntmps184
 go_wp2
 go_ret
 exact ⟨ret_bool (by simp), rfl⟩
theorem cmpStr_any (s t : ByteArray) (w : World) :
  Calls Tryz.prog 162 #[.string s, .string t] w fun e w' => e = .returned (.int .i64 (cmpB s.data.toList t.data.toList)) ∧ w = w' := by
 go_enter Tryz.func162, Tryz.ntmps162
 go_wp2_with (go_at_call 184; refine (isNaNStr_any _ _).mono ?_; rintro e w' ⟨rfl, rfl⟩)
 ·have h : Op.bytesLess s.toList t.toList = true := by assumption
  rw [ByteArray.toList_eq, ByteArray.toList_eq] at h
  go_ret
  exact ⟨ret_i64 (by rw [cmpB, if_pos h]), rfl⟩
 ·have h : Op.bytesLess s.toList t.toList = false := by assumption
  have h2 : (!s.toList == t.toList) = true := by assumption
  rw [ByteArray.toList_eq, ByteArray.toList_eq] at h h2
  go_ret
  exact ⟨ret_i64 (by rw [cmpB, if_neg (by rw [h]; decide), if_neg (by simpa using h2)]), rfl⟩
 ·have h : Op.bytesLess s.toList t.toList = false := by assumption
  have h2 : (!s.toList == t.toList) = false := by assumption
  rw [ByteArray.toList_eq, ByteArray.toList_eq] at h h2
  go_ret
  exact ⟨ret_i64 (by rw [cmpB, if_neg (by rw [h]; decide), if_pos (by simpa using h2)]), rfl⟩
theorem sign_any (k m : Int) (nm s : ByteArray) (g : Bool) (x : Int) (w : World) :
  Calls Tryz.prog 182 #[.agg #[.int .i64 k, .int .i64 m, .string nm, .string s, .bool g, .int .i64 x]] w fun e w' => e = .returned (.int .i64 (sgn s.data.toList g)) ∧ Below w.heap.size w w' := by
 have hB : Below w.heap.size w w := Below.refl _ _
 go_enter Tryz.func182, Tryz.ntmps182
 go_wp2_with fail
 ·have h : s.toList.isEmpty = true := by assumption
  rw [ByteArray.toList_eq] at h
  go_ret
  exact ⟨ret_i64 (by rw [sgn, if_pos h]), hB.alloc (Nat.le_refl _) _⟩
 ·have h : s.toList.isEmpty = false := by assumption
  have h2 : g = true := by assumption
  rw [ByteArray.toList_eq] at h
  go_ret
  exact ⟨ret_i64 (by rw [sgn, if_neg (by rw [h]; decide), if_pos h2]), hB.alloc (Nat.le_refl _) _⟩
 ·have h : s.toList.isEmpty = false := by assumption
  have h2 : g = false := by assumption
  rw [ByteArray.toList_eq] at h
  go_ret
  exact ⟨ret_i64 (by rw [sgn, if_neg (by rw [h]; decide), if_neg (by rw [h2]; decide)]), hB.alloc (Nat.le_refl _) _⟩
theorem cmpSize_any (k m : Int) (nm s : ByteArray) (g : Bool) (x : Int) (k2 m2 : Int) (nm2 s2 : ByteArray) (g2 : Bool) (x2 : Int) (w : World)
  (hs : s.size ≤ 1000000) (hs2 : s2.size ≤ 1000000) (hx : -1000000 ≤ x) (hx' : x ≤ 1000000) (hx2 : -1000000 ≤ x2) (hx2' : x2 ≤ 1000000) :
  Calls Tryz.prog 183 #[.agg #[.int .i64 k, .int .i64 m, .string nm, .string s, .bool g, .int .i64 x], .agg #[.int .i64 k2, .int .i64 m2, .string nm2, .string s2, .bool g2, .int .i64 x2]] w
   fun e w' => e = .returned (.int .i64 (cmpSz s.data.toList x s2.data.toList x2)) ∧ Below w.heap.size w w' := by
 have hB : Below w.heap.size w w := Below.refl _ _
 go_enter Tryz.func183, Tryz.ntmps183
 go_wp2_with fail
 refine (Tryz.cmp_Compare_int _ _ _).mono ?_
 rintro e w' ⟨rfl, rfl⟩
 have HV : Hid (cmpSz s.data.toList x s2.data.toList x2 = if Lib.compareInt (s.size + x) (s2.size + x2) = 0 then cmpB s.data.toList s2.data.toList else Lib.compareInt (s.size + x) (s2.size + x2)) :=
  Lib.hid (by rw [cmpSz, size_toList, size_toList])
 generalize Lib.compareInt (s.size + x) (s2.size + x2) = c at HV ⊢
 by_cases hc : c = 0
 ·subst hc
  go_wp2_with (go_at_call 162; refine (cmpStr_any _ _ _).mono ?_; rintro e w' ⟨rfl, rfl⟩)
  go_ret
  exact ⟨ret_i64 (by rw [HV.out, if_pos trivial]), (hB.alloc (Nat.le_refl _) _).alloc (by simp) _⟩
 ·go_wp2_with fail
  go_ret
  exact ⟨ret_i64 (by rw [HV.out, if_neg hc]), (hB.alloc (Nat.le_refl _) _).alloc (by simp) _⟩
theorem cmp_any (k m : Int) (nm s : ByteArray) (g : Bool) (x : Int) (k2 m2 : Int) (nm2 s2 : ByteArray) (g2 : Bool) (x2 : Int) (w : World)
  (hs : s.size ≤ 1000000) (hs2 : s2.size ≤ 1000000) (hx : -1000000 ≤ x) (hx' : x ≤ 1000000) (hx2 : -1000000 ≤ x2) (hx2' : x2 ≤ 1000000) :
  Calls Tryz.prog 161 #[.agg #[.int .i64 k, .int .i64 m, .string nm, .string s, .bool g, .int .i64 x], .agg #[.int .i64 k2, .int .i64 m2, .string nm2, .string s2, .bool g2, .int .i64 x2]] w
   fun e w' => e = .returned (.int .i64 (cmpN s.data.toList g x s2.data.toList g2 x2)) ∧ Below w.heap.size w w' := by
 have hB : Below w.heap.size w w := Below.refl _ _
 go_enter Tryz.func161, Tryz.ntmps161
 go_wp2_with fail
 refine (sign_any _ _ _ _ _ _ _).mono ?_
 rintro e w1 ⟨rfl, hb1⟩
 obtain ⟨hc1, hf1⟩ := kept_cells hb1
 have hz1 : w.heap.size + 2 ≤ w1.heap.size := by have := hb1.size; simp at this; omega
 have hB1 : Below w.heap.size w w1 := ((hB.alloc (Nat.le_refl _) _).alloc (by simp) _).trans (hb1.mono (by simp; omega))
 clear hb1
 go_wp2_with fail
 refine (sign_any _ _ _ _ _ _ _).mono ?_
 rintro e w2 ⟨rfl, hb2⟩
 have hB2 : Below w.heap.size w w2 := hB1.trans (hb2.mono (by omega))
 have hz2 : w.heap.size + 2 ≤ w2.heap.size := by have := hb2.size; omega
 have hc2 : ∀ b o, b < w.heap.size + 2 → w2.cell? ⟨b, o, none⟩ = w1.cell? ⟨b, o, none⟩ := fun b o h => (kept_cells hb2).1 b o (by omega)
 clear hb2
 go_wp2_with fail
 refine (Tryz.cmp_Compare_int _ _ _).mono ?_
 rintro e w' ⟨rfl, rfl⟩
 have HV : Hid (cmpN s.data.toList g x s2.data.toList g2 x2 = if Lib.compareInt (sgn s.data.toList g) (sgn s2.data.toList g2) = 0 then sgn s.data.toList g * cmpSz s.data.toList x s2.data.toList x2 else Lib.compareInt (sgn s.data.toList g) (sgn s2.data.toList g2)) :=
  Lib.hid (by rw [cmpN])
 generalize Lib.compareInt (sgn s.data.toList g) (sgn s2.data.toList g2) = c at HV ⊢
 by_cases hc : c = 0
 ·have hS := sgn_cases s.data.toList g
  generalize sgn s.data.toList g = d at HV hS ⊢
  subst hc
  go_wp2_with fail
  refine (cmpSize_any _ _ _ _ _ _ _ _ _ _ _ _ _ hs hs2 hx hx' hx2 hx2').mono ?_
  rintro e w3 ⟨rfl, hb3⟩
  have hB3 : Below w.heap.size w w3 := hB2.trans (hb3.mono (by omega))
  have hT := cmpSz_cases s.data.toList x s2.data.toList x2
  generalize cmpSz s.data.toList x s2.data.toList x2 = t at HV hT ⊢
  clear hb3 hc1 hf1 hc2
  rcases hS with rfl | rfl | rfl <;> rcases hT with rfl | rfl | rfl
  all_goals
   go_wp2_with fail
   go_ret
   exact ⟨ret_i64 (by rw [HV.out]; rfl), hB3⟩
 ·go_wp2_with fail
  go_ret
  exact ⟨ret_i64 (by rw [HV.out, if_neg hc]), hB2⟩
end
section
open Go.RowKit Np
end
section
open Go.RowKit Np
end
section
open Go.RowKit Np
end
section
open Go.RowKit Np
end
section
open Go.RowKit Np
theorem tab_below {n : String} {g : Nat} {k : IntKind} {zs : List Int} {w w' : World} (hg : Tryz.prog.globalNamed n = some g) (h : Lib.TabIs Tryz.prog w n k zs) (hb : Below w.heap.size w w') : Lib.TabIs Tryz.prog w' n k zs := by
 unfold Lib.TabIs World.var? at h ⊢
 simp only [hg, Option.bind_some] at h ⊢
 by_cases hlt : g < w.heap.size
 ·rw [hb.block g hlt]; exact h
 ·rw [Array.getElem?_eq_none (by omega)] at h; cases h
theorem grow_below' (w : World) (q : Nat) (os : Array Obj) : Below w.heap.size w (Sort.grow (w.drewN q) os) :=
 ⟨rfl, rfl, rfl, by simp [Sort.grow], fun i hi => by
  show (w.heap ++ os)[i]? = w.heap[i]?
  exact Array.getElem?_append_left hi⟩
theorem powTab : Tryz.prog.globalNamed "internal/strconv.uint64pow10" = some 2 := by kernel_rfl
def PowTab (w : World) : Prop := Lib.TabIs Tryz.prog w "internal/strconv.uint64pow10" .u64 Lib.pow10Tab
theorem PowTab.below {w w' : World} (h : PowTab w) (hb : Below w.heap.size w w') : PowTab w' := tab_below powTab h hb
end
section
open Go.RowKit Np Rw Vp
theorem drop_at {α : Type} {l : List α} {k : Nat} {x : α} (h : l[k]? = some x) : l.drop k = x :: l.drop (k + 1) := by
 obtain ⟨hk, rfl⟩ := List.getElem?_eq_some_iff.1 h
 exact List.drop_eq_getElem_cons hk
theorem refNext_any (v : Value) (l : List Nd) (i : Nat) (w : World) (hv : Nds w v l) (hl : l.length ≤ 65536) (hi : i ≤ l.length) :
  Calls Tryz.prog 67 #[v, .int .i64 i] w fun e w' => e = .returned (.int .i64 (nxtL l.length (l.drop i) 1 i)) ∧ w = w' := by
 generalize hans : nxtL l.length (l.drop i) 1 i = ans
 have HANS := Lib.hid hans; clear hans
 rcases Nat.lt_or_ge i l.length with hlt | hge
 ·obtain ⟨g, o, c, rfl, hc, hcm, hg, hx⟩ := hv.opened (by omega)
  have HX := Lib.hid hx; clear hx
  generalize hn : l.length = n at *
  have HN := Lib.hid hn; clear hn
  go_enter Tryz.func67, Tryz.ntmps67
  go_wp2
  go_loop [1, 5] (fun i op => ∃ k q : Nat, k ≤ n ∧ q ≤ 1 + k * 65536 ∧ i = .int .i64 k ∧ op = .int .i64 q ∧ nxtL n (l.drop k) q k = ans) (fun i _ => n - (intOf i).toNat)
  case atStart => exact ⟨i, 1, hi, by omega, rfl, rfl, HANS.out⟩
  case round =>
   obtain ⟨k, q, hk, hq, rfl, rfl, hans⟩ := hrel
   have HA := Lib.hid hans; clear hans
   by_cases hq0 : q = 0
   ·subst hq0
    have HE : Hid ((k : Int) = ans) := Lib.hid (by rw [← HA.out, nxtL_zero])
    go_wp2
    go_ret
    exact ⟨ret_i64 HE.out, rfl⟩
   ·obtain ⟨p, rfl⟩ : ∃ p, q = p + 1 := ⟨q - 1, by omega⟩
    have hqp : (0 : Int) < (p + 1 : Nat) := by omega
    by_cases hkn : k < n
    ·obtain ⟨x, hx⟩ : ∃ a, l[k]? = some a := ⟨_, List.getElem?_eq_getElem (by rw [HN.out]; exact hkn)⟩
     obtain ⟨a0, a1, a2, a3, a4, a5⟩ := (HX.out k x hx).nd
     have HD : Hid (nxtL n (l.drop k) (p + 1) k = if x.many < 0 ∨ (n : Int) < x.many then -1 else nxtL n (l.drop (k + 1)) (p + x.many.toNat) (k + 1)) := Lib.hid (by rw [drop_at hx, nxtL_cons])
     clear hx a0 a2 a3 a4 a5
     by_cases hm : x.many < 0
     ·have HE : Hid (-1 = ans) := Lib.hid (by rw [← HA.out, HD.out, if_pos (.inl hm)])
      go_wp2
      go_ret
      exact ⟨ret_i64 HE.out, rfl⟩
     ·by_cases hm2 : (n : Int) < x.many
      ·have HE : Hid (-1 = ans) := Lib.hid (by rw [← HA.out, HD.out, if_pos (.inr hm2)])
       go_wp2
       go_ret
       exact ⟨ret_i64 HE.out, rfl⟩
      ·obtain ⟨m, hme⟩ : ∃ m : Nat, x.many = m := ⟨x.many.toNat, by omega⟩
       rw [hme] at a1 hm hm2
       have HE : Hid (nxtL n (l.drop (k + 1)) (p + m) (k + 1) = ans) := Lib.hid (by rw [← HA.out, HD.out, if_neg (by omega), hme]; rfl)
       clear hme
       go_wp2
       go_round
       case rel => exact ⟨k + 1, p + m, by omega, by omega, by go_num, by go_num, HE.out⟩
       case measure => simp [intOf]; omega
    ·have HE : Hid (-1 = ans) := Lib.hid (by rw [← HA.out, List.drop_of_length_le (by rw [HN.out]; omega), nxtL_nil])
     go_wp2
     go_ret
     exact ⟨ret_i64 HE.out, rfl⟩
 ·have HE : Hid (-1 = ans) := Lib.hid (by rw [← HANS.out, List.drop_of_length_le hge, nxtL_nil])
  obtain ⟨A, c, rfl, -⟩ := hv
  go_enter Tryz.func67, Tryz.ntmps67
  go_wp2
  go_loop [1, 5] (fun a op => a = .int .i64 i ∧ op = .int .i64 1) (fun _ _ => 0)
  case atStart => exact ⟨rfl, rfl⟩
  case round =>
   obtain ⟨rfl, rfl⟩ := hrel
   go_wp2
   go_ret
   exact ⟨ret_i64 HE.out, rfl⟩
end
section
open Go.RowKit Np
theorem flat_len {α : Type} {enc : α → List Value} {sz : Nat} (h : ∀ x, (enc x).length = sz) (l : List α) : (l.flatMap enc).length = l.length * sz := by
 induction l with
 | nil => simp
 | cons x l ih => simp [h x, ih, Nat.add_mul, Nat.add_comm]
theorem flat_at {α : Type} {enc : α → List Value} {sz : Nat} (h : ∀ x, (enc x).length = sz) : ∀ (l : List α) (k : Nat) (x : α) (j : Nat), l[k]? = some x → j < sz → (l.flatMap enc)[k * sz + j]? = (enc x)[j]?
 | [], _, _, _, hk, _ => by simp at hk
 | a :: l, 0, x, j, hk, hj => by
  simp at hk; subst hk
  rw [List.flatMap_cons, Nat.zero_mul, Nat.zero_add, List.getElem?_append_left (by rw [h]; exact hj)]
 | a :: l, k + 1, x, j, hk, hj => by
  rw [List.flatMap_cons, List.getElem?_append_right (by rw [h, Nat.add_mul]; omega), h, show (k + 1) * sz + j - sz = k * sz + j by rw [Nat.add_mul]; omega]
  exact flat_at h l k x j (by simpa using hk) hj
theorem flat_split {α : Type} {enc : α → List Value} {sz : Nat} (h : ∀ x, (enc x).length = sz) (hp : 0 < sz) (l : List α) (i : Nat) (u : Value) (hi : (l.flatMap enc)[i]? = some u) : ∃ x, l[i / sz]? = some x ∧ (enc x)[i % sz]? = some u := by
 have hlt : i < l.length * sz := by
  have := (List.getElem?_eq_some_iff.1 hi).1
  rwa [flat_len h] at this
 have hk : i / sz < l.length := (Nat.div_lt_iff_lt_mul hp).2 hlt
 refine ⟨l[i / sz], List.getElem?_eq_getElem hk, ?_⟩
 rw [← flat_at h l (i / sz) l[i / sz] (i % sz) (List.getElem?_eq_getElem hk) (Nat.mod_lt _ hp), Nat.div_add_mod' i sz]
 exact hi
theorem flat_put {α : Type} {enc : α → List Value} {sz : Nat} (h : ∀ x, (enc x).length = sz) : ∀ (l : List α) (k : Nat) (x y : α) (j : Nat) (u : Value), l[k]? = some x → j < sz → (enc x).set j u = enc y →
  (l.flatMap enc).set (k * sz + j) u = (l.set k y).flatMap enc
 | [], _, _, _, _, _, hk, _, _ => by simp at hk
 | a :: l, 0, x, y, j, u, hk, hj, hy => by
  simp at hk; subst hk
  rw [List.flatMap_cons, Nat.zero_mul, Nat.zero_add, List.set_append_left _ _ (by rw [h]; exact hj), hy]; rfl
 | a :: l, k + 1, x, y, j, u, hk, hj, hy => by
  rw [List.flatMap_cons, List.set_append_right _ _ (by rw [h, Nat.add_mul]; omega), h, show (k + 1) * sz + j - sz = k * sz + j by rw [Nat.add_mul]; omega, flat_put h l k x y j u (by simpa using hk) hj hy]; rfl
def Own {α : Type} (enc : α → List Value) (sz : Nat) (E : TypeId) (base : Nat) (w : World) (v : Value) (l : List α) : Prop := w.ownsRow base E sz v l.length (l.flatMap enc)
structure Elem {α : Type} (P : Program) (T E : TypeId) (enc : α → List Value) (sz bys : Nat) : Prop where
 und : P.underlying T = some (.slice E)
 inf : ∃ i z, P.info? E = some i ∧ i.zero = some z ∧ i.size = sz ∧ i.bytes = bys ∧ z.cells.size = sz
 pos : 0 < sz
 len : ∀ x, (enc x).length = sz
 one : ∀ x, ∀ u ∈ enc x, u.oneCell' = true
section
variable {α : Type} {enc : α → List Value} {sz E base : Nat} {w w' : World} {v : Value} {l : List α}
theorem Own.nil (w : World) : Own enc sz E base w (.slice none 0 0) ([] : List α) := World.ownsRow_nil w base E sz
theorem Own.opened (h : Own enc sz E base w v l) (h0 : 0 < l.length) : ∃ g cap, v = .slice (some ⟨g, 0, none⟩) l.length cap ∧ base ≤ g ∧ g < w.heap.size := World.ownsRow.form h h0
theorem Own.form (h : Own enc sz E base w v l) : ∃ (A : Option Addr) (c : Nat), v = .slice A l.length c ∧ l.length ≤ c ∧ c ≤ maxLen ∧ (A = none → c = 0) := by
 rcases h.2 with ⟨rfl, h0⟩ | ⟨g, cap, cur, rfl, _, _, h1, h2, _⟩
 ·exact ⟨none, 0, by rw [h0], by omega, Nat.zero_le _, fun _ => rfl⟩
 ·exact ⟨_, cap, rfl, h1, h2, fun h => (by cases h)⟩
theorem Own.cap {A : Option Addr} {n c : Nat} (h : Own enc sz E base w (.slice A n c) l) : n = l.length ∧ n ≤ c ∧ c ≤ maxLen := by
 obtain ⟨B, d, hv, h1, h2, _⟩ := h.form
 injection hv with _ e2 e3
 subst e2 e3
 exact ⟨rfl, h1, h2⟩
theorem Own.row (hl : ∀ x, (enc x).length = sz) (h : Own enc sz E base w v l) : Row enc sz w v l := by
 obtain ⟨A, c, hv, h1, h2, h3⟩ := h.form
 refine ⟨A, c, hv, h1, h2, h3, fun h0 => ?_⟩
 obtain ⟨g, cap, hv', hg, hlt⟩ := h.opened h0
 rw [hv] at hv'
 injection hv' with e1 _ e3
 subst e1 e3
 refine ⟨g, 0, rfl, hlt, fun k x hk j u hu => ?_⟩
 have hj : j < sz := by rw [← hl x]; exact (List.getElem?_eq_some_iff.1 hu).1
 have hkl : k < l.length := (List.getElem?_eq_some_iff.1 hk).1
 subst hv
 have := World.ownsRow.cellAt h (k * sz + j) (by
  have : (k + 1) * sz ≤ l.length * sz := Nat.mul_le_mul_right _ hkl
  rw [Nat.add_mul] at this; omega)
 rw [flat_at hl l k x j hk hj, hu] at this
 rw [Nat.zero_add]
 exact this
theorem Own.kept (h : Own enc sz E base w v l) (hg : w.grownBy w' v.ownBlock) (hb : base ≤ w.heap.size) : Below base w w' :=
 (Below.refl base w).grown hg hb (fun k e => (World.ownsRow.lt h k e).1)
theorem Own.mono {base' : Nat} (h : Own enc sz E base w v l) (hb : base' ≤ base) : Own enc sz E base' w v l := by
 obtain ⟨h1, h2⟩ := h
 rcases h2 with h2 | ⟨g, cap, cur, a, b, c⟩
 ·exact ⟨h1, .inl h2⟩
 ·exact ⟨h1, .inr ⟨g, cap, cur, a, Nat.le_trans hb b, c⟩⟩
theorem Own.alloc (h : Own enc sz E base w v l) (o : Obj) : Own enc sz E base (w.alloc o) v l := World.ownsRow.alloc h o
theorem Own.drewN (h : Own enc sz E base w v l) (n : Nat) : Own enc sz E base (w.drewN n) v l := h
theorem Own.drew (h : Own enc sz E base w v l) : Own enc sz E base w.drew v l := h
theorem Own.below (h : Own enc sz E base w v l) (hb : Below w.heap.size w w') : Own enc sz E base w' v l := by
 refine World.ownsRow.kept h (row := none) ⟨hb.os, hb.tape, hb.output, hb.size, fun k hk _ => hb.block k hk⟩ ?_
 cases hv : v.ownBlock with
 | none => exact .inl rfl
 | some k => exact .inr (by simp)
theorem Own.put (hl : ∀ x, (enc x).length = sz) {g cap k j : Nat} {x y : α} {u : Value} (h : Own enc sz E base w (.slice (some ⟨g, 0, none⟩) l.length cap) l) (hk : l[k]? = some x) (hj : j < sz) (hy : (enc x).set j u = enc y) :
  Own enc sz E base (w.setCell ⟨g, k * sz + j, none⟩ u) (.slice (some ⟨g, 0, none⟩) l.length cap) (l.set k y) := by
 have h1 := (World.ownsRow.stored h (k * sz + j) u).1
 rw [flat_put hl l k x y j u hk hj hy] at h1
 unfold Own
 rw [List.length_set]
 exact h1
theorem Own.cell (hl : ∀ x, (enc x).length = sz) {g cap k j : Nat} {x : α} {u : Value} (h : Own enc sz E base w (.slice (some ⟨g, 0, none⟩) l.length cap) l) (hk : l[k]? = some x) (hu : (enc x)[j]? = some u) : w.cell? ⟨g, k * sz + j, none⟩ = some u := by
 have hj : j < sz := by rw [← hl x]; exact (List.getElem?_eq_some_iff.1 hu).1
 have hkl : k < l.length := (List.getElem?_eq_some_iff.1 hk).1
 rw [World.ownsRow.cellAt h (k * sz + j) (by
  have : (k + 1) * sz ≤ l.length * sz := Nat.mul_le_mul_right _ hkl
  rw [Nat.add_mul] at this; omega), flat_at hl l k x j hk hj, hu]
theorem Own.free {g cap : Nat} (h : Own enc sz E base w (.slice (some ⟨g, 0, none⟩) l.length cap) l) (j : Nat) : w.frozen? ⟨g, j, none⟩ = false := World.ownsRow.frozenAt h j
theorem Own.lt {g cap : Nat} (h : Own enc sz E base w (.slice (some ⟨g, 0, none⟩) l.length cap) l) : base ≤ g ∧ g < w.heap.size := World.ownsRow.lt h g rfl
theorem Own.pop (hl : ∀ x, (enc x).length = sz) {g cap : Nat} {x : α} (h : Own enc sz E base w (.slice (some ⟨g, 0, none⟩) (l.length + 1) cap) (l ++ [x])) : Own enc sz E base w (.slice (some ⟨g, 0, none⟩) l.length cap) l := by
 unfold Own at h ⊢
 rw [List.length_append, List.length_singleton, List.flatMap_append] at h
 exact ownsRow_pop (flat_len hl l) h
theorem Own.lit (hl : ∀ x, (enc x).length = sz) (w : World) (cs : Array Value) (l : List α) (hb : base ≤ w.heap.size) (hm : l.length ≤ maxLen) (hcs : cs.toList = l.flatMap enc) : Own enc sz E base (w.alloc (.cells cs E)) (.slice (some ⟨w.heap.size, 0, none⟩) l.length l.length) l := by
 unfold Own
 rw [← hcs]
 exact World.ownsRow_lit w cs l.length hb hm (by rw [← Array.length_toList, hcs, flat_len hl])
theorem Row.lit (hl : ∀ x, (enc x).length = sz) (w : World) (E : TypeId) (cs : Array Value) (l : List α) (hm : l.length ≤ maxLen) (hcs : cs.toList = l.flatMap enc) : Row enc sz (w.alloc (.cells cs E)) (.slice (some ⟨w.heap.size, 0, none⟩) l.length l.length) l :=
 (Own.lit (base := 0) hl w cs l (Nat.zero_le _) hm hcs).row hl
end
section
variable {α : Type} {P : Program} {enc : α → List Value} {T E sz bys base : Nat} {w : World}
theorem wpList_append_row (el : Elem P T E enc sz bys) {ops : Array Oper} {rest : List Oper} {o : Oper} {a : Act} {Q : Exit → Act → World → Prop} (hgd : o.guard = none) (s x : Operand)
  (ho : o.op = .call { callee := .builtin .append, args := #[s, x], argTypes := #[T, T] }) {v r : Value} {l l2 : List α} (hs : a.eval s = v) (hown : Own enc sz E base w v l) (hx : a.eval x = r) (hr : Row enc sz w r l2)
  (h63 : l.length + l2.length ≤ maxLen) (hby : (l.length + l2.length) * bys ≤ 140737488355328) (hbase : base ≤ w.heap.size)
  (h : ∀ (A : Option Addr) (c : Nat) (w' : World), Own enc sz E base w' (.slice A (l ++ l2).length c) (l ++ l2) → w.grownBy w' v.ownBlock → ((Value.slice A (l ++ l2).length c).ownBlock = v.ownBlock ∨ (Value.slice A (l ++ l2).length c).ownBlock = some w.heap.size) →
   wpList P ops Q rest (a.put o.dst (.slice A (l ++ l2).length c)) w') : wpList P ops Q (o :: rest) a w := by
 obtain ⟨i, z, hi, hz, hsize, hbytes, hzs⟩ := el.inf
 obtain ⟨A, c, rfl, hc, hcm, hnil, hcell⟩ := hr
 cases A with
 | none =>
  have h0 := hnil rfl
  have hl0 : l2.length = 0 := by omega
  have := List.eq_nil_of_length_eq_zero hl0
  subst this
  subst h0
  obtain ⟨B, d, hv, -, -, -⟩ := hown.form
  have h2 := h B d w (by rw [List.append_nil, ← hv]; exact hown) (World.grownBy.refl w _) (.inl (by rw [List.append_nil, hv]))
  rw [List.append_nil, ← hv] at h2
  exact wpList_append_own_none hgd s x T ho base E i sz el.und hi v l.length _ hs hown hx h2
 | some ad =>
  refine wpList_append_own_at w hgd s x T ho base E i z sz bys el.und hi hz hsize hbytes hzs el.pos v l.length _ hs hown ad l2.length c (l2.flatMap enc) hx (flat_len el.len l2) ?_ ?_ h63 hby hbase ?_
  ·intro j u hu
   obtain ⟨y, hy, hyu⟩ := flat_split el.len el.pos l2 j u hu
   have h0 : 0 < l2.length := by
    rcases Nat.eq_zero_or_pos l2.length with h0 | h0
    ·rw [List.eq_nil_of_length_eq_zero h0] at hu; simp at hu
    ·exact h0
   obtain ⟨g, q, hA, _, hx'⟩ := hcell h0
   injection hA with hA
   subst hA
   have := hx' _ y hy _ u hyu
   rw [Nat.add_assoc, Nat.div_add_mod' j sz] at this
   unfold Addr.add
   split
   ·rename_i h; subst h; exact this
   ·exact this
  ·intro u hu
   obtain ⟨y, _, hyu⟩ := List.mem_flatMap.1 hu
   exact el.one y u hyu
  ·intro v' w' h1 h2 _ h4
   have h5 : Own enc sz E base w' v' (l ++ l2) := by unfold Own; rw [List.length_append, List.flatMap_append]; exact h1
   obtain ⟨B, d, hv, -, -, -⟩ := h5.form
   subst hv
   exact h B d w' h5 h2 h4
end
theorem ndc_len (n : Nd) : (ndc n).length = 6 := rfl
theorem stc_len (s : List UInt8) : (stc s).length = 1 := rfl
theorem inc_len (n : Int) : (inc n).length = 1 := rfl
theorem vac_len (x : Value) : [x].length = 1 := rfl
theorem node_info : (Tryz.prog.info? 30).map (fun i => (i.zero, i.size, i.bytes)) = some (some (.agg #[.int .i64 0, .int .i64 0, .string ⟨#[]⟩, .string ⟨#[]⟩, .bool false, .int .i64 0]), 6, 64) := by kernel_rfl
theorem string_info : (Tryz.prog.info? 9).map (fun i => (i.zero, i.size, i.bytes)) = some (some (.string ⟨#[]⟩), 1, 16) := by kernel_rfl
theorem val_info : (Tryz.prog.info? 27).map (fun i => (i.zero, i.size, i.bytes)) = some (some (.slice none 0 0), 1, 24) := by kernel_rfl
theorem elNode : Elem Tryz.prog 27 30 ndc 6 64 := by
 obtain ⟨i, hi, hz0, hz1, hz2⟩ := info_parts node_info
 refine ⟨Tryz.underlying27, ⟨i, _, hi, hz0, hz1, hz2, rfl⟩, by decide, ndc_len, fun n u hu => ?_⟩
 simp only [ndc, List.mem_cons, List.not_mem_nil, or_false] at hu
 rcases hu with rfl | rfl | rfl | rfl | rfl | rfl <;> rfl
theorem elText : Elem Tryz.prog 45 9 stc 1 16 := by
 obtain ⟨i, hi, hz0, hz1, hz2⟩ := info_parts string_info
 refine ⟨Tryz.underlying45, ⟨i, _, hi, hz0, hz1, hz2, rfl⟩, by decide, stc_len, fun n u hu => ?_⟩
 simp only [stc, List.mem_cons, List.not_mem_nil, or_false] at hu
 subst hu; rfl
def slc (x : Option Addr × Nat × Nat) : List Value := [.slice x.1 x.2.1 x.2.2]
theorem slc_len (x : Option Addr × Nat × Nat) : (slc x).length = 1 := rfl
theorem elVal : Elem Tryz.prog 54 27 slc 1 24 := by
 obtain ⟨i, hi, hz0, hz1, hz2⟩ := info_parts val_info
 refine ⟨Tryz.underlying54, ⟨i, _, hi, hz0, hz1, hz2, rfl⟩, by decide, slc_len, fun n u hu => ?_⟩
 simp only [slc, List.mem_cons, List.not_mem_nil, or_false] at hu
 subst hu; rfl
end
section
open Go.RowKit Np
theorem index93_any (s : ByteArray) (w : World) : Calls Tryz.prog 237 #[.string s, .string ⟨#[93]⟩] w fun e w' => e = .returned (.int .i64 (Lib.index s.data.toList [93])) ∧ w' = w := by
 have HIB : Hid (∀ W, Calls Tryz.prog 257 #[.string s, .int .u8 93] W fun e w' => e = .returned (.int .i64 (Lib.index s.data.toList [93])) ∧ w' = W) := Lib.hid (fun W => by
  have h := Tryz.stringslite_IndexByte s 93 W
  rwa [← Lib.index_one] at h)
 have HZ : Hid (s.data.toList = [93] → (0 : Int) = Lib.index s.data.toList [93]) := Lib.hid (fun h => by rw [h]; rfl)
 generalize Lib.index s.data.toList [93] = i at *
 go_enter Tryz.func237, Tryz.ntmps237
 go_wp2_with fail
 ·have h : ([93] == s.toList) = true := by assumption
  rw [ByteArray.toList_eq, beq_iff_eq] at h
  go_ret
  exact ⟨ret_i64 (HZ.out h.symm), rfl⟩
 ·refine (HIB.out _).mono ?_
  rintro e w1 ⟨rfl, rfl⟩
  go_wp2_with fail
  go_ret
  exact ⟨rfl, rfl⟩
theorem cut93l_any (s : ByteArray) (w : World) (hs : s.size ≤ maxLen) : Calls Tryz.prog 211 #[.string s, .string ⟨#[93]⟩] w fun e w' => e = .returned (.tuple #[.string ⟨(Lib.cut s.data.toList [93]).1.toArray⟩, .string ⟨(Lib.cut s.data.toList [93]).2.1.toArray⟩, .bool (Lib.cut s.data.toList [93]).2.2]) ∧ ∃ n, w' = w.drewN n := by
 have HIX := Lib.hid (index93_any s)
 unfold maxLen at hs
 rcases Lib.indexB_cases s ⟨#[93]⟩ with hix | ⟨i, hix, hroom⟩
 ·have hix' : Lib.index s.data.toList [93] = -1 := hix
  obtain ⟨e1, e2, e3⟩ := Lib.cutB_miss s ⟨#[93]⟩ hix
  simp only at e1 e2 e3
  rw [e1, e2, e3]
  rw [hix'] at HIX
  clear hix hix' e1 e2 e3
  go_enter Tryz.func211, Tryz.ntmps211
  go_wp2_with fail
  refine (HIX.out _).mono ?_
  rintro e w1 ⟨rfl, rfl⟩
  go_wp2_with fail
  go_ret3
  exact ⟨rfl, 0, rfl⟩
 ·have hix' : Lib.index s.data.toList [93] = (i : Int) := hix
  obtain ⟨e1, e2, e3⟩ := Lib.cutB_hit s ⟨#[93]⟩ i hix
  simp only at e1 e2 e3
  rw [e1, e2, e3]
  rw [hix'] at HIX
  have hr : i + 1 ≤ s.size := hroom
  clear hix hix' e1 e2 e3 hroom
  have c1 : (0 : Int) ≤ ↑i := by omega
  have c2 : (↑i : Int) ≤ ↑s.size := by omega
  have c3 : (0 : Int) ≤ ↑i + 1 := by omega
  have c4 : (↑i + 1 : Int) ≤ ↑s.size := by omega
  have c5 : IntKind.i64.wrap ((i : Int) + 1) = (i : Int) + 1 := by rw [IntKind.wrap_i64]; omega
  have mixed : Tryz.prog.follows Departure.mixedOrders = true := by kernel_rfl
  go_enter Tryz.func211, Tryz.ntmps211
  go_wp2_with fail
  refine (HIX.out _).mono ?_
  rintro e w1 ⟨rfl, rfl⟩
  go_wp2_with fail
  go_region_o
  go_wp2
  go_ret3
  exact ⟨rfl, 1, rfl⟩
theorem cut93_any (s : ByteArray) (w : World) (hs : s.size ≤ maxLen) : Calls Tryz.prog 189 #[.string s, .string ⟨#[93]⟩] w fun e w' => e = .returned (.tuple #[.string ⟨(Lib.cut s.data.toList [93]).1.toArray⟩, .string ⟨(Lib.cut s.data.toList [93]).2.1.toArray⟩, .bool (Lib.cut s.data.toList [93]).2.2]) ∧ ∃ n, w' = w.drewN n := by
 have HIX := Lib.hid (fun W => cut93l_any s W hs)
 generalize Lib.cut s.data.toList [93] = C at *
 obtain ⟨a, b, c⟩ := C
 go_enter Tryz.func189, Tryz.ntmps189
 go_wp2_with fail
 refine (HIX.out _).mono ?_
 rintro e w1 ⟨rfl, n, rfl⟩
 go_wp2_with fail
 go_ret3
 exact ⟨rfl, n, rfl⟩
end
end Go.Proofs.YtldioobbfkaebaaGreatDoor
