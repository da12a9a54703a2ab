/-
  Joined: NumPlain13, NumW15, VOpen, FwOp, PWOpen, EhOp.
-/
import Derived.Test.YtldioobbfkaebaaGreatDoorEvalHoldsJ32
import Derived.Test.YtldioobbfkaebaaGreatDoorEvalHoldsJ8
import Derived.Test.YtldioobbfkaebaaGreatDoorEvalHoldsJ7
import Derived.Deep.RegionHeld3
import Derived.Deep.LoopGhost
import Derived.Deep.DeepCutAuto
import Derived.Test.YtldioobbfkaebaaGreatDoorEvalHoldsJ14
import Derived.ProofKit
import Derived.LaidMore
import Derived.OpenShut
import Derived.Lay
import Derived.Carry
import Derived.SevenTiedAt
import Derived.Stop.Joined
import Derived.Deep.Slices
import Derived.Deep.Fields
import Derived.Test.YtldioobbfkaebaaGreatDoorEvalHoldsJ9
import Derived.Test.YtldioobbfkaebaaGreatDoorEvalHoldsJ11
import Derived.SizedLaws
import Derived.Test.YtldioobbfkaebaaGreatDoorEvalHoldsJ28
set_option maxHeartbeats 4000000
set_option maxRecDepth 100000
namespace Go.Proofs.YtldioobbfkaebaaGreatDoor
section
namespace Np
open Go.RowKit
def digAt (l : List UInt8) (x p : Int) : Nat := if (l.length : Int) - 1 - (p - x) < 0 then 0 else (l.getD ((l.length : Int) - 1 - (p - x)).toNat 48).toNat - 48
theorem getD_fig {l : List UInt8} (h : figs l = true) (j : Nat) : 48 ≤ (l.getD j 48).toNat ∧ (l.getD j 48).toNat ≤ 57 := by
 rw [List.getD_eq_getElem?_getD]
 by_cases hj : j < l.length
 ·rw [List.getElem?_eq_getElem hj]
  exact (fig_iff _).1 (figs_at h hj)
 ·rw [List.getElem?_eq_none (by omega)]
  decide
theorem lexD : ∀ (a b : List UInt8) (i : Nat), figs a = true → figs b = true → (∀ j, j < i → (a.getD j 48).toNat = (b.getD j 48).toNat) → (a.getD i 48).toNat < (b.getD i 48).toNat → a < b
 | [], [], i, _, _, _, h => by simp at h
 | [], y :: v, i, _, _, _, _ => List.nil_lt_cons _ _
 | x :: u, [], i, ha, _, _, h => by
  have := (getD_fig ha i).1
  simp at h
  simp at this
  omega
 | x :: u, y :: v, i, ha, hb, hj, h => by
  have hu : figs u = true := by simp [figs] at ha ⊢; exact ha.2
  have hv : figs v = true := by simp [figs] at hb ⊢; exact hb.2
  rw [List.cons_lt_cons_iff]
  cases i with
  | zero =>
   left
   rw [UInt8.lt_iff_toNat_lt]
   simpa using h
  | succ i =>
   right
   refine ⟨UInt8.toNat_inj.1 (by have := hj 0 (by omega); simpa using this), ?_⟩
   exact lexD u v i hu hv (fun j h' => by have := hj (j + 1) (by omega); simpa using this) (by simpa using h)
theorem wide_getD : ∀ (n : Nat) (a b : List UInt8), a.length ≤ n → b.length ≤ n → (∀ j, j < n → (a.getD j 48).toNat = (b.getD j 48).toNat) → wide a n = wide b n
 | 0, a, b, h1, h2, _ => by rw [List.length_eq_zero_iff.1 (by omega : a.length = 0), List.length_eq_zero_iff.1 (by omega : b.length = 0)]
 | n + 1, [], [], _, _, _ => rfl
 | n + 1, [], y :: v, h1, h2, hj => by
  have h0 := hj 0 (by omega)
  have ih := wide_getD n [] v (by simp) (by simpa using h2) (fun j h => by have := hj (j + 1) (by omega); simpa using this)
  simp at h0
  simp only [wide] at ih ⊢
  rw [Nat.add_sub_cancel, ← ih, ← h0]
  simp
 | n + 1, x :: u, [], h1, h2, hj => by
  have h0 := hj 0 (by omega)
  have ih := wide_getD n u [] (by simpa using h1) (by simp) (fun j h => by have := hj (j + 1) (by omega); simpa using this)
  simp at h0
  simp only [wide] at ih ⊢
  rw [Nat.add_sub_cancel, ih, h0]
  simp
 | n + 1, x :: u, y :: v, h1, h2, hj => by
  have h0 := hj 0 (by omega)
  have ih := wide_getD n u v (by simpa using h1) (by simpa using h2) (fun j h => by have := hj (j + 1) (by omega); simpa using this)
  simp at h0
  simp only [wide]
  rw [Nat.add_sub_cancel, ih, h0]
theorem digAt_in {l : List UInt8} {x : Int} (j : Nat) : digAt l x (l.length + x - 1 - j) = (l.getD j 48).toNat - 48 := by
 unfold digAt
 rw [if_neg (by omega), show ((l.length : Int) - 1 - ((l.length : Int) + x - 1 - j - x)).toNat = j by omega]
theorem digAt_top (l : List UInt8) (x p : Int) (h : l.length + x ≤ p) : digAt l x p = 0 := by
 unfold digAt; rw [if_pos (by omega)]
theorem digAt_nil (x p : Int) : digAt [] x p = 0 := by
 unfold digAt; split
 ·rfl
 ·simp
theorem dig_first {c : UInt8} {t : List UInt8} {x : Int} (h : figs (c :: t) = true) (hc : c ≠ 48) : 0 < digAt (c :: t) x ((c :: t).length + x - 1) := by
 have := digAt_in (l := c :: t) (x := x) 0
 simp only [Int.natCast_zero, Int.sub_zero] at this
 rw [this]
 have h2 := (fig_iff c).1 (fig_head h rfl)
 have : c.toNat ≠ 48 := fun e => hc (UInt8.toNat_inj.1 (by simp; omega))
 simp
 omega
theorem size_dig {a b : List UInt8} {x y : Int} (fa : figs a = true) (fb : figs b = true) (ha : ∃ c t, a = c :: t ∧ c ≠ 48) (hb : ∃ c t, b = c :: t ∧ c ≠ 48) (la : a.getLastD 0 ≠ 48) (lb : b.getLastD 0 ≠ 48) (p : Int) (hp : p ≤ max (a.length + x) (b.length + y)) :
  ((∀ q, p < q → q ≤ max (a.length + x) (b.length + y) → digAt a x q = digAt b y q) → (digAt a x p < digAt b y p → cmpSz a x b y = -1) ∧ (digAt b y p < digAt a x p → cmpSz a x b y = 1) ∧ (digAt a x p = digAt b y p → p ≤ x → p ≤ y → cmpSz a x b y = 0)) := by
 intro heq
 have i1 := cmpI_lt (a.length + x) (b.length + y)
 have i2 := cmpI_eq (a.length + x) (b.length + y)
 have i3 := cmpI_gt (a.length + x) (b.length + y)
 have pa : 0 < a.length := by obtain ⟨c, t, e, _⟩ := ha; rw [e]; simp
 have pb : 0 < b.length := by obtain ⟨c, t, e, _⟩ := hb; rw [e]; simp
 rcases Int.lt_trichotomy (a.length + x) (b.length + y) with h | h | h
 ·have hc : cmpSz a x b y = -1 := by unfold cmpSz; rw [if_neg (fun e => by have := i2.1 e; omega)]; exact i1.2 h
  have dz : ∀ q, b.length + y - 1 ≤ q → digAt a x q = 0 := fun q hq => digAt_top a x q (by omega)
  have df : 0 < digAt b y (b.length + y - 1) := by obtain ⟨c, t, e, h48⟩ := hb; rw [e] at fb ⊢; exact dig_first fb h48
  refine ⟨fun _ => hc, fun h2 => ?_, fun h2 h3 h4 => ?_⟩
  ·exfalso
   rcases Int.lt_trichotomy p (b.length + y - 1) with h' | h' | h'
   ·have := heq (b.length + y - 1) h' (by omega)
    rw [dz _ (Int.le_refl _)] at this; omega
   ·rw [h', dz _ (Int.le_refl _)] at h2; omega
   ·rw [dz p (by omega)] at h2; omega
  ·exfalso
   by_cases h' : p < b.length + y - 1
   ·have := heq (b.length + y - 1) h' (by omega)
    rw [dz _ (Int.le_refl _)] at this; omega
   ·have : p = b.length + y - 1 := by omega
    rw [this, dz _ (Int.le_refl _)] at h2; omega
 ·have hm : max ((a.length : Int) + x) (b.length + y) = a.length + x := by omega
  rw [hm] at heq hp
  have hcB : cmpSz a x b y = cmpB a b := by unfold cmpSz; rw [if_pos (i2.2 h)]
  have dA : ∀ j : Nat, digAt a x (a.length + x - 1 - j) = (a.getD j 48).toNat - 48 := fun j => digAt_in j
  have dB : ∀ j : Nat, digAt b y (a.length + x - 1 - j) = (b.getD j 48).toNat - 48 := fun j => by rw [h]; exact digAt_in j
  have hg : ∀ j : Nat, p < a.length + x - 1 - j → (a.getD j 48).toNat = (b.getD j 48).toNat := fun j hj => by
   have := heq _ hj (by omega)
   rw [dA, dB] at this
   have := getD_fig fa j
   have := getD_fig fb j
   omega
  by_cases hpt : p = a.length + x
  ·have z1 : digAt a x p = 0 := digAt_top a x p (by omega)
   have z2 : digAt b y p = 0 := digAt_top b y p (by omega)
   refine ⟨fun h' => by omega, fun h' => by omega, fun _ h' _ => by omega⟩
  ·obtain ⟨i, hi⟩ : ∃ i : Nat, p = a.length + x - 1 - i := ⟨((a.length : Int) + x - 1 - p).toNat, by omega⟩
   have g1 := getD_fig fa i
   have g2 := getD_fig fb i
   refine ⟨fun h' => ?_, fun h' => ?_, fun h' h3 h4 => ?_⟩
   ·rw [hcB, cmpB_lt]
    rw [hi, dA, dB] at h'
    exact lexD a b i fa fb (fun j hj => hg j (by omega)) (by omega)
   ·rw [hcB, cmpB_gt]
    rw [hi, dA, dB] at h'
    exact lexD b a i fb fa (fun j hj => (hg j (by omega)).symm) (by omega)
   ·rw [hcB, cmpB_eq]
    rw [hi, dA, dB] at h'
    have hw : wide a (i + 1) = wide b (i + 1) := wide_getD (i + 1) a b (by omega) (by omega) (fun j hj => by
     by_cases hji : j = i
     ·subst hji; omega
     ·exact hg j (by omega))
    have w1 := wide_lex a b (i + 1) fa fb (.inr la) (.inr lb) (by omega) (by omega)
    have w2 := wide_lex b a (i + 1) fb fa (.inr lb) (.inr la) (by omega) (by omega)
    rcases Std.lt_trichotomy a b with h5 | h5 | h5
    ·have := w1.1 h5; omega
    ·exact h5
    ·have := w2.1 h5; omega
 ·have hc : cmpSz a x b y = 1 := by unfold cmpSz; rw [if_neg (fun e => by have := i2.1 e; omega)]; exact i3.2 h
  have dz : ∀ q, a.length + x - 1 ≤ q → digAt b y q = 0 := fun q hq => digAt_top b y q (by omega)
  have df : 0 < digAt a x (a.length + x - 1) := by obtain ⟨c, t, e, h48⟩ := ha; rw [e] at fa ⊢; exact dig_first fa h48
  refine ⟨fun h2 => ?_, fun _ => hc, fun h2 h3 h4 => ?_⟩
  ·exfalso
   rcases Int.lt_trichotomy p (a.length + x - 1) with h' | h' | h'
   ·have := heq (a.length + x - 1) h' (by omega)
    rw [dz _ (Int.le_refl _)] at this; omega
   ·rw [h', dz _ (Int.le_refl _)] at h2; omega
   ·rw [dz p (by omega)] at h2; omega
  ·exfalso
   by_cases h' : p < a.length + x - 1
   ·have := heq (a.length + x - 1) h' (by omega)
    rw [dz _ (Int.le_refl _)] at this; omega
   ·have : p = a.length + x - 1 := by omega
    rw [this, dz _ (Int.le_refl _)] at h2; omega
theorem right_parts {n : Nd} (h : right n = true) (hs : n.s ≠ []) : figs n.s = true ∧ (∃ c t, n.s = c :: t ∧ c ≠ 48) ∧ n.s.getLastD 0 ≠ 48 := by
 obtain ⟨_, _, _, ⟨h4, _⟩ | ⟨_, hf, _, _⟩⟩ := (right_iff n).1 h
 ·exact absurd h4 hs
 ·unfold rfigs at hf
  simp only [Bool.and_eq_true, decide_eq_true_eq, bne_iff_ne] at hf
  obtain ⟨⟨⟨_, hfi⟩, hh⟩, hla⟩ := hf
  refine ⟨hfi, ?_, hla⟩
  cases hn : n.s with
  | nil => exact absurd hn hs
  | cons c t => rw [hn] at hh; exact ⟨c, t, rfl, hh⟩
theorem cmp_dig {k m : Int} {nm a : List UInt8} {g : Bool} {x : Int} {k2 m2 : Int} {nm2 b : List UInt8} {y : Int} (h1 : right ⟨k, m, nm, a, g, x⟩ = true) (h2 : right ⟨k2, m2, nm2, b, g, y⟩ = true) (p : Int) (hp : p ≤ max (a.length + x) (b.length + y)) (heq : ∀ q, p < q → q ≤ max (a.length + x) (b.length + y) → digAt a x q = digAt b y q) :
  (digAt a x p < digAt b y p → cmpN a g x b g y = -(if g = true then -1 else 1)) ∧ (digAt b y p < digAt a x p → cmpN a g x b g y = if g = true then -1 else 1) ∧ (digAt a x p = digAt b y p → p ≤ x → p ≤ y → cmpN a g x b g y = 0) := by
 by_cases ha : a = []
 ·subst ha
  have hg : g = false ∧ x = 0 := by
   obtain ⟨_, _, _, ⟨_, h, h'⟩ | ⟨h, _⟩⟩ := (right_iff _).1 h1
   ·exact ⟨h, h'⟩
   ·exact absurd rfl h
  obtain ⟨rfl, rfl⟩ := hg
  by_cases hb : b = []
  ·subst hb
   have hy : y = 0 := by
    obtain ⟨_, _, _, ⟨_, _, h'⟩ | ⟨h, _⟩⟩ := (right_iff _).1 h2
    ·exact h'
    ·exact absurd rfl h
   subst hy
   rw [digAt_nil]
   exact ⟨fun h => by omega, fun h => by omega, fun _ _ _ => by decide⟩
  ·obtain ⟨fb, hc, lb⟩ := right_parts h2 hb
   simp only at fb hc lb
   have hcm : cmpN [] false 0 b false y = -1 := by
    have s2 : sgn b false = 1 := by unfold sgn; rw [if_neg (by simpa using hb)]; rfl
    have s1 : sgn [] false = 0 := rfl
    unfold cmpN
    rw [s1, s2, if_neg (by decide)]
    decide
   have df : 0 < digAt b y (b.length + y - 1) := by obtain ⟨c, t, e, h48⟩ := hc; rw [e] at fb ⊢; exact dig_first fb h48
   have pb : 0 < b.length := by obtain ⟨c, t, e, _⟩ := hc; rw [e]; simp
   rw [digAt_nil]
   refine ⟨fun _ => by rw [hcm]; rfl, fun h => by omega, fun h' h3 h4 => ?_⟩
   exfalso
   by_cases hlt : p < b.length + y - 1
   ·have := heq _ hlt (by omega)
    rw [digAt_nil] at this; omega
   ·have : p = b.length + y - 1 := by omega
    rw [this] at h'; omega
 ·obtain ⟨fa, hca, la⟩ := right_parts h1 ha
  simp only at fa hca la
  by_cases hb : b = []
  ·subst hb
   have hg : g = false ∧ y = 0 := by
    obtain ⟨_, _, _, ⟨_, h, h'⟩ | ⟨h, _⟩⟩ := (right_iff _).1 h2
    ·exact ⟨h, h'⟩
    ·exact absurd rfl h
   obtain ⟨rfl, rfl⟩ := hg
   have hcm : cmpN a false x [] false 0 = 1 := by
    have s1 : sgn a false = 1 := by unfold sgn; rw [if_neg (by simpa using ha)]; rfl
    have s2 : sgn [] false = 0 := rfl
    unfold cmpN
    rw [s1, s2, if_neg (by decide)]
    decide
   have df : 0 < digAt a x (a.length + x - 1) := by obtain ⟨c, t, e, h48⟩ := hca; rw [e] at fa ⊢; exact dig_first fa h48
   have pa : 0 < a.length := by obtain ⟨c, t, e, _⟩ := hca; rw [e]; simp
   rw [digAt_nil]
   refine ⟨fun h => by omega, fun _ => by rw [hcm]; rfl, fun h' h3 h4 => ?_⟩
   exfalso
   by_cases hlt : p < a.length + x - 1
   ·have := heq _ hlt (by omega)
    rw [digAt_nil] at this; omega
   ·have : p = a.length + x - 1 := by omega
    rw [this] at h'; omega
  ·obtain ⟨fb, hcb, lb⟩ := right_parts h2 hb
   simp only at fb hcb lb
   obtain ⟨z1, z2, z3⟩ := size_dig fa fb hca hcb la lb p hp heq
   have hcm : cmpN a g x b g y = (if g = true then -1 else 1) * cmpSz a x b y := by
    unfold cmpN
    have s1 : sgn a g = if g = true then -1 else 1 := by unfold sgn; rw [if_neg (by simpa using ha)]
    have s2 : sgn b g = if g = true then -1 else 1 := by unfold sgn; rw [if_neg (by simpa using hb)]
    rw [s1, s2, if_pos ((cmpI_eq _ _).2 rfl)]
   rw [hcm]
   refine ⟨fun h => ?_, fun h => ?_, fun h h3 h4 => ?_⟩
   ·rw [z1 h]; cases g <;> decide
   ·rw [z2 h]; cases g <;> decide
   ·rw [z3 h h3 h4]; cases g <;> decide
theorem cmp_sides {k m : Int} {nm a : List UInt8} {g : Bool} {x : Int} {k2 m2 : Int} {nm2 b : List UInt8} {g2 : Bool} {y : Int} (h1 : right ⟨k, m, nm, a, g, x⟩ = true) (h2 : right ⟨k2, m2, nm2, b, g2, y⟩ = true) (h : g ≠ g2) : cmpN a g x b g2 y = if g = true then -1 else 1 := by
 have e1 : g = true → a ≠ [] := by
  intro hg ha
  obtain ⟨_, _, _, ⟨_, h, _⟩ | ⟨h, _⟩⟩ := (right_iff _).1 h1
  ·simp only at h; rw [hg] at h; cases h
  ·exact absurd ha h
 have e2 : g2 = true → b ≠ [] := by
  intro hg ha
  obtain ⟨_, _, _, ⟨_, h, _⟩ | ⟨h, _⟩⟩ := (right_iff _).1 h2
  ·simp only at h; rw [hg] at h; cases h
  ·exact absurd ha h
 cases g <;> cases g2
 ·exact absurd rfl h
 ·have hb := e2 rfl
  have s2 : sgn b true = -1 := by unfold sgn; rw [if_neg (by simpa using hb)]; rfl
  have s1 := sgn_cases a false
  have s1' : sgn a false ≠ -1 := by unfold sgn; split <;> simp
  unfold cmpN
  rw [s2, if_neg (fun e => by have := (cmpI_eq _ _).1 e; omega)]
  exact (cmpI_gt _ _).2 (by omega)
 ·have ha := e1 rfl
  have s1 : sgn a true = -1 := by unfold sgn; rw [if_neg (by simpa using ha)]; rfl
  have s2 := sgn_cases b false
  have s2' : sgn b false ≠ -1 := by unfold sgn; split <;> simp
  unfold cmpN
  rw [s1, if_neg (fun e => by have := (cmpI_eq _ _).1 e; omega)]
  exact (cmpI_lt _ _).2 (by omega)
 ·exact absurd rfl h
end Np
end
section
open Go.RowKit Np
theorem refAt_any (k m : Int) (nm s : ByteArray) (g : Bool) (x p : Int) (w : World) (hf : figs s.data.toList = true) (hs : s.size ≤ 1000) (hx : -2000 ≤ x) (hx' : x ≤ 2000) (hp : -4000 ≤ p) (hp' : p ≤ 4000) :
  Calls Tryz.prog 99 #[.agg #[.int .i64 k, .int .i64 m, .string nm, .string s, .bool g, .int .i64 x], .int .i64 p] w fun e w' => e = .returned (.int .i64 (digAt s.data.toList x p)) ∧ Below w.heap.size w w' := by
 have hB : Below w.heap.size w w := Below.refl _ _
 have HF := Lib.hid hf
 clear hf
 by_cases hi : (s.size : Int) - 1 - (p - x) < 0
 ·have HV : Hid (digAt s.data.toList x p = 0) := Lib.hid (by unfold digAt; rw [size_toList, if_pos hi])
  go_enter Tryz.func99, Tryz.ntmps99
  go_wp2_with fail
  go_ret
  exact ⟨ret_i64 (by rw [HV.out]; rfl), hB.alloc (Nat.le_refl _) _⟩
 ·obtain ⟨i, hii⟩ : ∃ i : Nat, (s.size : Int) - 1 - (p - x) = i := ⟨((s.size : Int) - 1 - (p - x)).toNat, by omega⟩
  have HI := Lib.hid hii
  by_cases hlt : i < s.size
  ·have hfk := (fig_iff _).1 (figs_at HF.out (k := i) (by simpa using hlt))
   rw [get_toList s i hlt] at hfk
   have HV : Hid (digAt s.data.toList x p = s[i].toNat - 48) := Lib.hid (by
    unfold digAt
    rw [size_toList, if_neg hi, hii, Int.toNat_natCast, List.getD_eq_getElem?_getD, List.getElem?_eq_getElem (by simpa using hlt), get_toList s i hlt]
    rfl)
   obtain ⟨f1, f2⟩ := hfk
   clear hii hi
   go_enter Tryz.func99, Tryz.ntmps99
   go_upto_region 2 with fail
   rw [HI.out]
   go_wp2_with fail
   go_ret
   exact ⟨ret_i64 (by rw [HV.out]; omega), hB.alloc (Nat.le_refl _) _⟩
  ·have HV : Hid (digAt s.data.toList x p = 0) := Lib.hid (by
    unfold digAt
    rw [size_toList, if_neg hi, hii, Int.toNat_natCast, List.getD_eq_getElem?_getD, List.getElem?_eq_none (by rw [size_toList]; omega)]
    rfl)
   clear hii hi
   go_enter Tryz.func99, Tryz.ntmps99
   go_upto_region 2 with fail
   rw [HI.out]
   go_wp2_with fail
   go_ret
   exact ⟨ret_i64 (by rw [HV.out]; rfl), hB.alloc (Nat.le_refl _) _⟩
def CmpEnd (w : World) (c : Int) (e : Ending) (w' : World) : Prop := e = .returned (.int .i64 c) ∧ Below w.heap.size w w'
theorem cmpEnd_of {w w' : World} {c d : Int} (h : c = d) (hb : Below w.heap.size w w') : CmpEnd w c (.returned (.int .i64 d)) w' := ⟨by rw [h], hb⟩
def Two (k m : Int) (nm s : ByteArray) (g : Bool) (x : Int) (k2 m2 : Int) (nm2 s2 : ByteArray) (x2 : Int) (w : World) (w' : World) : Prop := w'.cell? ⟨w.heap.size, 0, none⟩ = some (.int .i64 k) ∧ w'.cell? ⟨w.heap.size, 1, none⟩ = some (.int .i64 m) ∧ w'.cell? ⟨w.heap.size, 2, none⟩ = some (.string nm) ∧ w'.cell? ⟨w.heap.size, 3, none⟩ = some (.string s) ∧ w'.cell? ⟨w.heap.size, 4, none⟩ = some (.bool g) ∧ w'.cell? ⟨w.heap.size, 5, none⟩ = some (.int .i64 x) ∧ w'.cell? ⟨w.heap.size + 1, 0, none⟩ = some (.int .i64 k2) ∧ w'.cell? ⟨w.heap.size + 1, 1, none⟩ = some (.int .i64 m2) ∧ w'.cell? ⟨w.heap.size + 1, 2, none⟩ = some (.string nm2) ∧ w'.cell? ⟨w.heap.size + 1, 3, none⟩ = some (.string s2) ∧ w'.cell? ⟨w.heap.size + 1, 4, none⟩ = some (.bool g) ∧ w'.cell? ⟨w.heap.size + 1, 5, none⟩ = some (.int .i64 x2) ∧ Below w.heap.size w w' ∧ w.heap.size < w'.heap.size ∧ w.heap.size + 1 < w'.heap.size
theorem Two.step {k m : Int} {nm s : ByteArray} {g : Bool} {x : Int} {k2 m2 : Int} {nm2 s2 : ByteArray} {x2 : Int} {w : World} {W W' : World} (h : Two k m nm s g x k2 m2 nm2 s2 x2 w W) (hb : Below W.heap.size W W') : Two k m nm s g x k2 m2 nm2 s2 x2 w W' := by
 obtain ⟨h0, h1, h2, h3, h4, h5, h6, h7, h8, h9, h10, h11, hl, u1, u2⟩ := h
 exact ⟨(hb.cell (p := ⟨w.heap.size, 0, none⟩) u1).trans h0, (hb.cell (p := ⟨w.heap.size, 1, none⟩) u1).trans h1, (hb.cell (p := ⟨w.heap.size, 2, none⟩) u1).trans h2, (hb.cell (p := ⟨w.heap.size, 3, none⟩) u1).trans h3, (hb.cell (p := ⟨w.heap.size, 4, none⟩) u1).trans h4, (hb.cell (p := ⟨w.heap.size, 5, none⟩) u1).trans h5, (hb.cell (p := ⟨w.heap.size + 1, 0, none⟩) u2).trans h6, (hb.cell (p := ⟨w.heap.size + 1, 1, none⟩) u2).trans h7, (hb.cell (p := ⟨w.heap.size + 1, 2, none⟩) u2).trans h8, (hb.cell (p := ⟨w.heap.size + 1, 3, none⟩) u2).trans h9, (hb.cell (p := ⟨w.heap.size + 1, 4, none⟩) u2).trans h10, (hb.cell (p := ⟨w.heap.size + 1, 5, none⟩) u2).trans h11, hl.trans (hb.mono hl.size), Nat.lt_of_lt_of_le u1 hb.size, Nat.lt_of_lt_of_le u2 hb.size⟩
theorem Two.low {k m : Int} {nm s : ByteArray} {g : Bool} {x : Int} {k2 m2 : Int} {nm2 s2 : ByteArray} {x2 : Int} {w : World} {W : World} (h : Two k m nm s g x k2 m2 nm2 s2 x2 w W) : Below w.heap.size w W := by
 obtain ⟨_, _, _, _, _, _, _, _, _, _, _, _, hl, _⟩ := h
 exact hl
theorem Two.start (k m : Int) (nm s : ByteArray) (g : Bool) (x : Int) (k2 m2 : Int) (nm2 s2 : ByteArray) (x2 : Int) (w : World) : Two k m nm s g x k2 m2 nm2 s2 x2 w ((w.alloc (.cells #[.int .i64 k, .int .i64 m, .string nm, .string s, .bool g, .int .i64 x] 30)).alloc (.cells #[.int .i64 k2, .int .i64 m2, .string nm2, .string s2, .bool g, .int .i64 x2] 30)) := by
 have hl := ((Below.refl w.heap.size w).alloc (Nat.le_refl _) (.cells #[.int .i64 k, .int .i64 m, .string nm, .string s, .bool g, .int .i64 x] 30)).alloc (by simp) (.cells #[.int .i64 k2, .int .i64 m2, .string nm2, .string s2, .bool g, .int .i64 x2] 30)
 refine ⟨?_, ?_, ?_, ?_, ?_, ?_, ?_, ?_, ?_, ?_, ?_, ?_, hl, by simp; omega, by simp⟩ <;> simp [go_sem]
theorem refCmp_any (k m : Int) (nm s : ByteArray) (g : Bool) (x : Int) (k2 m2 : Int) (nm2 s2 : ByteArray) (g2 : Bool) (x2 : Int) (w : World)
  (hr : right ⟨k, m, nm.data.toList, s.data.toList, g, x⟩ = true) (hr2 : right ⟨k2, m2, nm2.data.toList, s2.data.toList, g2, x2⟩ = true) :
  Calls Tryz.prog 57 #[.agg #[.int .i64 k, .int .i64 m, .string nm, .string s, .bool g, .int .i64 x], .agg #[.int .i64 k2, .int .i64 m2, .string nm2, .string s2, .bool g2, .int .i64 x2]] w
   (CmpEnd w (cmpN s.data.toList g x s2.data.toList g2 x2)) := by
 obtain ⟨p1, p2, p3⟩ := right_bounds hr
 obtain ⟨q1, q2, q3⟩ := right_bounds hr2
 simp only at p1 p2 p3 q1 q2 q3
 rw [size_toList] at p1 q1
 have hB : Below w.heap.size w w := Below.refl _ _
 have hB2 := (hB.alloc (Nat.le_refl _) (.cells #[.int .i64 k, .int .i64 m, .string nm, .string s, .bool g, .int .i64 x] 30)).alloc (by simp) (.cells #[.int .i64 k2, .int .i64 m2, .string nm2, .string s2, .bool g2, .int .i64 x2] 30)
 have HR := Lib.hid hr
 have HR2 := Lib.hid hr2
 clear hr hr2
 by_cases hg : g = g2
 ·subst hg
  have hf1 : figs s.data.toList = true := by
   by_cases h : s.data.toList = []
   ·rw [h]; rfl
   ·exact (right_parts HR.out h).1
  have hf2 : figs s2.data.toList = true := by
   by_cases h : s2.data.toList = []
   ·rw [h]; rfl
   ·exact (right_parts HR2.out h).1
  have HF1 := Lib.hid hf1
  have HF2 := Lib.hid hf2
  clear hf1 hf2
  have HD : Hid (∀ p : Int, p ≤ max (s.size + x) (s2.size + x2) → (∀ q, p < q → q ≤ max (s.size + x) (s2.size + x2) → digAt s.data.toList x q = digAt s2.data.toList x2 q) → (digAt s.data.toList x p < digAt s2.data.toList x2 p → cmpN s.data.toList g x s2.data.toList g x2 = -(if g = true then -1 else 1)) ∧ (digAt s2.data.toList x2 p < digAt s.data.toList x p → cmpN s.data.toList g x s2.data.toList g x2 = if g = true then -1 else 1) ∧ (digAt s.data.toList x p = digAt s2.data.toList x2 p → p ≤ x → p ≤ x2 → cmpN s.data.toList g x s2.data.toList g x2 = 0)) :=
   Lib.hid (fun p h1 h2 => by
    have := cmp_dig HR.out HR2.out p (by rw [size_toList, size_toList]; exact h1) (by rw [size_toList, size_toList]; exact h2)
    exact this)
  generalize cmpN s.data.toList g x s2.data.toList g x2 = cc at *
  cases g
  ·have HS := Lib.hid (Two.start k m nm s false x k2 m2 nm2 s2 x2 w)
   go_enter Tryz.func57, Tryz.ntmps57
   go_wp2_with fail
   go_loopg [7, 8, 9] ((max ((s.size : Int) + x) (s2.size + x2) + 3000).toNat) (fun n v _ _ wr => ∃ p : Int, v = .int .i64 p ∧ p ≤ max ((s.size : Int) + x) (s2.size + x2) ∧ min x x2 - 1 ≤ p ∧ n = (p + 3000).toNat ∧ Hid (∀ q, p < q → q ≤ max ((s.size : Int) + x) (s2.size + x2) → digAt s.data.toList x q = digAt s2.data.toList x2 q) ∧ Hid (Two k m nm s false x k2 m2 nm2 s2 x2 w wr))
   case atStart => exact ⟨_, rfl, Int.le_refl _, by omega, rfl, Lib.hid (fun q h1 h2 => by omega), HS⟩
   case round =>
    obtain ⟨p, rfl, hpt, hpm, rfl, HE, HW⟩ := hrel
    obtain ⟨n0, n1, n2, n3, n4, n5, o0, o1, o2, o3, o4, o5, hBw, u1, u2⟩ := HW.out
    by_cases hge : min x x2 ≤ p
    ·have hdp : decide (min x x2 ≤ p) = true := by simpa using hge
     go_upto_region 10 with fail
     go_cut [8, 9] (fun s8 s9 wx => s8 = .int .i64 (digAt s.data.toList x p) ∧ s9 = .int .i64 (digAt s2.data.toList x2 p) ∧ Hid (Two k m nm s false x k2 m2 nm2 s2 x2 w wx))
     case first =>
      have hStart : Two k m nm s false x k2 m2 nm2 s2 x2 w wr := HW.out
      go_region_held3 (fun w' => w'.cell? ⟨w.heap.size, 0, none⟩ = some (.int .i64 k) ∧ w'.cell? ⟨w.heap.size, 1, none⟩ = some (.int .i64 m) ∧ w'.cell? ⟨w.heap.size, 2, none⟩ = some (.string nm) ∧ w'.cell? ⟨w.heap.size, 3, none⟩ = some (.string s) ∧ w'.cell? ⟨w.heap.size, 4, none⟩ = some (.bool false) ∧ w'.cell? ⟨w.heap.size, 5, none⟩ = some (.int .i64 x) ∧ w'.cell? ⟨w.heap.size + 1, 0, none⟩ = some (.int .i64 k2) ∧ w'.cell? ⟨w.heap.size + 1, 1, none⟩ = some (.int .i64 m2) ∧ w'.cell? ⟨w.heap.size + 1, 2, none⟩ = some (.string nm2) ∧ w'.cell? ⟨w.heap.size + 1, 3, none⟩ = some (.string s2) ∧ w'.cell? ⟨w.heap.size + 1, 4, none⟩ = some (.bool false) ∧ w'.cell? ⟨w.heap.size + 1, 5, none⟩ = some (.int .i64 x2) ∧ Below w.heap.size w w' ∧ w.heap.size < w'.heap.size ∧ w.heap.size + 1 < w'.heap.size) (first | exact Two.step (by assumption : Two k m nm s false x k2 m2 nm2 s2 x2 w _) hb3 | exact Two.step hStart (Below.refl _ _).drew | go_keep)
       (first
        | (go_at_call_of 99 (Value.agg #[.int .i64 k, .int .i64 m, .string nm, .string s, .bool false, .int .i64 x]); refine (refAt_any _ _ _ _ _ _ _ _ HF1.out (by omega) (by omega) (by omega) (by omega) (by omega)).mono ?_; rintro e3 w3 ⟨rfl, hb3⟩)
        | (go_at_call 99; refine (refAt_any _ _ _ _ _ _ _ _ HF2.out (by omega) (by omega) (by omega) (by omega) (by omega)).mono ?_; rintro e3 w3 ⟨rfl, hb3⟩))
      go_wp2_with fail
      go_meet
      exact ⟨rfl, rfl, Lib.hid (show Two k m nm s false x k2 m2 nm2 s2 x2 w _ from by assumption)⟩
     case rest =>
      obtain ⟨rfl, rfl, HW2⟩ := hcut
      obtain ⟨d1, d2, d3⟩ := HD.out p hpt HE.out
      have D1 := Lib.hid d1
      have D2 := Lib.hid d2
      clear d1 d2 d3 n0 n1 n2 n3 n4 n5 o0 o1 o2 o3 o4 o5
      rcases Nat.lt_trichotomy (digAt s.data.toList x p) (digAt s2.data.toList x2 p) with hd | hd | hd
      ·have HV := Lib.hid (D1.out hd)
       generalize digAt s.data.toList x p = da at *
       generalize digAt s2.data.toList x2 p = db at *
       go_wp2_with fail
       go_ret
       exact cmpEnd_of HV.out HW2.out.low
      ·have HE2 : Hid (∀ q, p - 1 < q → q ≤ max ((s.size : Int) + x) (s2.size + x2) → digAt s.data.toList x q = digAt s2.data.toList x2 q) := Lib.hid (fun q h1 h2 => by
        by_cases hq : q = p
        ·rw [hq]; exact hd
        ·exact HE.out q (by omega) h2)
       rw [hd]
       clear hd D1 D2
       generalize digAt s2.data.toList x2 p = db
       go_wp2_with fail
       go_roundg ((p - 1 + 3000).toNat)
       case rel => exact ⟨p - 1, rfl, by omega, by omega, rfl, HE2, HW2⟩
       case measure => omega
      ·have HV := Lib.hid (D2.out hd)
       generalize digAt s.data.toList x p = da at *
       generalize digAt s2.data.toList x2 p = db at *
       go_wp2_with fail
       go_ret
       exact cmpEnd_of HV.out HW2.out.low
    ·have hdp : decide (min x x2 ≤ p) = false := by simp; omega
     have HV : Hid (cc = 0) := Lib.hid ((HD.out (min x x2) (by omega) (fun q h1 h2 => HE.out q (by omega) h2)).2.2 (HE.out _ (by omega) (by omega)) (by omega) (by omega))
     go_wp2_with fail
     go_ret
     exact cmpEnd_of HV.out hBw
  ·have HS := Lib.hid (Two.start k m nm s true x k2 m2 nm2 s2 x2 w)
   go_enter Tryz.func57, Tryz.ntmps57
   go_wp2_with fail
   go_loopg [7, 8, 9] ((max ((s.size : Int) + x) (s2.size + x2) + 3000).toNat) (fun n v _ _ wr => ∃ p : Int, v = .int .i64 p ∧ p ≤ max ((s.size : Int) + x) (s2.size + x2) ∧ min x x2 - 1 ≤ p ∧ n = (p + 3000).toNat ∧ Hid (∀ q, p < q → q ≤ max ((s.size : Int) + x) (s2.size + x2) → digAt s.data.toList x q = digAt s2.data.toList x2 q) ∧ Hid (Two k m nm s true x k2 m2 nm2 s2 x2 w wr))
   case atStart => exact ⟨_, rfl, Int.le_refl _, by omega, rfl, Lib.hid (fun q h1 h2 => by omega), HS⟩
   case round =>
    obtain ⟨p, rfl, hpt, hpm, rfl, HE, HW⟩ := hrel
    obtain ⟨n0, n1, n2, n3, n4, n5, o0, o1, o2, o3, o4, o5, hBw, u1, u2⟩ := HW.out
    by_cases hge : min x x2 ≤ p
    ·have hdp : decide (min x x2 ≤ p) = true := by simpa using hge
     go_upto_region 10 with fail
     go_cut [8, 9] (fun s8 s9 wx => s8 = .int .i64 (digAt s.data.toList x p) ∧ s9 = .int .i64 (digAt s2.data.toList x2 p) ∧ Hid (Two k m nm s true x k2 m2 nm2 s2 x2 w wx))
     case first =>
      have hStart : Two k m nm s true x k2 m2 nm2 s2 x2 w wr := HW.out
      go_region_held3 (fun w' => w'.cell? ⟨w.heap.size, 0, none⟩ = some (.int .i64 k) ∧ w'.cell? ⟨w.heap.size, 1, none⟩ = some (.int .i64 m) ∧ w'.cell? ⟨w.heap.size, 2, none⟩ = some (.string nm) ∧ w'.cell? ⟨w.heap.size, 3, none⟩ = some (.string s) ∧ w'.cell? ⟨w.heap.size, 4, none⟩ = some (.bool true) ∧ w'.cell? ⟨w.heap.size, 5, none⟩ = some (.int .i64 x) ∧ w'.cell? ⟨w.heap.size + 1, 0, none⟩ = some (.int .i64 k2) ∧ w'.cell? ⟨w.heap.size + 1, 1, none⟩ = some (.int .i64 m2) ∧ w'.cell? ⟨w.heap.size + 1, 2, none⟩ = some (.string nm2) ∧ w'.cell? ⟨w.heap.size + 1, 3, none⟩ = some (.string s2) ∧ w'.cell? ⟨w.heap.size + 1, 4, none⟩ = some (.bool true) ∧ w'.cell? ⟨w.heap.size + 1, 5, none⟩ = some (.int .i64 x2) ∧ Below w.heap.size w w' ∧ w.heap.size < w'.heap.size ∧ w.heap.size + 1 < w'.heap.size) (first | exact Two.step (by assumption : Two k m nm s true x k2 m2 nm2 s2 x2 w _) hb3 | exact Two.step hStart (Below.refl _ _).drew | go_keep)
       (first
        | (go_at_call_of 99 (Value.agg #[.int .i64 k, .int .i64 m, .string nm, .string s, .bool true, .int .i64 x]); refine (refAt_any _ _ _ _ _ _ _ _ HF1.out (by omega) (by omega) (by omega) (by omega) (by omega)).mono ?_; rintro e3 w3 ⟨rfl, hb3⟩)
        | (go_at_call 99; refine (refAt_any _ _ _ _ _ _ _ _ HF2.out (by omega) (by omega) (by omega) (by omega) (by omega)).mono ?_; rintro e3 w3 ⟨rfl, hb3⟩))
      go_wp2_with fail
      go_meet
      exact ⟨rfl, rfl, Lib.hid (show Two k m nm s true x k2 m2 nm2 s2 x2 w _ from by assumption)⟩
     case rest =>
      obtain ⟨rfl, rfl, HW2⟩ := hcut
      obtain ⟨d1, d2, d3⟩ := HD.out p hpt HE.out
      have D1 := Lib.hid d1
      have D2 := Lib.hid d2
      clear d1 d2 d3 n0 n1 n2 n3 n4 n5 o0 o1 o2 o3 o4 o5
      rcases Nat.lt_trichotomy (digAt s.data.toList x p) (digAt s2.data.toList x2 p) with hd | hd | hd
      ·have HV := Lib.hid (D1.out hd)
       generalize digAt s.data.toList x p = da at *
       generalize digAt s2.data.toList x2 p = db at *
       go_wp2_with fail
       go_ret
       exact cmpEnd_of HV.out HW2.out.low
      ·have HE2 : Hid (∀ q, p - 1 < q → q ≤ max ((s.size : Int) + x) (s2.size + x2) → digAt s.data.toList x q = digAt s2.data.toList x2 q) := Lib.hid (fun q h1 h2 => by
        by_cases hq : q = p
        ·rw [hq]; exact hd
        ·exact HE.out q (by omega) h2)
       rw [hd]
       clear hd D1 D2
       generalize digAt s2.data.toList x2 p = db
       go_wp2_with fail
       go_roundg ((p - 1 + 3000).toNat)
       case rel => exact ⟨p - 1, rfl, by omega, by omega, rfl, HE2, HW2⟩
       case measure => omega
      ·have HV := Lib.hid (D2.out hd)
       generalize digAt s.data.toList x p = da at *
       generalize digAt s2.data.toList x2 p = db at *
       go_wp2_with fail
       go_ret
       exact cmpEnd_of HV.out HW2.out.low
    ·have hdp : decide (min x x2 ≤ p) = false := by simp; omega
     have HV : Hid (cc = 0) := Lib.hid ((HD.out (min x x2) (by omega) (fun q h1 h2 => HE.out q (by omega) h2)).2.2 (HE.out _ (by omega) (by omega)) (by omega) (by omega))
     go_wp2_with fail
     go_ret
     exact cmpEnd_of HV.out hBw
 ·have HV := Lib.hid (cmp_sides HR.out HR2.out hg)
  cases g <;> cases g2
  ·exact absurd rfl hg
  ·go_enter Tryz.func57, Tryz.ntmps57
   go_wp2_with fail
   go_ret
   exact cmpEnd_of HV.out hB2
  ·go_enter Tryz.func57, Tryz.ntmps57
   go_wp2_with fail
   go_ret
   exact cmpEnd_of HV.out hB2
  ·exact absurd rfl hg
end
section
open Go.ChangeShapes Go.WideShapes Go.ChangeAt Go.RowKit Go.Deep Np
theorem list_of {α : Type} (R : Nat → α → Prop) : ∀ n, (∀ i, i < n → ∃ y, R i y) → ∃ l : List α, l.length = n ∧ ∀ i y, l[i]? = some y → R i y
 | 0, _ => ⟨[], rfl, fun i y h => by simp at h⟩
 | n + 1, h => by
  obtain ⟨l, h1, h2⟩ := list_of R n (fun i hi => h i (by omega))
  obtain ⟨y, hy⟩ := h n (by omega)
  refine ⟨l ++ [y], by simp [h1], fun i z hz => ?_⟩
  rcases Nat.lt_or_ge i l.length with hi | hi
  ·rw [List.getElem?_append_left hi] at hz; exact h2 i z hz
  ·rw [List.getElem?_append_right hi] at hz
   have hi0 : i - l.length = 0 := by
    rcases Nat.eq_zero_or_pos (i - l.length) with h0 | h0
    ·exact h0
    ·rw [List.getElem?_eq_none (by simp; omega)] at hz; cases hz
   rw [hi0] at hz
   simp at hz
   subst hz
   rw [show i = n by omega]; exact hy
section
variable {H : Type} {enc : TypeId × Value → H} {P : Program} {w : World} {base : Nat} {sp : Nat → Bool} {held : Bool}
theorem open_rows {α : Type} {en : α → List Value} {sz : Nat} {Q : α → DataW H → Prop} {t e : TypeId} {fuel : Nat} {v : Value} {x : DataW H × List MemPlace} (ht : P.underlying t = some (.slice e)) (hc : P.cellsOf e = sz) (hp : 0 < sz) (hl : ∀ y, (en y).length = sz)
  (rd : ∀ n cs d, DataW.trod enc P w base sp held n e cs = some d → ∃ y, cs = en y ∧ Q y d.1) (h : DataW.trod enc P w base sp held fuel t [v] = some x) :
  ∃ l : List α, Row en sz w v l ∧ (x.1 = .nil ∧ l = [] ∨ ∃ ds sp', x.1 = .slice ds sp' ∧ ds.length = l.length ∧ ∀ (i : Nat) (y : α), l[i]? = some y → ∃ d ∈ ds, Q y d) := by
 rcases open_slice ht h with ⟨h1, h2⟩ | ⟨a, len, cap, m, n, D, Pl, h1, hb, hle, hm, hmm, hx, hi⟩
 ·simp at h1; subst h1
  exact ⟨[], Row.nil w, .inl ⟨by rw [h2], rfl⟩⟩
 ·simp at h1; subst h1
  have hlm : len ≤ m := by rw [hmm]; split <;> omega
  obtain ⟨l, hll, hR⟩ := list_of (fun i (y : α) => w.cells? base (a.add (i * sz)) sz = some (en y) ∧ Q y (D i)) len (fun i hil => by
   obtain ⟨cs', h3, h4⟩ := hi i (by omega)
   obtain ⟨y, rfl, hQ⟩ := rd n cs' _ h4
   rw [hc] at h3
   exact ⟨y, h3, hQ⟩)
  refine ⟨l, ?_, .inr ⟨(List.range len).map D, _, by rw [hx], by simp [hll], fun i y hy => ⟨D i, ?_, (hR i y hy).2⟩⟩⟩
  ·refine ⟨some a, cap, by rw [hll], by rw [hll]; exact hle, hm, fun h => (by cases h), fun h0 => ?_⟩
   obtain ⟨y0, hy0⟩ : ∃ y, l[0]? = some y := ⟨_, List.getElem?_eq_getElem h0⟩
   have h5 := (World.cells?_some (hR 0 y0 hy0).1).2.2 0 hp
   rw [Nat.zero_mul] at h5
   have e0 : (a.add 0).add 0 = a := by simp [Addr.add]
   rw [e0] at h5
   obtain ⟨u0, hu0⟩ : ∃ u, (en y0)[0]? = some u := ⟨_, List.getElem?_eq_getElem (by rw [hl]; exact hp)⟩
   rw [hu0] at h5
   have hspot := World.cell?_spot h5
   have hlt := World.block_lt_of_cell? _ _ h5
   obtain ⟨g, o, s⟩ := a
   simp only at hspot hlt
   subst hspot
   refine ⟨g, o, rfl, hlt, fun k y hk j u hu => ?_⟩
   have hj : j < sz := by rw [← hl y]; exact (List.getElem?_eq_some_iff.1 hu).1
   have h6 := (World.cells?_some (hR k y hk).1).2.2 j hj
   rw [hu, add_add] at h6
   rw [Nat.add_assoc, ← h6]
   unfold Addr.add
   split
   ·rename_i h7; rw [h7]; rfl
   ·rfl
  ·have hk := (List.getElem?_eq_some_iff.1 hy).1
   exact List.mem_map.2 ⟨i, List.mem_range.2 (by omega), rfl⟩
end
section
variable {H : Type} {enc : TypeId × Value → H} {w : World} {base : Nat} {sp : Nat → Bool} {held : Bool}
theorem rd_node : ∀ n cs (d : DataW H × List MemPlace), DataW.trod enc Tryz.prog w base sp held n 30 cs = some d → ∃ y : Nd, cs = ndc y ∧ True := by
 intro fuel l d hf
 obtain ⟨xs, n, -, -, hl, hx, hg⟩ := DataW.trod_struct Tryz.underlying30 hf
 rw [show Tryz.prog.cellsOf 30 = 6 by kernel_rfl] at hl
 have c3 : Tryz.prog.cellsOf 3 = 1 := by kernel_rfl
 have c9 : Tryz.prog.cellsOf 9 = 1 := by kernel_rfl
 have c4 : Tryz.prog.cellsOf 4 = 1 := by kernel_rfl
 have at' : ∀ i, (h : i < xs.length) → xs[i]? = some (xs[i]'h) := fun i h => List.getElem?_eq_getElem h
 have hx6 : xs.length = 6 := hx
 match l, hl with
 | [v0, v1, v2, v3, v4, v5], _ =>
  have g0 := (hg 0 _ rfl).trans (at' 0 (by omega))
  have g1 := (hg 1 _ rfl).trans (at' 1 (by omega))
  have g2 := (hg 2 _ rfl).trans (at' 2 (by omega))
  have g3 := (hg 3 _ rfl).trans (at' 3 (by omega))
  have g4 := (hg 4 _ rfl).trans (at' 4 (by omega))
  have g5 := (hg 5 _ rfl).trans (at' 5 (by omega))
  simp only [List.getElem_toArray, List.getElem_cons_zero, List.getElem_cons_succ, c3, c9, c4] at g0 g1 g2 g3 g4 g5
  obtain ⟨k, e0, -, -⟩ := DataW.trod_int Tryz.underlying3 g0
  obtain ⟨m, e1, -, -⟩ := DataW.trod_int Tryz.underlying3 g1
  obtain ⟨nm, e2, -, hnm⟩ := DataW.trod_string Tryz.underlying9 g2
  obtain ⟨s, e3, -, hs⟩ := DataW.trod_string Tryz.underlying9 g3
  obtain ⟨b, e4, -⟩ := DataW.trod_bool Tryz.underlying4 g4
  obtain ⟨x, e5, -, hxw⟩ := DataW.trod_int Tryz.underlying3 g5
  simp at e0 e1 e2 e3 e4 e5
  subst e0 e1 e2 e3 e4 e5
  exact ⟨⟨k, m, nm.data.toList, s.data.toList, b, x⟩, rfl, trivial⟩
theorem cells_node : Tryz.prog.cellsOf 30 = 6 := by kernel_rfl
theorem open_val {r : Reach} {b0 : Nat} {v : Value} {d : DataW H} {ps : List MemPlace} (hv : Value.okWide Tryz.prog w r b0 27 v) (h : DataW.Trod enc Tryz.prog w base sp held 27 v d ps) :
  ∃ l : List Nd, Nds w v l := by
 obtain ⟨a, len, cap, rfl⟩ := okWide_slice Tryz.underlying27 hv
 obtain ⟨fuel, hf⟩ := h
 obtain ⟨l, h1, -⟩ := open_rows (Q := fun _ _ => True) Tryz.underlying27 cells_node (by decide) ndc_len (fun n cs d h => rd_node n cs d h) hf
 exact ⟨l, h1⟩
end
end
section
open Go.ChangeShapes Go.WideShapes Go.ChangeAt Go.RowKit Go.Deep Np Rw Vp Pw Fw
section
variable {H : Type} {enc : TypeId × Value → H} {w : World} {base : Nat} {sp : Nat → Bool} {held : Bool}
theorem int_rangeF {x : Int} (h : (Lit.int .i64 x).wf = true) : -9223372036854775808 ≤ x ∧ x ≤ 9223372036854775807 := by
 simp only [Lit.wf, IntKind.min, IntKind.max, IntKind.signed, IntKind.bits, Bool.and_eq_true, decide_eq_true_eq, if_true] at h
 omega
theorem cells_term : Tryz.prog.cellsOf 32 = 11 := by kernel_rfl
structure NdQ (n : Nd) : Prop where
 nm : n.name.length ≤ maxLen
 s : n.s.length ≤ maxLen
 m : n.many ≤ 9223372036854775807
theorem rd_nodeQ : ∀ n cs (d : DataW H × List MemPlace), DataW.trod enc Tryz.prog w base sp held n 30 cs = some d → ∃ y : Nd, cs = ndc y ∧ NdQ y := by
 intro fuel l d hf
 obtain ⟨xs, n, -, -, hl, hx, hg⟩ := DataW.trod_struct Tryz.underlying30 hf
 rw [show Tryz.prog.cellsOf 30 = 6 by kernel_rfl] at hl
 have c3 : Tryz.prog.cellsOf 3 = 1 := by kernel_rfl
 have c9 : Tryz.prog.cellsOf 9 = 1 := by kernel_rfl
 have c4 : Tryz.prog.cellsOf 4 = 1 := by kernel_rfl
 have at' : ∀ i, (h : i < xs.length) → xs[i]? = some (xs[i]'h) := fun i h => List.getElem?_eq_getElem h
 have hx6 : xs.length = 6 := hx
 match l, hl with
 | [v0, v1, v2, v3, v4, v5], _ =>
  have g0 := (hg 0 _ rfl).trans (at' 0 (by omega))
  have g1 := (hg 1 _ rfl).trans (at' 1 (by omega))
  have g2 := (hg 2 _ rfl).trans (at' 2 (by omega))
  have g3 := (hg 3 _ rfl).trans (at' 3 (by omega))
  have g4 := (hg 4 _ rfl).trans (at' 4 (by omega))
  have g5 := (hg 5 _ rfl).trans (at' 5 (by omega))
  simp only [List.getElem_toArray, List.getElem_cons_zero, List.getElem_cons_succ, c3, c9, c4] at g0 g1 g2 g3 g4 g5
  obtain ⟨k, e0, -, -⟩ := DataW.trod_int Tryz.underlying3 g0
  obtain ⟨m, e1, -, hm⟩ := DataW.trod_int Tryz.underlying3 g1
  obtain ⟨nm, e2, -, hnm⟩ := DataW.trod_string Tryz.underlying9 g2
  obtain ⟨s, e3, -, hs⟩ := DataW.trod_string Tryz.underlying9 g3
  obtain ⟨b, e4, -⟩ := DataW.trod_bool Tryz.underlying4 g4
  obtain ⟨x, e5, -, hxw⟩ := DataW.trod_int Tryz.underlying3 g5
  simp at e0 e1 e2 e3 e4 e5
  subst e0 e1 e2 e3 e4 e5
  exact ⟨⟨k, m, nm.data.toList, s.data.toList, b, x⟩, rfl, ⟨by simpa using hnm, by simpa using hs, (int_rangeF hm).2⟩⟩
theorem rd_term : ∀ n cs (d : DataW H × List MemPlace), DataW.trod enc Tryz.prog w base sp held n 32 cs = some d → ∃ y : Tm, cs = tmc y ∧ HeldT y := by
 intro fuel l d hf
 obtain ⟨xs, n, -, -, hl, hx, hg⟩ := DataW.trod_struct Tryz.underlying32 hf
 rw [cells_term] at hl
 have c3 : Tryz.prog.cellsOf 3 = 1 := by kernel_rfl
 have c9 : Tryz.prog.cellsOf 9 = 1 := by kernel_rfl
 have c6 : Tryz.prog.cellsOf 30 = 6 := by kernel_rfl
 have at' : ∀ i, (h : i < xs.length) → xs[i]? = some (xs[i]'h) := fun i h => List.getElem?_eq_getElem h
 have hx6 : xs.length = 6 := hx
 match l, hl with
 | [v0, v1, v2, v3, v4, v5, v6, v7, v8, v9, v10], _ =>
  have g0 := (hg 0 _ rfl).trans (at' 0 (by omega))
  have g1 := (hg 1 _ rfl).trans (at' 1 (by omega))
  have g2 := (hg 2 _ rfl).trans (at' 2 (by omega))
  have g3 := (hg 3 _ rfl).trans (at' 3 (by omega))
  have g4 := (hg 4 _ rfl).trans (at' 4 (by omega))
  have g5 := (hg 5 _ rfl).trans (at' 5 (by omega))
  simp only [List.getElem_toArray, List.getElem_cons_zero, List.getElem_cons_succ, c3, c9, c6] at g0 g1 g2 g3 g4 g5
  obtain ⟨k, e0, -, -⟩ := DataW.trod_int Tryz.underlying3 g0
  obtain ⟨m, e1, -, hm⟩ := DataW.trod_int Tryz.underlying3 g1
  obtain ⟨nm, e2, -, hnm⟩ := DataW.trod_string Tryz.underlying9 g2
  obtain ⟨s, e3, -, hs⟩ := DataW.trod_string Tryz.underlying9 g3
  obtain ⟨x, e4, -, hxw⟩ := DataW.trod_int Tryz.underlying3 g4
  obtain ⟨y, e5, hy⟩ := rd_nodeQ _ _ _ g5
  simp [ndc] at e0 e1 e2 e3 e4 e5
  obtain ⟨f0, f1, f2, f3, f4, f5⟩ := e5
  subst e0 e1 e2 e3 e4 f0 f1 f2 f3 f4 f5
  exact ⟨⟨k, m, nm.data.toList, s.data.toList, x, y⟩, rfl, ⟨by simpa using hnm, by simpa using hs, hy.nm, hy.s, (int_rangeF hm).2, hy.m, (int_rangeF hxw).1, (int_rangeF hxw).2⟩⟩
end
end
section
open Go.ChangeShapes Go.WideShapes Go.ChangeAt Go.RowKit Go.Deep Np Pw
section
variable {H : Type} {enc : TypeId × Value → H} {w : World} {base : Nat} {sp : Nat → Bool} {held : Bool}
theorem int_range {x : Int} (h : (Lit.int .i64 x).wf = true) : -9223372036854775808 ≤ x ∧ x ≤ 9223372036854775807 := by
 simp only [Lit.wf, IntKind.min, IntKind.max, IntKind.signed, IntKind.bits, Bool.and_eq_true, decide_eq_true_eq, if_true] at h
 omega
theorem cells_step : Tryz.prog.cellsOf 49 = 3 := by kernel_rfl
def StQ (s : St) : Prop := s.name.length ≤ maxLen ∧ -9223372036854775808 ≤ s.n ∧ s.n ≤ 9223372036854775807
end
end
section
open Go.ChangeShapes Go.WideShapes Go.ChangeAt Go.RowKit Go.Deep Np Rw Vp Pw Fw
section
variable {H : Type} {enc : TypeId × Value → H} {w : World} {base : Nat} {sp : Nat → Bool} {held : Bool}
theorem open_filterS {ts : List TypeId} {ds : List (DataW H)} (hwt : (DataW.weightsEach Tryz.prog ts ds).all (· ≤ reachBytes) = true) {j : Nat} {r : Reach} {b0 : Nat} {v : Value} {d : DataW H} {ps : List MemPlace} (ht : ts[j]? = some 23) (hd : ds[j]? = some d) (hv : Value.okWide Tryz.prog w r b0 23 v) (h : DataW.Trod enc Tryz.prog w base sp held 23 v d ps) :
  ∃ p : List Tm, Tms w v p ∧ HeldF p ∧ p.length ≤ 1172812402926 := by
 obtain ⟨a, len, cap, rfl⟩ := okWide_slice Tryz.underlying23 hv
 obtain ⟨fuel, hf⟩ := h
 obtain ⟨l, h1, h2⟩ := open_rows (Q := fun (y : Tm) _ => HeldT y) Tryz.underlying23 cells_term (by decide) tmc_len (fun n cs d h => rd_term n cs d h) hf
 have hr : reachBytes = 140737488351232 := rfl
 have b2 : Tryz.prog.bytesOf 32 = 120 := by kernel_rfl
 refine ⟨l, h1, fun s hs => ?_, ?_⟩
 ·rcases h2 with ⟨-, rfl⟩ | ⟨es, sp', -, -, h3⟩
  ·cases hs
  ·obtain ⟨i, hi, rfl⟩ := List.getElem_of_mem hs
   obtain ⟨d, -, hq⟩ := h3 i _ (List.getElem?_eq_getElem hi)
   exact hq
 ·rcases h2 with ⟨-, rfl⟩ | ⟨es, sp', hx, hl, -⟩
  ·simp
  ·have h4 := sized_slice hwt ht (hd.trans (congrArg some hx)) Tryz.underlying23
   rw [b2, hr] at h4
   omega
theorem rd_stepS : ∀ n cs (d : DataW H × List MemPlace), DataW.trod enc Tryz.prog w base sp held n 49 cs = some d → ∃ y : St, cs = spc y ∧ (StQ y ∧ y.name.length ∈ d.1.weights Tryz.prog 49) := by
 intro fuel l d hf
 obtain ⟨xs, n, -, rfl, hl, hx, hg⟩ := DataW.trod_struct Tryz.underlying49 hf
 rw [cells_step] at hl
 have c3 : Tryz.prog.cellsOf 3 = 1 := by kernel_rfl
 have c9 : Tryz.prog.cellsOf 9 = 1 := by kernel_rfl
 have c4 : Tryz.prog.cellsOf 4 = 1 := by kernel_rfl
 have hx3 : xs.length = 3 := hx
 match l, hl, xs, hx3 with
 | [v0, v1, v2], _, [x0, x1, x2], _ =>
  have g0 := hg 0 _ rfl
  have g1 := hg 1 _ rfl
  have g2 := hg 2 _ rfl
  simp only [List.getElem?_cons_zero, List.getElem?_cons_succ] at g0 g1 g2
  obtain ⟨b, e0, -⟩ := DataW.trod_bool Tryz.underlying4 g0
  obtain ⟨s, e1, hd1, hs⟩ := DataW.trod_string Tryz.underlying9 g1
  obtain ⟨x, e2, -, hxw⟩ := DataW.trod_int Tryz.underlying3 g2
  simp [c3, c9, c4] at e0 e1 e2
  subst e0 e1 e2
  refine ⟨⟨b, s.data.toList, x⟩, rfl, ⟨by simpa using hs, int_range hxw⟩, ?_⟩
  have hd1' : x1.1 = .lit (.string s.data.toList) := congrArg Prod.fst hd1
  simp [DataW.weights, DataW.weightsEach, Tryz.underlying49, hd1']
theorem weightsAll_memP {P : Program} {e : TypeId} : ∀ {l : List (DataW H)} {d : DataW H}, d ∈ l → ∀ n ∈ d.weights P e, n ∈ DataW.weightsAll P e l
 | d' :: r, d, hd, n, hn => by
  simp only [DataW.weightsAll, List.mem_append]
  rcases List.mem_cons.1 hd with rfl | h
  ·exact Or.inl hn
  ·exact Or.inr (weightsAll_memP h n hn)
theorem open_pathS {ts : List TypeId} {ds : List (DataW H)} (hwt : (DataW.weightsEach Tryz.prog ts ds).all (· ≤ reachBytes) = true) {j : Nat} {r : Reach} {b0 : Nat} {v : Value} {d : DataW H} {ps : List MemPlace} (ht : ts[j]? = some 25) (hd : ds[j]? = some d) (hv : Value.okWide Tryz.prog w r b0 25 v) (h : DataW.Trod enc Tryz.prog w base sp held 25 v d ps) :
  ∃ p : List St, Sps w v p ∧ Stp p ∧ ∀ s ∈ p, s.name.length ≤ 140737488355328 := by
 obtain ⟨a, len, cap, rfl⟩ := okWide_slice Tryz.underlying25 hv
 obtain ⟨fuel, hf⟩ := h
 obtain ⟨l, h1, h2⟩ := open_rows (Q := fun (y : St) (d : DataW H) => StQ y ∧ y.name.length ∈ d.weights Tryz.prog 49) Tryz.underlying25 cells_step (by decide) spc_len (fun n cs d h => rd_stepS n cs d h) hf
 have hr : reachBytes = 140737488351232 := rfl
 refine ⟨l, h1, fun s hs => ?_, fun s hs => ?_⟩
 ·rcases h2 with ⟨-, rfl⟩ | ⟨es, sp', -, -, h3⟩
  ·cases hs
  ·obtain ⟨i, hi, rfl⟩ := List.getElem_of_mem hs
   obtain ⟨d, -, hq⟩ := h3 i _ (List.getElem?_eq_getElem hi)
   exact hq.1
 ·rcases h2 with ⟨-, rfl⟩ | ⟨es, sp', hx, -, h3⟩
  ·cases hs
  ·obtain ⟨i, hi, rfl⟩ := List.getElem_of_mem hs
   obtain ⟨d', hm, -, hq⟩ := h3 i _ (List.getElem?_eq_getElem hi)
   simp only at hx
   subst hx
   have h4 : l[i].name.length ≤ reachBytes := of_decide_eq_true (List.all_eq_true.1 hwt _ (DataW.weights_mem_each ht hd _ (by
    simp only [DataW.weights, Tryz.underlying25, List.mem_cons, List.mem_append]
    exact Or.inr (Or.inl (weightsAll_memP hm _ hq)))))
   rw [hr] at h4
   omega
end
end
end Go.Proofs.YtldioobbfkaebaaGreatDoor
