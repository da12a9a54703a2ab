/-
  Joined: TxU.
-/
import Derived.Test.YtbgciajfjllciaaGreatDoorTextDeepJ11

/-
  Plain words: lists, one in the other. No program stands here.
-/
namespace Go.Proofs.YtbgciajfjllciaaGreatDoor
namespace Tp
open Go.RowKit Np Rw Vp Up Qp

/-- A value in so many lists. -/
def nest : Nat → Tr Nd → Tr Nd
  | 0, t => t
  | k + 1, t => .mk (hdN 5 1) [nest k t]
def wrapS : Nat → List UInt8 → List UInt8
  | 0, s => s
  | k + 1, s => 91 :: (wrapS k s ++ [93])
theorem wrapS_len (s : List UInt8) : ∀ k, (wrapS k s).length = s.length + 2 * k
  | 0 => rfl
  | k + 1 => by rw [wrapS, List.length_cons, List.length_append, wrapS_len s k]; simp; omega
theorem prT_nest (t : Tr Nd) : ∀ k d, prT false d (nest k t) = wrapS k (prT false (d + k) t)
  | 0, d => rfl
  | k + 1, d => by
    rw [nest, prT_mk, if_pos (show (hdN 5 1).kind = 5 from rfl), prB_cons, prK_nil, prT_nest t k (d + 1), show d + 1 + k = d + (k + 1) by omega]
    simp [prL, wrapS]
theorem nest_ok {t : Tr Nd} (h : Val t) : ∀ k, Val (nest k t)
  | 0 => h
  | k + 1 => val_arrT (ts := [nest k t]) (by intro u hu; simp at hu; subst hu; exact nest_ok h k)
theorem depth_nest (t : Tr Nd) : ∀ k, depth (nest k t) = k + depth t
  | 0 => by simp [nest]
  | k + 1 => by rw [nest, depth_mk, if_pos (show cont (hdN 5 1).kind = true by rfl), depths_cons, depths_nil, depth_nest t k]; simp; omega
/-- It is read, where it may be. -/
theorem nest_parse {t : Tr Nd} (h : Val t) (k : Nat) (hd : k + depth t ≤ 128) : prsR (wrapS k (prT false k t)) = (flat (nest k t), 0, 0) := by
  have hv := nest_ok h k
  have hb := back false (prT false 0 (nest k t)) _ (nest k t) 0 128 (Nat.le_refl _) hv.ok hv.rt (by rw [depth_nest]; exact hd) 0 [] [] Blk.nil (by simp) Stop.nil
  rw [show nmd [] (nest k t) = nest k t by rw [← hv.nm, nmd_self]] at hb
  have e : prT false 0 (nest k t) = wrapS k (prT false k t) := by rw [prT_nest, Nat.zero_add]
  rw [e] at hb
  unfold prsR
  rw [hb]
  simp only [List.length_nil, Nat.add_zero, Nat.zero_add]
  rw [if_neg]
  rw [sk_over (Nat.le_refl _)]
  omega
/-- Too deep. -/
def inN : List UInt8 := [110, 117, 108, 108]
def inO : List UInt8 := [123, 125]
def inA : List UInt8 := [123, 34, 97, 34, 58, 91, 93, 125]
def inI : List UInt8 := [49]
theorem prs_badP {S : List UInt8} {e : Int} {p : Nat} (h : vlR S 128 0 = .bad e p) : prsR S = ([], p, e) := by unfold prsR; rw [h]
theorem wrap_add (s : List UInt8) : ∀ a b, wrapS (a + b) s = wrapS a (wrapS b s)
  | 0, b => by rw [Nat.zero_add]; rfl
  | a + 1, b => by rw [show a + 1 + b = (a + b) + 1 by omega, wrapS, wrap_add s a b]; rfl
def Hd (Q : List UInt8) : Prop := ∃ q Q', Q = q :: Q' ∧ blk q.toNat = false ∧ q.toNat ≠ 93
theorem wrap_hd {Q : List UInt8} (h : Hd Q) (k : Nat) : Hd (wrapS k Q) := by
  cases k with
  | zero => exact h
  | succ k => exact ⟨91, _, rfl, by decide, by decide⟩
theorem drop_wrap {S Q : List UInt8} : ∀ (k i : Nat) (R : List UInt8), S.drop i = wrapS k Q ++ R → ∃ R', S.drop (i + k) = Q ++ R'
  | 0, i, R, h => ⟨R, h⟩
  | k + 1, i, R, h => by
    have h1 : S.drop (i + 1) = wrapS k Q ++ ([93] ++ R) := drop_of (a := [91]) (by rw [h, wrapS]; simp)
    obtain ⟨R', h2⟩ := drop_wrap k (i + 1) _ h1
    exact ⟨R', by rw [← h2]; congr 1; omega⟩
theorem nest_bad {S Q : List UInt8} {e : Int} {p : Nat} (hQ : Hd Q) : ∀ (k n i : Nat) (R : List UInt8), S.drop i = wrapS k Q ++ R → vlR S n (i + k) = .bad e p → vlR S (n + k) i = .bad e p
  | 0, n, i, R, _, hb => hb
  | k + 1, n, i, R, h, hb => by
    have h0 : S.drop i = 91 :: (wrapS k Q ++ ([93] ++ R)) := by rw [h, wrapS]; simp
    have h1 : S.drop (i + 1) = wrapS k Q ++ ([93] ++ R) := drop_of (a := [91]) h0
    obtain ⟨q, Q', hq, hq1, hq2⟩ := wrap_hd hQ k
    have h2 : S.drop (i + 1) = q :: (Q' ++ ([93] ++ R)) := by rw [h1, hq]; rfl
    have ih := nest_bad hQ k n (i + 1) _ h1 (by rw [← hb]; congr 1; omega)
    rw [show n + (k + 1) = (n + k) + 1 by omega, vlR_succ, sk_here h0 (by decide)]
    unfold vl1
    rw [if_pos (show bt S i = 91 from bt_of h0)]
    show mapR liV (ptR (vlR S (n + k)) snoc [] S 93 i) = _
    unfold ptR
    rw [sk_here h2 hq1, if_neg (by rw [bt_of h2]; exact hq2), lpR_bad ih]
    rfl
theorem deep_of {Q : List UInt8} (hQ : Hd Q) (k : Nat) (hk : 128 < k ∨ 128 ≤ k ∧ ∃ Q', Q = 123 :: Q') : prsR (wrapS k Q) = ([], 128, 3) := by
  have e : wrapS k Q = wrapS 128 (wrapS (k - 128) Q) := by
    rw [← wrap_add, show 128 + (k - 128) = k by omega]
  have h0 : (wrapS k Q).drop 0 = wrapS 128 (wrapS (k - 128) Q) ++ [] := by rw [List.drop_zero, List.append_nil]; exact e
  obtain ⟨R', h1⟩ := drop_wrap 128 0 [] h0
  have h2 : vlR (wrapS k Q) 0 (0 + 128) = .bad 3 128 := by
    rcases Nat.lt_or_ge 128 k with hk1 | hk1
    · have h3 : (wrapS k Q).drop (0 + 128) = 91 :: (wrapS (k - 128 - 1) Q ++ [93] ++ R') := by
        rw [h1, show k - 128 = (k - 128 - 1) + 1 by omega, wrapS]; simp
      rw [vlR_zero, sk_here h3 (by decide)]
      unfold vl1
      rw [if_pos (show bt (wrapS k Q) (0 + 128) = 91 from bt_of h3)]
    · obtain ⟨Q', hq⟩ : ∃ Q', Q = 123 :: Q' := by
        rcases hk with h | ⟨_, h⟩
        · omega
        · exact h
      have h3 : (wrapS k Q).drop (0 + 128) = 123 :: (Q' ++ R') := by
        rw [h1, show k - 128 = 0 by omega]
        show Q ++ R' = _
        rw [hq]; rfl
      rw [vlR_zero, sk_here h3 (by decide)]
      unfold vl1
      have h4 : bt (wrapS k Q) (0 + 128) = 123 := bt_of h3
      rw [if_neg (by rw [h4]; decide), if_pos h4]
  have h4 := nest_bad (wrap_hd hQ (k - 128)) 128 0 0 [] h0 h2
  rw [Nat.zero_add] at h4
  exact prs_badP h4
theorem deep_I (k : Nat) (h : 128 < k) : prsR (wrapS k inI) = ([], 128, 3) := deep_of ⟨49, _, rfl, by decide, by decide⟩ k (.inl h)
theorem deep_N (k : Nat) (h : 128 < k) : prsR (wrapS k inN) = ([], 128, 3) := deep_of ⟨110, _, rfl, by decide, by decide⟩ k (.inl h)
theorem deep_O (k : Nat) (h : 127 < k) : prsR (wrapS k inO) = ([], 128, 3) := deep_of ⟨123, _, rfl, by decide, by decide⟩ k (.inr ⟨by omega, _, rfl⟩)
theorem deep_A (k : Nat) (h : 127 < k) : prsR (wrapS k inA) = ([], 128, 3) := deep_of ⟨123, _, rfl, by decide, by decide⟩ k (.inr ⟨by omega, _, rfl⟩)
set_option maxRecDepth 100000 in
theorem deep_B : prsR (wrapS 127 inA) = ([], 132, 3) := by decide +kernel
def trI : Tr Nd := .mk ⟨3, 0, [], [49], false, 0⟩ []
def trN : Tr Nd := .mk (hdN 0 0) []
def trO : Tr Nd := .mk (hdN 6 0) []
def trA : Tr Nd := .mk (hdN 6 1) [.mk ⟨5, 0, [97], [], false, 0⟩ []]
theorem val_I : Val trI := ⟨by simp [trI, okT_mk, many], by decide +kernel, rfl⟩
theorem val_N : Val trN := ⟨by simp [trN, okT_mk, hdN, many], by decide +kernel, rfl⟩
theorem val_O : Val trO := ⟨by simp [trO, okT_mk, hdN, many], by decide +kernel, rfl⟩
theorem val_A : Val trA := ⟨by simp [trA, okT_mk, hdN, many], by decide +kernel, rfl⟩
theorem prt_I (d : Nat) : prT false d trI = inI := by rw [trI, prT_mk, if_neg (by decide), if_neg (by decide)]; decide +kernel
theorem prt_N (d : Nat) : prT false d trN = inN := by rw [trN, prT_mk, if_neg (by decide), if_neg (by decide)]; decide +kernel
theorem prt_O (d : Nat) : prT false d trO = inO := by rw [trO, prT_mk, if_neg (by decide), if_pos (by decide), prB_nil]; rfl
theorem prt_A (d : Nat) : prT false d trA = inA := by simp [trA, prT_mk, prB_cons, prB_nil, prK_nil, hdN, prL, prN, inA, quo]; decide +kernel
theorem dep_I : depth trI = 0 := by simp [trI, depth_mk, cont]
theorem dep_N : depth trN = 0 := by simp [trN, depth_mk, cont, hdN]
theorem dep_O : depth trO = 1 := by simp [trO, depth_mk, cont, hdN]
theorem dep_A : depth trA = 2 := by simp [trA, depth_mk, cont, hdN]
end Tp
end Go.Proofs.YtbgciajfjllciaaGreatDoor
