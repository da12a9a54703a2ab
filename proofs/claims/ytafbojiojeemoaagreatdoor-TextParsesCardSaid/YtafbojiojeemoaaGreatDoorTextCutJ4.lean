/-
  Joined: TxP3, TxP5.
-/
import Derived.Test.YtafbojiojeemoaaGreatDoorTextCutJ3
import Derived.Test.YtafbojiojeemoaaGreatDoorTextCutJ1

/-
  Plain words: what lists, objects and values read have: they go on, they stay within the text, their nodes are few. No program stands here.
-/
namespace Go.Proofs.YtafbojiojeemoaaGreatDoor
namespace Tp
open Go.RowKit Np Rw Vp Up Qp

/-- Behind a part. -/
def lpA {α β : Type} (rd : Nat → Rs α) (put : β → α → β) (S : List UInt8) (c m k : Nat) (acc : β) : Rs β :=
  if bt S (sk S k) = c then .ok acc (sk S k + 1) else if bt S (sk S k) = 44 then lpR rd put S c m (sk S k + 1) acc else .bad 1 (sk S k)
theorem lpR_bad {α β : Type} {rd : Nat → Rs α} {put : β → α → β} {S : List UInt8} {c m i : Nat} {acc : β} {e : Int} {p : Nat} (h : rd i = .bad e p) : lpR rd put S c (m + 1) i acc = .bad e p := by rw [lpR, h]
theorem lpR_ok {α β : Type} {rd : Nat → Rs α} {put : β → α → β} {S : List UInt8} {c m i : Nat} {acc : β} {v : α} {k : Nat} (h : rd i = .ok v k) : lpR rd put S c (m + 1) i acc = lpA rd put S c m k (put acc v) := by rw [lpR, h]; rfl

section
variable {α β : Type} {rd : Nat → Rs α} {put : β → α → β} {S : List UInt8} {c : Nat}
theorem lpR_inv (hc : c ≠ 0) (P : Nat → β → Prop) (hP : ∀ i acc v k, i ≤ S.length → P i acc → rd i = .ok v k → i < k ∧ k ≤ S.length ∧ ∀ k', k < k' → P k' (put acc v)) :
    ∀ m i acc r p, i ≤ S.length → P i acc → lpR rd put S c m i acc = .ok r p → i < p ∧ p ≤ S.length ∧ P p r
  | 0, i, acc, r, p, _, _, h => by cases h
  | m + 1, i, acc, r, p, hi, hp, h => by
    cases hr : rd i with
    | bad e q => rw [lpR_bad hr] at h; cases h
    | ok v k =>
      rw [lpR_ok hr, lpA] at h
      obtain ⟨h1, h2, h3⟩ := hP i acc v k hi hp hr
      have h4 := sk_ge S k
      have h5 := sk_le (S := S) h2
      split at h
      · rename_i hb
        have := bt_lt (S := S) (k := sk S k) (by omega)
        injection h with e1 e2
        subst e1 e2
        exact ⟨by omega, by omega, h3 _ (by omega)⟩
      · split at h
        · rename_i hb
          have := bt_lt (S := S) (k := sk S k) (by omega)
          obtain ⟨h6, h7, h8⟩ := lpR_inv hc P hP m _ _ r p (by omega) (h3 _ (by omega)) h
          exact ⟨by omega, h7, h8⟩
        · cases h
theorem ptR_inv (hc : c ≠ 0) (P : Nat → β → Prop) (hP : ∀ i acc v k, i ≤ S.length → P i acc → rd i = .ok v k → i < k ∧ k ≤ S.length ∧ ∀ k', k < k' → P k' (put acc v))
    {zero : β} {j : Nat} (hj : j < S.length) (hz : ∀ k, j < k → P k zero) {r : β} {p : Nat} (h : ptR rd put zero S c j = .ok r p) : j + 1 < p ∧ p ≤ S.length ∧ P p r := by
  unfold ptR at h
  have h4 := sk_ge S (j + 1)
  have h5 := sk_le (S := S) (i := j + 1) (by omega)
  split at h
  · rename_i hb
    have := bt_lt (S := S) (k := sk S (j + 1)) (by omega)
    injection h with e1 e2
    subst e1 e2
    exact ⟨by omega, by omega, hz _ (by omega)⟩
  · obtain ⟨h6, h7, h8⟩ := lpR_inv hc P hP _ _ _ r p h5 (hz _ (by omega)) h
    exact ⟨by omega, h7, h8⟩
/-- An error stands in the text. -/
theorem lpR_err (hE : ∀ e q, (∃ i, i ≤ S.length ∧ rd i = .bad e q) → q ≤ S.length) (hG : ∀ i v k, i ≤ S.length → rd i = .ok v k → i < k ∧ k ≤ S.length) :
    ∀ m i acc e p, i ≤ S.length → S.length < m + i → lpR rd put S c m i acc = .bad e p → (e = 1 ∧ p ≤ S.length) ∨ ∃ i, i ≤ S.length ∧ rd i = .bad e p
  | 0, i, acc, e, p, hi, hm, h => by omega
  | m + 1, i, acc, e, p, hi, hm, h => by
    cases hr : rd i with
    | bad e' q => rw [lpR_bad hr] at h; injection h with e1 e2; subst e1 e2; exact .inr ⟨i, hi, hr⟩
    | ok v k =>
      rw [lpR_ok hr, lpA] at h
      obtain ⟨h1, h2⟩ := hG i v k hi hr
      have h4 := sk_ge S k
      have h5 := sk_le (S := S) h2
      split at h
      · cases h
      · split at h
        · rename_i hb
          have := bt_lt (S := S) (k := sk S k) (by omega)
          exact lpR_err hE hG m _ _ e p (by omega) (by omega) h
        · injection h with e1 e2; subst e1 e2; exact .inl ⟨rfl, h5⟩
end

/-- Few nodes: what list and object have read so far. -/
def LiP (j i : Nat) (acc : List (List Nd)) : Prop := 2 * (acc.map List.length).sum + j + 1 ≤ i ∧ acc.length ≤ (acc.map List.length).sum
theorem LiP.zero {j k : Nat} (h : j < k) : LiP j k [] := ⟨by simp; omega, by simp⟩
theorem LiP.up {j i k : Nat} {acc : List (List Nd)} (h : LiP j i acc) (hk : i ≤ k) : LiP j k acc := ⟨by have := h.1; omega, h.2⟩
theorem LiP.snoc {j i k k' : Nat} {acc : List (List Nd)} {v : List Nd} (h : LiP j i acc) (hv : 1 ≤ v.length) (h2 : 2 * v.length + i ≤ k + 1) (hk : k < k') : LiP j k' (Tp.snoc acc v) := by
  obtain ⟨h3, h4⟩ := h
  unfold LiP Tp.snoc
  rw [List.map_append, List.sum_append, List.length_append]
  simp only [List.map_cons, List.map_nil, List.sum_cons, List.sum_nil, List.length_singleton]
  omega
/-- Behind a part that began one further on. -/
theorem LiP.snoc' {j i k : Nat} {acc : List (List Nd)} {v : List Nd} (h : LiP j (i - 1) acc) (hv : 1 ≤ v.length) (h2 : 2 * v.length + i ≤ k + 1) : LiP j k (Tp.snoc acc v) := by
  obtain ⟨h3, h4⟩ := h
  unfold LiP Tp.snoc
  rw [List.map_append, List.sum_append, List.length_append]
  simp only [List.map_cons, List.map_nil, List.sum_cons, List.sum_nil, List.length_singleton]
  omega
theorem LiP.few {j i : Nat} {acc : List (List Nd)} (h : LiP j i acc) : 2 * (acc.map List.length).sum ≤ i ∧ 2 * acc.length ≤ i := by
  obtain ⟨h3, h4⟩ := h
  omega
theorem liP_step {S : List UInt8} {rd : Nat → Rs (List Nd)} (hrd : Goes S rd) (j : Nat) : ∀ i acc v k, i ≤ S.length → LiP j i acc → rd i = .ok v k → i < k ∧ k ≤ S.length ∧ ∀ k', k < k' → LiP j k' (Tp.snoc acc v) := by
  intro i acc v k _ hp h
  obtain ⟨h1, h2, h3, h4⟩ := hrd i v k h
  exact ⟨h1, h2, fun k' hk' => hp.snoc h3 h4 hk'⟩
theorem liV_len (L : List (List Nd)) : (liV L).length = 1 + (L.map List.length).sum := by
  unfold liV
  rw [List.length_cons, laid_len', Nat.add_comm]

/-- Fields. -/
def FdP (j i : Nat) (acc : List Pr) : Prop := 2 * (acc.map fun p => p.2.length).sum + j + 1 ≤ i ∧ 4 * acc.length + j + 1 ≤ i ∧ (acc.map (·.1)).Nodup ∧ ∀ p ∈ acc, vld p.1 = true ∧ p.1.length ≤ i
theorem FdP.zero {j k : Nat} (h : j < k) : FdP j k [] := ⟨by simp; omega, by simp; omega, by simp, by simp⟩
theorem FdP.up {j i k : Nat} {acc : List Pr} (h : FdP j i acc) (hk : i ≤ k) : FdP j k acc := ⟨by have := h.1; omega, by have := h.2.1; omega, h.2.2.1, fun p hp => ⟨(h.2.2.2 p hp).1, Nat.le_trans (h.2.2.2 p hp).2 hk⟩⟩
theorem putP_names (acc : List Pr) (p : Pr) (h : p.1 ∈ acc.map (·.1)) : (putP acc p).map (·.1) = acc.map (·.1) := by
  unfold putP
  rw [if_pos h, List.map_map]
  refine List.map_congr_left fun q _ => ?_
  simp only [Function.comp]
  split
  · rename_i e; exact e.symm
  · rfl
theorem putP_new (acc : List Pr) (p : Pr) (h : p.1 ∉ acc.map (·.1)) : putP acc p = acc ++ [p] := if_neg h
theorem sum_put (p : Pr) : ∀ acc : List Pr, (acc.map (·.1)).Nodup → ((acc.map fun q => if q.1 = p.1 then p else q).map fun q => q.2.length).sum ≤ (acc.map fun q => q.2.length).sum + p.2.length
  | [], _ => by simp
  | q :: acc, h => by
    rw [List.map_cons, List.nodup_cons] at h
    have ih := sum_put p acc h.2
    simp only [List.map_cons, List.sum_cons]
    by_cases e : q.1 = p.1
    · rw [if_pos e]
      have hk : (acc.map fun q => if q.1 = p.1 then p else q) = acc := by
        conv => rhs; rw [← List.map_id acc]
        refine List.map_congr_left fun r hr => ?_
        rw [if_neg]; rfl
        intro hr2
        exact h.1 (List.mem_map.2 ⟨r, hr, by rw [hr2, e]⟩)
      rw [hk]; omega
    · rw [if_neg e]; omega
theorem FdP.put {j i k k' : Nat} {acc : List Pr} {p : Pr} (h : FdP j i acc) (hv : vld p.1 = true) (hl : p.1.length ≤ k) (h2 : 2 * p.2.length + i ≤ k + 1) (h4 : i + 4 ≤ k) (hk : k < k') : FdP j k' (putP acc p) := by
  obtain ⟨h3, h5, h6, h7⟩ := h
  by_cases hm : p.1 ∈ acc.map (·.1)
  · have h8 := sum_put p acc h6
    have h9 := putP_names acc p hm
    refine ⟨?_, ?_, by rw [h9]; exact h6, ?_⟩
    · have e : putP acc p = acc.map fun q => if q.1 = p.1 then p else q := if_pos hm
      rw [e]; omega
    · have := congrArg List.length h9
      rw [List.length_map, List.length_map] at this
      omega
    · intro q hq
      have e : putP acc p = acc.map fun q => if q.1 = p.1 then p else q := if_pos hm
      rw [e] at hq
      obtain ⟨r, hr, hq⟩ := List.mem_map.1 hq
      split at hq
      · subst hq; exact ⟨hv, by omega⟩
      · subst hq; exact ⟨(h7 _ hr).1, by have := (h7 _ hr).2; omega⟩
  · rw [putP_new acc p hm]
    refine ⟨?_, ?_, ?_, ?_⟩
    · rw [List.map_append, List.sum_append]; simp only [List.map_cons, List.map_nil, List.sum_cons, List.sum_nil]; omega
    · rw [List.length_append, List.length_singleton]; omega
    · rw [List.map_append, List.nodup_append]
      refine ⟨h6, by simp, ?_⟩
      intro a ha b hb
      simp only [List.map_cons, List.map_nil, List.mem_singleton] at hb
      subst hb
      rintro rfl
      exact hm ha
    · intro q hq
      rcases List.mem_append.1 hq with hq | hq
      · exact ⟨(h7 q hq).1, by have := (h7 q hq).2; omega⟩
      · simp only [List.mem_singleton] at hq; subst hq; exact ⟨hv, by omega⟩
theorem FdP.few {j i : Nat} {acc : List Pr} (h : FdP j i acc) : 2 * (acc.map fun p => p.2.length).sum ≤ i ∧ 4 * acc.length ≤ i := by
  obtain ⟨h3, h4, _⟩ := h
  omega
theorem fdR_ok {S : List UInt8} {rd : Nat → Rs (List Nd)} (hrd : Goes S rd) {i k : Nat} {p : Pr} (h : fdR rd S i = .ok p k) :
    i + 4 ≤ k ∧ k ≤ S.length ∧ (vld p.1 = true ∧ p.1.length ≤ k) ∧ 1 ≤ p.2.length ∧ 2 * p.2.length + i ≤ k + 1 := by
  unfold fdR at h
  cases hs : stR S (sk S i) with
  | bad e q => rw [hs] at h; cases h
  | ok nm k1 =>
    rw [hs] at h
    simp only at h
    obtain ⟨h1, h2, h3, h4, h5⟩ := stR_ok hs
    split at h
    · rename_i hb
      cases hr : rd (sk S k1 + 1) with
      | bad e q => rw [hr] at h; cases h
      | ok v k2 =>
        rw [hr] at h
        injection h with e1 e2
        subst e1 e2
        obtain ⟨g1, g2, g3, g4⟩ := hrd _ _ _ hr
        have := sk_ge S i
        have := sk_ge S k1
        exact ⟨by omega, g2, ⟨h3, by simp only; omega⟩, g3, by simp only; omega⟩
    · cases h
theorem fdP_step {S : List UInt8} {rd : Nat → Rs (List Nd)} (hrd : Goes S rd) (j : Nat) : ∀ i acc p k, i ≤ S.length → FdP j i acc → fdR rd S i = .ok p k → i < k ∧ k ≤ S.length ∧ ∀ k', k < k' → FdP j k' (putP acc p) := by
  intro i acc p k _ hp h
  obtain ⟨h1, h2, h3, h4, h5⟩ := fdR_ok hrd h
  exact ⟨by omega, h2, fun k' hk' => hp.put h3.1 h3.2 h5 h1 hk'⟩
theorem FdP.objB {j i : Nat} {acc : List Pr} (h : FdP j i acc) : Go.Proofs.YtafbojiojeemoaaGreatDoor.objB (acc.map (·.1)) (acc.map (·.2)) = true := by
  obtain ⟨_, _, h6, h7⟩ := h
  rw [objB_iff]
  refine ⟨by simp, h6, fun s hs => ?_⟩
  obtain ⟨p, hp, rfl⟩ := List.mem_map.1 hs
  exact (h7 p hp).1
theorem obV_len {j i : Nat} {acc : List Pr} (h : FdP j i acc) : (obV acc).length = 1 + (acc.map fun p => p.2.length).sum := by
  unfold obV
  rw [objV_len h.objB, List.map_map]; rfl

theorem mapR_ok {α β : Type} {f : α → β} {R : Rs α} {v : β} {k : Nat} (h : mapR f R = .ok v k) : ∃ a, R = .ok a k ∧ f a = v := by
  cases R with
  | ok a p => injection h with e1 e2; subst e1 e2; exact ⟨a, rfl, rfl⟩
  | bad e p => cases h
theorem nuR_ok {S : List UInt8} {i k : Nat} {v : List Nd} (h : nuR S i = .ok v k) (hi : i ≤ S.length) : i ≤ k ∧ k ≤ S.length ∧ v.length = 1 ∧ k = i + (nuT S i).length := by
  unfold nuR at h
  have := nuT_len S i hi
  split at h
  · injection h with e1 e2; subst e1 e2; exact ⟨by omega, this, rfl, rfl⟩
  · cases h
set_option maxRecDepth 10000 in
theorem nuT_pos {S : List UInt8} {i : Nat} (h : bt S i = 45 ∨ 48 ≤ bt S i ∧ bt S i ≤ 57) : 1 ≤ (nuT S i).length := by
  have hl := bt_lt (S := S) (k := i) (by omega)
  have e : S.drop i = S[i] :: S.drop (i + 1) := by rw [List.getElem_cons_drop hl]
  have e2 : bt S i = S[i].toNat := by simp [bt, List.getD_eq_getElem?_getD, List.getElem?_eq_getElem hl]
  rw [e2] at h
  have hm : numB.contains S[i] = true := by
    have key : ∀ n, n < 58 → (n = 45 ∨ 48 ≤ n ∧ n ≤ 57) → numB.contains (UInt8.ofNat n) = true := by decide
    have := key _ (by omega) h
    rwa [UInt8.ofNat_toNat] at this
  unfold nuT
  rw [e, List.takeWhile_cons, if_pos hm, List.length_cons]
  omega
theorem woR_ok {S : List UInt8} {i k : Nat} {v : List Nd} (h : woR S i = .ok v k) : i + 4 ≤ k ∧ k ≤ S.length ∧ v.length = 1 := by
  unfold woR at h
  have hp : ∀ w : List UInt8, w ≠ [] → Lib.hasPrefix (S.drop i) w = true → i + w.length ≤ S.length := by
    intro w hw h
    have h1 : w.length ≤ (S.drop i).length := by
      unfold Lib.hasPrefix at h
      exact (List.isPrefixOf_iff_prefix.1 h).length_le
    rw [List.length_drop] at h1
    have : 0 < w.length := List.length_pos_iff.2 hw
    omega
  split at h
  · rename_i hb
    have := hp _ (by decide) hb
    injection h with e1 e2; subst e1 e2; exact ⟨by omega, this, rfl⟩
  · split at h
    · rename_i hb
      have := hp _ (by decide) hb
      injection h with e1 e2; subst e1 e2; exact ⟨by omega, this, rfl⟩
    · split at h
      · rename_i hb
        have := hp _ (by decide) hb
        injection h with e1 e2; subst e1 e2; exact ⟨by omega, this, rfl⟩
      · cases h
theorem vl1_goes {S : List UInt8} {arr obj : Nat → Rs (List Nd)} {i : Nat}
    (ha : bt S i = 91 → ∀ v k, arr i = .ok v k → i < k ∧ k ≤ S.length ∧ 1 ≤ v.length ∧ 2 * v.length + i ≤ k + 1)
    (ho : bt S i = 123 → ∀ v k, obj i = .ok v k → i < k ∧ k ≤ S.length ∧ 1 ≤ v.length ∧ 2 * v.length + i ≤ k + 1)
    {v : List Nd} {k : Nat} (h : vl1 S arr obj i = .ok v k) : i < k ∧ k ≤ S.length ∧ 1 ≤ v.length ∧ 2 * v.length + i ≤ k + 1 := by
  unfold vl1 at h
  split at h
  · rename_i hb; exact ha hb v k h
  · split at h
    · rename_i hb; exact ho hb v k h
    · split at h
      · obtain ⟨a, h1, rfl⟩ := mapR_ok h
        obtain ⟨h2, h3, -⟩ := stR_ok h1
        exact ⟨by omega, h3, by simp [strV], by simp [strV]; omega⟩
      · split at h
        · rename_i hb
          have hl := bt_lt (S := S) (k := i) (by omega)
          obtain ⟨h1, h2, h3, h4⟩ := nuR_ok h (by omega)
          have := nuT_pos hb
          exact ⟨by omega, h2, by omega, by omega⟩
        · obtain ⟨h1, h2, h3⟩ := woR_ok h
          exact ⟨by omega, h2, by omega, by omega⟩
theorem li_goes {S : List UInt8} {rd : Nat → Rs (List Nd)} (hrd : Goes S rd) {j : Nat} (hj : j < S.length) {v : List Nd} {k : Nat} (h : mapR liV (ptR rd Tp.snoc [] S 93 j) = .ok v k) : j < k ∧ k ≤ S.length ∧ 1 ≤ v.length ∧ 2 * v.length + j ≤ k + 1 := by
  obtain ⟨a, h1, rfl⟩ := mapR_ok h
  obtain ⟨h2, h3, h4, h5⟩ := ptR_inv (by decide) (LiP j) (liP_step hrd j) hj (fun k hk => LiP.zero hk) h1
  rw [liV_len]
  exact ⟨by omega, h3, by omega, by omega⟩
theorem ob_goes {S : List UInt8} {rd : Nat → Rs (List Nd)} (hrd : Goes S rd) {j : Nat} (hj : j < S.length) {v : List Nd} {k : Nat} (h : mapR obV (ptR (fdR rd S) putP [] S 125 j) = .ok v k) : j < k ∧ k ≤ S.length ∧ 1 ≤ v.length ∧ 2 * v.length + j ≤ k + 1 := by
  obtain ⟨a, h1, rfl⟩ := mapR_ok h
  obtain ⟨h2, h3, h4⟩ := ptR_inv (by decide) (FdP j) (fdP_step hrd j) hj (fun k hk => FdP.zero hk) h1
  rw [obV_len h4]
  have := h4.1
  exact ⟨by omega, h3, by omega, by omega⟩
theorem vlR_goes (S : List UInt8) : ∀ n, Goes S (vlR S n)
  | 0 => fun i v k h => by
    rw [vlR_zero] at h
    have h1 := sk_ge S i
    have h2 := vl1_goes (fun _ v k h => by cases h) (fun _ v k h => by cases h) h
    omega
  | n + 1 => fun i v k h => by
    rw [vlR_succ] at h
    have h1 := sk_ge S i
    have ih := vlR_goes S n
    have h2 := vl1_goes (fun hb v k h => li_goes ih (bt_lt (by omega)) h) (fun hb v k h => ob_goes ih (bt_lt (by omega)) h) h
    omega
end Tp
end Go.Proofs.YtafbojiojeemoaaGreatDoor

/-
  Plain words: the texts of a value, compact and with lines. No program stands here.
-/
namespace Go.Proofs.YtafbojiojeemoaaGreatDoor
namespace Tp
open Go.RowKit Np Rw Vp Up Qp

/-- A line's end, and blanks for so many around. -/
def prL (ln : Bool) (d : Nat) : List UInt8 := if ln = true then 10 :: List.replicate (2 * d) 32 else []
/-- A name, and what stands behind it. -/
def prN (ln : Bool) (nm : List UInt8) : List UInt8 := quo nm ++ (58 :: if ln = true then [32] else [])
def wordT (k : Int) : List UInt8 := if k = 0 then wNull else if k = 1 then wFalse else wTrue
def scT (n : Nd) : List UInt8 := if n.kind = 0 ∨ n.kind = 1 ∨ n.kind = 2 then wordT n.kind else if n.kind = 3 then printN n.s n.neg n.e else quo n.s
mutual
def prT (ln : Bool) (d : Nat) : Tr Nd → List UInt8
  | .mk n ks => if n.kind = 5 then 91 :: (prB ln d false ks ++ [93]) else if n.kind = 6 then 123 :: (prB ln d true ks ++ [125]) else scT n
def prB (ln : Bool) (d : Nat) (ob : Bool) : List (Tr Nd) → List UInt8
  | [] => []
  | t :: ts => prL ln (d + 1) ++ (if ob = true then prN ln t.nd.name else []) ++ prT ln (d + 1) t ++ prK ln d ob ts
/-- Behind a part. -/
def prK (ln : Bool) (d : Nat) (ob : Bool) : List (Tr Nd) → List UInt8
  | [] => prL ln d
  | t :: ts => 44 :: (prL ln (d + 1) ++ (if ob = true then prN ln t.nd.name else []) ++ prT ln (d + 1) t ++ prK ln d ob ts)
end
theorem prT_mk (ln : Bool) (d : Nat) (n : Nd) (ks : List (Tr Nd)) : prT ln d (.mk n ks) = if n.kind = 5 then 91 :: (prB ln d false ks ++ [93]) else if n.kind = 6 then 123 :: (prB ln d true ks ++ [125]) else scT n := by rw [prT]
theorem prB_nil (ln : Bool) (d : Nat) (ob : Bool) : prB ln d ob [] = [] := by rw [prB]
theorem prB_cons (ln : Bool) (d : Nat) (ob : Bool) (t : Tr Nd) (ts : List (Tr Nd)) : prB ln d ob (t :: ts) = prL ln (d + 1) ++ (if ob = true then prN ln t.nd.name else []) ++ prT ln (d + 1) t ++ prK ln d ob ts := by rw [prB]
theorem prK_nil (ln : Bool) (d : Nat) (ob : Bool) : prK ln d ob [] = prL ln d := by rw [prK]
theorem prK_cons (ln : Bool) (d : Nat) (ob : Bool) (t : Tr Nd) (ts : List (Tr Nd)) : prK ln d ob (t :: ts) = 44 :: (prL ln (d + 1) ++ (if ob = true then prN ln t.nd.name else []) ++ prT ln (d + 1) t ++ prK ln d ob ts) := by rw [prK]
theorem prL_len (ln : Bool) (d : Nat) : (prL ln d).length ≤ 2 * d + 1 := by unfold prL; split <;> simp
end Tp
end Go.Proofs.YtafbojiojeemoaaGreatDoor
