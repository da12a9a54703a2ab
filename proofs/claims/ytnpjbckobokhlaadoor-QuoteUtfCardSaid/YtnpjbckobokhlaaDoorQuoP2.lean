/-
  Plain words on strings that are written, further: what is quoted is read as it was; what is read is valid UTF-8, no longer than it was written. No program stands here.
-/
import Derived.Test.YtnpjbckobokhlaaDoorQQuote
namespace Go.Proofs.YtnpjbckobokhlaaDoor
namespace Qp
open Go.RowKit Np Up

theorem validD_nil : Lib.validD [] = true := rfl
theorem valid_append : ∀ (n : Nat) (a b : List UInt8), a.length ≤ n → Lib.validD a = true → Lib.validD (a ++ b) = Lib.validD b
  | 0, a, b, hn, _ => by
    have : a = [] := List.eq_nil_of_length_eq_zero (by omega)
    subst this
    rfl
  | n + 1, a, b, hn, ha => by
    by_cases hl : a = []
    · subst hl; rfl
    have hp : 0 < a.length := List.length_pos_iff.2 hl
    have hs := valid_step a hl
    rw [ha] at hs
    by_cases h0 : runeN a = 0
    · rw [if_pos h0] at hs; cases hs
    rw [if_neg h0] at hs
    have hle := runeN_le a hl
    rw [valid_step (a ++ b) (by simp [hl]), runeN_append b hl h0, if_neg h0, List.drop_append_of_le_length hle]
    exact valid_append n _ b (by rw [List.length_drop]; omega) hs.symm
theorem valid_app {a : List UInt8} (b : List UInt8) (h : Lib.validD a = true) : Lib.validD (a ++ b) = Lib.validD b := valid_append _ a b (Nat.le_refl _) h
theorem valid_take {l : List UInt8} (hl : l ≠ []) (h : runeN l ≠ 0) : Lib.validD (l.take (runeN l)) = true := by
  have hle := runeN_le l hl
  have hne : l.take (runeN l) ≠ [] := by
    intro e
    have := congrArg List.length e
    rw [List.length_take, List.length_nil] at this
    omega
  rw [valid_step _ hne, runeN_take h, if_neg h, List.drop_of_length_le (by rw [List.length_take]; omega)]
  rfl

/-! ### a rune's bytes -/
theorem u8_nat {x : Nat} (h : x < 256) : x.toUInt8.toNat = x := by simp [Nat.mod_eq_of_lt h]
theorem enc_one {n : Nat} (h : n < 128) : Lib.encodeRune (n : Int) = [n.toUInt8] := by
  rw [Lib.encodeRune, Lib.encodeRuneZ_one (by omega) (by omega)]; rfl
theorem enc_two {n : Nat} (h : 128 ≤ n) (h1 : n < 2048) : Lib.encodeRune (n : Int) = [(192 + n / 64).toUInt8, (128 + n % 64).toUInt8] := by
  rw [Lib.encodeRune, Lib.encodeRuneZ_two (by omega) (by omega)]; rfl
theorem enc_three {n : Nat} (h : 2048 ≤ n) (h1 : n < 65536) (hr : n < 55296 ∨ 57344 ≤ n) : Lib.encodeRune (n : Int) = [(224 + n / 4096).toUInt8, (128 + n / 64 % 64).toUInt8, (128 + n % 64).toUInt8] := by
  rw [Lib.encodeRune, Lib.encodeRuneZ_three (by omega)]; rfl
theorem enc_four {n : Nat} (h : 65536 ≤ n) (h1 : n ≤ 1114111) : Lib.encodeRune (n : Int) = [(240 + n / 262144).toUInt8, (128 + n / 4096 % 64).toUInt8, (128 + n / 64 % 64).toUInt8, (128 + n % 64).toUInt8] := by
  rw [Lib.encodeRune, Lib.encodeRuneZ_four (by omega) (by omega)]; rfl
theorem ct_of {l : List UInt8} {k : Nat} (h : k < l.length) (h0 : 128 ≤ bt l k) (h1 : bt l k < 192) : ct l k = true := by
  rw [ct_iff]; exact ⟨h, by omega⟩
theorem enc_rune {n : Nat} (h : ru n) : runeN (Lib.encodeRune (n : Int)) = (Lib.encodeRune (n : Int)).length := by
  unfold ru at h
  by_cases c1 : n < 128
  · rw [enc_one c1]
    exact runeN_one (by rw [bt_cons, u8_nat (by omega)]; omega)
  by_cases c2 : n < 2048
  · rw [enc_two (by omega) c2]
    have e0 : bt [(192 + n / 64).toUInt8, (128 + n % 64).toUInt8] 0 = 192 + n / 64 := by rw [bt_cons, u8_nat (by omega)]
    have e1 : bt [(192 + n / 64).toUInt8, (128 + n % 64).toUInt8] 1 = 128 + n % 64 := by rw [bt_succ, bt_cons, u8_nat (by omega)]
    exact runeN_two (by omega) (by omega) (ct_of (by simp) (by omega) (by omega))
  by_cases c3 : n < 65536
  · rw [enc_three (by omega) c3 (by omega)]
    generalize hl : [(224 + n / 4096).toUInt8, (128 + n / 64 % 64).toUInt8, (128 + n % 64).toUInt8] = l
    have e0 : bt l 0 = 224 + n / 4096 := by rw [← hl, bt_cons, u8_nat (by omega)]
    have e1 : bt l 1 = 128 + n / 64 % 64 := by rw [← hl, bt_succ, bt_cons, u8_nat (by omega)]
    have e2 : bt l 2 = 128 + n % 64 := by rw [← hl, bt_succ, bt_succ, bt_cons, u8_nat (by omega)]
    have el : l.length = 3 := by rw [← hl]; rfl
    rw [el]
    exact runeN_three (by omega) (by omega) (ct_of (by omega) (by omega) (by omega)) (ct_of (by omega) (by omega) (by omega)) (by omega)
  · rw [enc_four (by omega) (by omega)]
    generalize hl : [(240 + n / 262144).toUInt8, (128 + n / 4096 % 64).toUInt8, (128 + n / 64 % 64).toUInt8, (128 + n % 64).toUInt8] = l
    have e0 : bt l 0 = 240 + n / 262144 := by rw [← hl, bt_cons, u8_nat (by omega)]
    have e1 : bt l 1 = 128 + n / 4096 % 64 := by rw [← hl, bt_succ, bt_cons, u8_nat (by omega)]
    have e2 : bt l 2 = 128 + n / 64 % 64 := by rw [← hl, bt_succ, bt_succ, bt_cons, u8_nat (by omega)]
    have e3 : bt l 3 = 128 + n % 64 := by rw [← hl, bt_succ, bt_succ, bt_succ, bt_cons, u8_nat (by omega)]
    have el : l.length = 4 := by rw [← hl]; rfl
    rw [el]
    exact runeN_four (by omega) (by omega) (ct_of (by omega) (by omega) (by omega)) (ct_of (by omega) (by omega) (by omega)) (ct_of (by omega) (by omega) (by omega)) (by omega)
theorem enc_ne (r : Int) : Lib.encodeRune r ≠ [] := by
  intro e
  have h := congrArg List.length e
  rw [Lib.encodeRune, List.length_map, List.length_nil] at h
  have := (Lib.encodeRuneZ_length r).1
  omega
theorem enc_valid {n : Nat} (h : ru n) : Lib.validD (Lib.encodeRune (n : Int)) = true := by
  have h1 := enc_rune h
  have h2 := List.length_pos_iff.2 (enc_ne (n : Int))
  rw [valid_step _ (enc_ne _), if_neg (by omega), h1, List.drop_of_length_le (Nat.le_refl _)]
  rfl
theorem enc_high {n : Nat} (h : ru n) (h1 : 128 ≤ n) : wrs (Lib.encodeRune (n : Int)) = Lib.encodeRune (n : Int) := by
  have hr := enc_rune h
  have hb : 128 ≤ bt (Lib.encodeRune (n : Int)) 0 := by
    rcases Nat.lt_or_ge (bt (Lib.encodeRune (n : Int)) 0) 128 with hb | hb
    · exfalso
      have h3 := runeN_one hb
      rw [hr] at h3
      unfold ru at h
      by_cases c2 : n < 2048
      · rw [enc_two h1 c2] at h3; cases h3
      by_cases c3 : n < 65536
      · rw [enc_three (by omega) c3 (by omega)] at h3; cases h3
      · rw [enc_four (by omega) (by omega)] at h3; cases h3
    · exact hb
  apply wrs_high
  have h4 := take_high (fun j hj => runeN_high hb j hj)
  rw [hr, List.take_length] at h4
  exact h4

theorem enc_max (r : Int) : (Lib.encodeRune r).length ≤ 4 := by
  rw [Lib.encodeRune, List.length_map]
  exact (Lib.encodeRuneZ_length r).2
/-! ### what has been read -/
theorem sh_wrs {c x : Nat} (h : sh c = some x) : (wrs (Lib.encodeRune (x : Int))).length ≤ 2 := by
  unfold sh at h
  repeat' split at h
  all_goals first
    | (cases h; done)
    | (injection h with h; subst h; decide +kernel)
theorem tk_good {l p : List UInt8} {m : Nat} (hl : l ≠ []) (hb : bt l 0 ≠ 34) (h : tk l = some (p, m)) : Lib.validD p = true ∧ p.length ≤ m ∧ (wrs p).length ≤ m := by
  unfold tk at h
  split at h
  · cases he : es l with
    | none => rw [he] at h; cases h
    | some x =>
      obtain ⟨r, k⟩ := x
      rw [he] at h
      simp at h
      obtain ⟨h1, h2⟩ := h
      subst h1 h2
      obtain ⟨_, hr, hk, _⟩ := es_some he
      have hv := enc_valid hr
      rcases hk with ⟨rfl, hs⟩ | ⟨rfl, hs⟩ | ⟨rfl, hs⟩
      · have h3 := sh_wrs hs
        have h4 := (wrs_len (Lib.encodeRune (r : Int))).1
        exact ⟨hv, by omega, h3⟩
      · by_cases c : r < 128
        · rw [enc_one c]
          have h5 := (wrs_len [r.toUInt8]).2
          exact ⟨by rw [← enc_one c]; exact hv, by simp, by simpa using h5⟩
        · have h4 := enc_max (r : Int)
          exact ⟨hv, by omega, by rw [enc_high hr (by omega)]; omega⟩
      · have h4 := enc_max (r : Int)
        exact ⟨hv, by omega, by rw [enc_high hr (by omega)]; omega⟩
  · rename_i h92
    split at h
    · cases h
    · rename_i h32
      injection h with h
      injection h with e1 e2
      subst e1
      have hn : runeN l ≠ 0 := fun e => h32 (.inr e)
      have hv := valid_take hl hn
      subst e2
      have hlen : (l.take (runeN l)).length ≤ runeN l := by rw [List.length_take]; omega
      refine ⟨hv, hlen, ?_⟩
      by_cases c : bt l 0 < 128
      · have h1 := runeN_one c
        obtain ⟨a, t, rfl⟩ : ∃ a t, l = a :: t := by
          cases l with
          | nil => exact absurd rfl hl
          | cons a t => exact ⟨a, t, rfl⟩
        rw [bt_cons] at c hb h92 h32
        have h5 : wrs [a] = [a] := by
          simp only [wrs, List.flatMap_cons, List.flatMap_nil, List.append_nil]
          exact wr_plain hb h92 (by omega)
        rw [h1]
        show (wrs [a]).length ≤ 1
        rw [h5]
        simp
      · rw [wrs_high (take_high (fun j hj => runeN_high (by omega) j hj))]
        exact hlen
/-- What has been read whole. -/
theorem unq_good : ∀ (f : Nat) (out l : List UInt8) (i n : Nat) (x : List UInt8), l.length ≤ f → unq out l i = (x, n, 0) →
    ∃ y, x = out ++ y ∧ Lib.validD y = true ∧ y.length + 1 + i ≤ n ∧ (wrs y).length + 1 + i ≤ n ∧ n ≤ i + l.length
  | 0, out, l, i, n, x, hf, h => by
    have : l = [] := List.eq_nil_of_length_eq_zero (by omega)
    subst this
    rw [unq_nil] at h
    injection h with _ h
    injection h with _ h
    cases h
  | f + 1, out, l, i, n, x, hf, h => by
    by_cases hl : l = []
    · subst hl
      rw [unq_nil] at h
      injection h with _ h
      injection h with _ h
      cases h
    have hp : 0 < l.length := List.length_pos_iff.2 hl
    by_cases hb : bt l 0 = 34
    · rw [unq_mark _ _ hb] at h
      injection h with h1 h
      injection h with h2 _
      subst h1 h2
      exact ⟨[], by simp, rfl, by simp; omega, by simp [wrs]; omega, by omega⟩
    cases ht : tk l with
    | none =>
      rw [unq_bad _ _ hb ht] at h
      injection h with _ h
      injection h with _ h
      cases h
    | some q =>
      obtain ⟨p, m⟩ := q
      rw [unq_step _ _ hl hb ht] at h
      obtain ⟨hm1, hm2⟩ := tk_some hl ht
      obtain ⟨g1, g2, g3⟩ := tk_good hl hb ht
      obtain ⟨y, y1, y2, y3, y4, y5⟩ := unq_good f _ _ _ _ _ (by rw [List.length_drop]; omega) h
      rw [List.length_drop] at y5
      refine ⟨p ++ y, by rw [y1, List.append_assoc], by rw [valid_app y g1]; exact y2, by rw [List.length_append]; omega, by rw [wrs_append, List.length_append]; omega, by omega⟩
theorem unq_shape : ∀ (f : Nat) (out l : List UInt8) (i : Nat), l.length ≤ f → (unq out l i).2.2 = 0 ∨ ((unq out l i).1 = [] ∧ (unq out l i).2.2 = 1 ∧ i ≤ (unq out l i).2.1 ∧ (unq out l i).2.1 ≤ i + l.length)
  | 0, out, l, i, hf => by
    have : l = [] := List.eq_nil_of_length_eq_zero (by omega)
    subst this
    exact .inr ⟨rfl, rfl, Nat.le_refl _, by rw [unq_nil]; simp⟩
  | f + 1, out, l, i, hf => by
    by_cases hl : l = []
    · subst hl
      exact .inr ⟨rfl, rfl, Nat.le_refl _, by rw [unq_nil]; simp⟩
    by_cases hb : bt l 0 = 34
    · rw [unq_mark _ _ hb]; exact .inl rfl
    cases ht : tk l with
    | none => rw [unq_bad _ _ hb ht]; exact .inr ⟨rfl, rfl, Nat.le_refl _, Nat.le_add_right _ _⟩
    | some q =>
      obtain ⟨p, m⟩ := q
      rw [unq_step _ _ hl hb ht]
      obtain ⟨hm1, hm2⟩ := tk_some hl ht
      rcases unq_shape f (out ++ p) (l.drop m) (i + m) (by rw [List.length_drop]; omega) with h | ⟨h1, h2, h3, h4⟩
      · exact .inl h
      · rw [List.length_drop] at h4
        exact .inr ⟨h1, h2, by omega, by omega⟩
/-- What has been read whole is read so with anything behind. -/
theorem unq_stable : ∀ (f : Nat) (out l t : List UInt8) (i n : Nat) (x : List UInt8), l.length ≤ f → unq out l i = (x, n, 0) → unq out (l ++ t) i = (x, n, 0)
  | 0, out, l, t, i, n, x, hf, h => by
    have : l = [] := List.eq_nil_of_length_eq_zero (by omega)
    subst this
    rw [unq_nil] at h
    injection h with _ h
    injection h with _ h
    cases h
  | f + 1, out, l, t, i, n, x, hf, h => by
    by_cases hl : l = []
    · subst hl
      rw [unq_nil] at h
      injection h with _ h
      injection h with _ h
      cases h
    have hp : 0 < l.length := List.length_pos_iff.2 hl
    by_cases hb : bt l 0 = 34
    · rw [unq_mark _ _ hb] at h
      rw [unq_mark _ _ (by rw [bt_append t hp]; exact hb)]
      exact h
    cases ht : tk l with
    | none =>
      rw [unq_bad _ _ hb ht] at h
      injection h with _ h
      injection h with _ h
      cases h
    | some q =>
      obtain ⟨p, m⟩ := q
      obtain ⟨hm1, hm2⟩ := tk_some hl ht
      rw [unq_step _ _ hl hb ht] at h
      rw [unq_step _ _ (by simp [hl]) (by rw [bt_append t hp]; exact hb) (tk_append t hl ht), List.drop_append_of_le_length hm2]
      exact unq_stable f _ _ t _ _ _ (by rw [List.length_drop]; omega) h

/-! ### what is quoted -/
theorem wr_all : ∀ c : Fin 128, tk (wr (UInt8.ofNat c.val)) = some ([UInt8.ofNat c.val], (wr (UInt8.ofNat c.val)).length) ∧ bt (wr (UInt8.ofNat c.val)) 0 ≠ 34 := by decide +kernel
theorem tk_wr {c : UInt8} (h : c.toNat < 128) (t : List UInt8) : tk (wr c ++ t) = some ([c], (wr c).length) ∧ bt (wr c ++ t) 0 ≠ 34 := by
  have h1 := wr_all ⟨c.toNat, h⟩
  simp only [UInt8.ofNat_toNat] at h1
  have hp := (wr_len c).1
  exact ⟨tk_append t (List.length_pos_iff.1 hp) h1.1, by rw [bt_append t hp]; exact h1.2⟩
theorem unq_quo : ∀ (f : Nat) (s out t : List UInt8) (i : Nat), s.length ≤ f → Lib.validD s = true → unq out (wrs s ++ 34 :: t) i = (out ++ s, i + (wrs s).length + 1, 0)
  | 0, s, out, t, i, hf, hv => by
    have : s = [] := List.eq_nil_of_length_eq_zero (by omega)
    subst this
    show unq out (34 :: t) i = _
    rw [unq_mark _ _ (by rw [bt_cons]; decide)]
    simp [wrs]
  | f + 1, s, out, t, i, hf, hv => by
    by_cases hl : s = []
    · subst hl
      show unq out (34 :: t) i = _
      rw [unq_mark _ _ (by rw [bt_cons]; decide)]
      simp [wrs]
    have hp : 0 < s.length := List.length_pos_iff.2 hl
    have hs := valid_step s hl
    rw [hv] at hs
    by_cases h0 : runeN s = 0
    · rw [if_pos h0] at hs; cases hs
    rw [if_neg h0] at hs
    have hle := runeN_le s hl
    by_cases c : bt s 0 < 128
    · obtain ⟨a, r, rfl⟩ : ∃ a r, s = a :: r := by
        cases s with
        | nil => exact absurd rfl hl
        | cons a r => exact ⟨a, r, rfl⟩
      rw [runeN_one c] at hs
      rw [bt_cons] at c
      obtain ⟨h1, h2⟩ := tk_wr c (wrs r ++ 34 :: t)
      have e : wrs (a :: r) = wr a ++ wrs r := by simp [wrs]
      have hw := (wr_len a).1
      rw [e, List.append_assoc, unq_step _ _ (by intro h; have := congrArg List.length h; rw [List.length_append, List.length_nil] at this; omega) h2 h1, List.drop_left]
      rw [unq_quo f r (out ++ [a]) t _ (by simpa using hf) hs.symm]
      simp
      omega
    · have e : wrs s = s.take (runeN s) ++ wrs (s.drop (runeN s)) := by
        conv => lhs; rw [← List.take_append_drop (runeN s) s]
        rw [wrs_append, wrs_high (take_high (fun j hj => runeN_high (by omega) j hj))]
      have hlen : (s.take (runeN s)).length = runeN s := by rw [List.length_take]; omega
      have hb0 : bt (s.take (runeN s)) 0 = bt s 0 := bt_take (by omega)
      have hne : s.take (runeN s) ≠ [] := List.length_pos_iff.1 (by omega)
      have ht : tk (s.take (runeN s)) = some (s.take (runeN s), runeN s) := by
        rw [tk, if_neg (by omega), runeN_take h0, if_neg (by omega), List.take_take, Nat.min_self]
      rw [e, List.append_assoc, unq_step _ _ (by simp [hne]) (by rw [bt_append _ (by omega), hb0]; omega) (tk_append _ hne ht)]
      rw [List.drop_append_of_le_length (by omega), List.drop_of_length_le (by omega), List.nil_append]
      rw [unq_quo f _ (out ++ s.take (runeN s)) t _ (by rw [List.length_drop]; omega) hs.symm]
      rw [List.append_assoc, List.take_append_drop, List.length_append, hlen]
      congr 2
      omega
theorem quo_len (s : List UInt8) : (quo s).length = (wrs s).length + 2 := by simp [quo]
theorem quo_back (s t : List UInt8) (h : Lib.validD s = true) : unqs (quo s ++ t) = (s, (quo s).length, 0) := by
  have e : quo s ++ t = 34 :: (wrs s ++ 34 :: t) := by simp [quo]
  have hb : bt (34 :: (wrs s ++ 34 :: t)) 0 = 34 := rfl
  rw [e, unqs, if_pos hb, List.drop_one, List.tail_cons, unq_quo _ s [] t 1 (Nat.le_refl _) h, quo_len, List.nil_append]
  congr 2
  omega
theorem quo_cut (s : List UInt8) (k : Nat) (hk : k < (quo s).length) (h : Lib.validD s = true) : (unqs ((quo s).take k)).1 = [] ∧ (unqs ((quo s).take k)).2.2 = 1 ∧ (unqs ((quo s).take k)).2.1 ≤ k := by
  rcases Nat.eq_zero_or_pos k with rfl | hp
  · exact ⟨rfl, rfl, Nat.le_refl _⟩
  have hb : bt ((quo s).take k) 0 = 34 := by rw [bt_take hp]; rfl
  rw [unqs, if_pos hb]
  rcases unq_shape _ [] (((quo s).take k).drop 1) 1 (Nat.le_refl _) with h1 | ⟨h1, h2, h3, h4⟩
  · exfalso
    generalize hr : unq [] (((quo s).take k).drop 1) 1 = r at h1
    obtain ⟨x, n, e⟩ := r
    simp only at h1
    subst h1
    obtain ⟨y, _, _, _, _, h5⟩ := unq_good _ _ _ _ _ _ (Nat.le_refl _) hr
    have h6 := unq_stable _ _ _ ((quo s).drop k) _ _ _ (Nat.le_refl _) hr
    have h7 : ((quo s).take k).drop 1 ++ (quo s).drop k = (quo s).drop 1 := by
      rw [← List.drop_append_of_le_length (by rw [List.length_take]; omega), List.take_append_drop]
    have h8 := quo_back s [] h
    have hb8 : bt (quo s) 0 = 34 := rfl
    rw [List.append_nil, unqs, if_pos hb8] at h8
    rw [h7, h8] at h6
    injection h6 with _ h6
    injection h6 with h6 _
    rw [List.length_drop, List.length_take] at h5
    omega
  · rw [List.length_drop, List.length_take] at h4
    exact ⟨h1, h2, by omega⟩
end Qp
end Go.Proofs.YtnpjbckobokhlaaDoor
