/-
  Plain words on strings that are written: each byte's writing, escapes, what is read, where a text is no UTF-8. No program stands here.
-/
import Derived.Test.YtdgcdemihalefaaGreatDoorUtfP
import Derived.Lib.RuneBytes
namespace Go.Proofs.YtdgcdemihalefaaGreatDoor
namespace Qp
open Go.RowKit Np Up

/-- A figure of sixteen. -/
def hx (n : Nat) : UInt8 := if n < 10 then UInt8.ofNat (48 + n) else UInt8.ofNat (87 + n)
/-- A byte, written. -/
def wr (c : UInt8) : List UInt8 :=
  if c.toNat = 34 then [92, 34] else if c.toNat = 92 then [92, 92] else if c.toNat = 8 then [92, 98] else if c.toNat = 12 then [92, 102] else if c.toNat = 10 then [92, 110] else if c.toNat = 13 then [92, 114] else if c.toNat = 9 then [92, 116]
  else if c.toNat < 32 then [92, 117, 48, 48, hx (c.toNat / 16), hx (c.toNat % 16)] else [c]
def wrs (l : List UInt8) : List UInt8 := l.flatMap wr
def quo (l : List UInt8) : List UInt8 := 34 :: (wrs l ++ [34])
/-- A figure's number. -/
def hv (c : UInt8) : Option Nat :=
  if 48 ≤ c.toNat ∧ c.toNat ≤ 57 then some (c.toNat - 48) else if 97 ≤ c.toNat ∧ c.toNat ≤ 102 then some (c.toNat - 87) else if 65 ≤ c.toNat ∧ c.toNat ≤ 70 then some (c.toNat - 55) else none
/-- The number of some figures, behind another one. -/
def hvs : List UInt8 → Nat → Option Nat
  | [], a => some a
  | c :: r, a => match hv c with
    | some d => hvs r (a * 16 + d)
    | none => none
/-- The number of the escape of a number that some bytes begin with. -/
def un (l : List UInt8) : Option Nat := if 6 ≤ l.length ∧ bt l 0 = 92 ∧ bt l 1 = 117 then hvs ((l.drop 2).take 4) 0 else none
/-- The rune of a short escape's letter. -/
def sh (c : Nat) : Option Nat :=
  if c = 34 then some 34 else if c = 92 then some 92 else if c = 47 then some 47 else if c = 98 then some 8 else if c = 102 then some 12 else if c = 110 then some 10 else if c = 114 then some 13 else if c = 116 then some 9 else none
/-- What two halves are. -/
def pr (a b : Nat) : Nat := 65536 + 1024 * (a - 55296) + (b - 56320)
/-- The rune of the escape that some bytes begin with, and how many they are. -/
def es (l : List UInt8) : Option (Nat × Nat) :=
  if l.length < 2 then none else
  match sh (bt l 1) with
  | some x => some (x, 2)
  | none => match un l with
    | none => none
    | some a => if a < 55296 ∨ 57344 ≤ a then some (a, 6) else
      match un (l.drop 6) with
      | none => none
      | some b => if a < 56320 ∧ 56320 ≤ b ∧ b < 57344 then some (pr a b, 12) else none
/-- What some bytes begin with, read, and how many they are. -/
def tk (l : List UInt8) : Option (List UInt8 × Nat) :=
  if bt l 0 = 92 then (es l).map fun x => (Lib.encodeRune (x.1 : Int), x.2)
  else if bt l 0 < 32 ∨ runeN l = 0 then none else some (l.take (runeN l), runeN l)
def unqF : Nat → List UInt8 → List UInt8 → Nat → List UInt8 × Nat × Int
  | 0, _, _, i => ([], i, 1)
  | f + 1, out, l, i => if l = [] then ([], i, 1) else if bt l 0 = 34 then (out, i + 1, 0) else
    match tk l with
    | none => ([], i, 1)
    | some (p, n) => unqF f (out ++ p) (l.drop n) (i + n)
/-- What is read from a place on, behind what has been. -/
def unq (out l : List UInt8) (i : Nat) : List UInt8 × Nat × Int := unqF l.length out l i
def unqs (l : List UInt8) : List UInt8 × Nat × Int := if bt l 0 = 34 then unq [] (l.drop 1) 1 else ([], 0, 1)
def ufpF : Nat → List UInt8 → Nat → Nat
  | 0, _, i => i
  | f + 1, l, i => if l = [] then i else if runeN l = 0 then i else ufpF f (l.drop (runeN l)) (i + runeN l)
/-- Where some bytes are no UTF-8, from a place on. -/
def ufp (l : List UInt8) (i : Nat) : Nat := ufpF l.length l i

theorem bt_nil (k : Nat) : bt [] k = 0 := by simp [bt]
theorem bt_cons (c : UInt8) (r : List UInt8) : bt (c :: r) 0 = c.toNat := rfl
theorem bt_succ (c : UInt8) (r : List UInt8) (k : Nat) : bt (c :: r) (k + 1) = bt r k := by simp [bt]
theorem bt_drop (l : List UInt8) (i k : Nat) : bt (l.drop i) k = bt l (i + k) := by simp [bt, List.getD_eq_getElem?_getD, List.getElem?_drop]
theorem bt_append {a : List UInt8} (b : List UInt8) {k : Nat} (h : k < a.length) : bt (a ++ b) k = bt a k := by simp [bt, List.getD_eq_getElem?_getD, List.getElem?_append_left h]
theorem bt_take {a : List UInt8} {n k : Nat} (h : k < n) : bt (a.take n) k = bt a k := by simp [bt, List.getD_eq_getElem?_getD, h]
theorem bt_of_ge {l : List UInt8} {k : Nat} (h : l.length ≤ k) : bt l k = 0 := by simp [bt, List.getD_eq_getElem?_getD, List.getElem?_eq_none h]
theorem ne_of_bt {l : List UInt8} {k : Nat} (h : bt l k ≠ 0) : k < l.length := by
  rcases Nat.lt_or_ge k l.length with h1 | h1
  · exact h1
  · exact absurd (bt_of_ge h1) h
theorem ct_append {a : List UInt8} (b : List UInt8) {k : Nat} (h : ct a k = true) : ct (a ++ b) k = true := by
  have h1 := (ct_iff a k).1 h
  rw [ct_iff]
  refine ⟨by rw [List.length_append]; omega, ?_⟩
  rw [bt_append b h1.1]
  exact h1.2
theorem ct_take {a : List UInt8} {n k : Nat} (h : ct a k = true) (hk : k < n) : ct (a.take n) k = true := by
  have h1 := (ct_iff a k).1 h
  rw [ct_iff]
  refine ⟨by rw [List.length_take]; omega, ?_⟩
  rw [bt_take hk]
  exact h1.2
theorem ct_lt {a : List UInt8} {k : Nat} (h : ct a k = true) : k < a.length ∧ 128 ≤ bt a k := by
  have h1 := (ct_iff a k).1 h
  exact ⟨h1.1, by omega⟩

/-- The ways of a rune. -/
theorem runeN_cases (l : List UInt8) : runeN l = 0 ∨ (bt l 0 < 128 ∧ runeN l = 1) ∨ (194 ≤ bt l 0 ∧ bt l 0 < 224 ∧ ct l 1 = true ∧ runeN l = 2) ∨
    (224 ≤ bt l 0 ∧ bt l 0 < 240 ∧ ct l 1 = true ∧ ct l 2 = true ∧ ¬ (bt l 0 = 224 ∧ bt l 1 < 160 ∨ bt l 0 = 237 ∧ 160 ≤ bt l 1) ∧ runeN l = 3) ∨
    (240 ≤ bt l 0 ∧ bt l 0 < 245 ∧ ct l 1 = true ∧ ct l 2 = true ∧ ct l 3 = true ∧ ¬ (bt l 0 = 240 ∧ bt l 1 < 144 ∨ bt l 0 = 244 ∧ 144 ≤ bt l 1) ∧ runeN l = 4) := by
  by_cases h0 : bt l 0 < 128
  · exact .inr (.inl ⟨h0, by simp [runeN, h0]⟩)
  by_cases h1 : 194 ≤ bt l 0 ∧ bt l 0 < 224 ∧ ct l 1 = true
  · exact .inr (.inr (.inl ⟨h1.1, h1.2.1, h1.2.2, by rw [runeN, if_neg h0, if_pos h1]⟩))
  by_cases h2 : 224 ≤ bt l 0 ∧ bt l 0 < 240 ∧ ct l 1 = true ∧ ct l 2 = true
  · by_cases q : bt l 0 = 224 ∧ bt l 1 < 160 ∨ bt l 0 = 237 ∧ 160 ≤ bt l 1
    · exact .inl (by rw [runeN, if_neg h0, if_neg h1, if_pos h2, if_pos q])
    · exact .inr (.inr (.inr (.inl ⟨h2.1, h2.2.1, h2.2.2.1, h2.2.2.2, q, by rw [runeN, if_neg h0, if_neg h1, if_pos h2, if_neg q]⟩)))
  by_cases h3 : 240 ≤ bt l 0 ∧ bt l 0 < 245 ∧ ct l 1 = true ∧ ct l 2 = true ∧ ct l 3 = true
  · by_cases q : bt l 0 = 240 ∧ bt l 1 < 144 ∨ bt l 0 = 244 ∧ 144 ≤ bt l 1
    · exact .inl (by rw [runeN, if_neg h0, if_neg h1, if_neg h2, if_pos h3, if_pos q])
    · exact .inr (.inr (.inr (.inr ⟨h3.1, h3.2.1, h3.2.2.1, h3.2.2.2.1, h3.2.2.2.2, q, by rw [runeN, if_neg h0, if_neg h1, if_neg h2, if_pos h3, if_neg q]⟩)))
  · exact .inl (by rw [runeN, if_neg h0, if_neg h1, if_neg h2, if_neg h3])
theorem runeN_two {l : List UInt8} (h0 : 194 ≤ bt l 0) (h1 : bt l 0 < 224) (c1 : ct l 1 = true) : runeN l = 2 := by
  rw [runeN, if_neg (by omega), if_pos ⟨h0, h1, c1⟩]
theorem runeN_three {l : List UInt8} (h0 : 224 ≤ bt l 0) (h1 : bt l 0 < 240) (c1 : ct l 1 = true) (c2 : ct l 2 = true) (q : ¬ (bt l 0 = 224 ∧ bt l 1 < 160 ∨ bt l 0 = 237 ∧ 160 ≤ bt l 1)) : runeN l = 3 := by
  rw [runeN, if_neg (by omega), if_neg (by omega), if_pos ⟨h0, h1, c1, c2⟩, if_neg q]
theorem runeN_four {l : List UInt8} (h0 : 240 ≤ bt l 0) (h1 : bt l 0 < 245) (c1 : ct l 1 = true) (c2 : ct l 2 = true) (c3 : ct l 3 = true) (q : ¬ (bt l 0 = 240 ∧ bt l 1 < 144 ∨ bt l 0 = 244 ∧ 144 ≤ bt l 1)) : runeN l = 4 := by
  rw [runeN, if_neg (by omega), if_neg (by omega), if_neg (by omega), if_pos ⟨h0, h1, c1, c2, c3⟩, if_neg q]
theorem runeN_one {l : List UInt8} (h0 : bt l 0 < 128) : runeN l = 1 := by rw [runeN, if_pos h0]
/-- A rune's bytes, behind the first one, are above 127; so is that one, if they are more. -/
theorem runeN_high {l : List UInt8} (h : 128 ≤ bt l 0) : ∀ j, j < runeN l → 128 ≤ bt l j := by
  intro j hj
  rcases runeN_cases l with e | ⟨e0, e⟩ | ⟨_, _, c1, e⟩ | ⟨_, _, c1, c2, _, e⟩ | ⟨_, _, c1, c2, c3, _, e⟩
  · omega
  · omega
  · have := (ct_lt c1).2
    rcases (show j = 0 ∨ j = 1 by omega) with rfl | rfl <;> omega
  · have := (ct_lt c1).2; have := (ct_lt c2).2
    rcases (show j = 0 ∨ j = 1 ∨ j = 2 by omega) with rfl | rfl | rfl <;> omega
  · have := (ct_lt c1).2; have := (ct_lt c2).2; have := (ct_lt c3).2
    rcases (show j = 0 ∨ j = 1 ∨ j = 2 ∨ j = 3 by omega) with rfl | rfl | rfl | rfl <;> omega
theorem runeN_append {l : List UInt8} (t : List UInt8) (hl : l ≠ []) (h : runeN l ≠ 0) : runeN (l ++ t) = runeN l := by
  have hp : 0 < l.length := List.length_pos_iff.2 hl
  have e0 := bt_append t hp
  rcases runeN_cases l with e | ⟨a0, e⟩ | ⟨a0, a1, c1, e⟩ | ⟨a0, a1, c1, c2, q, e⟩ | ⟨a0, a1, c1, c2, c3, q, e⟩
  · exact absurd e h
  · rw [e]; exact runeN_one (by rw [e0]; exact a0)
  · rw [e]; exact runeN_two (by rw [e0]; exact a0) (by rw [e0]; exact a1) (ct_append t c1)
  · rw [e]; exact runeN_three (by rw [e0]; exact a0) (by rw [e0]; exact a1) (ct_append t c1) (ct_append t c2) (by rw [e0, bt_append t (ct_lt c1).1]; exact q)
  · rw [e]; exact runeN_four (by rw [e0]; exact a0) (by rw [e0]; exact a1) (ct_append t c1) (ct_append t c2) (ct_append t c3) (by rw [e0, bt_append t (ct_lt c1).1]; exact q)
theorem runeN_take {l : List UInt8} (h : runeN l ≠ 0) : runeN (l.take (runeN l)) = runeN l := by
  have e0 : bt (l.take (runeN l)) 0 = bt l 0 := bt_take (by omega)
  rcases runeN_cases l with e | ⟨a0, e⟩ | ⟨a0, a1, c1, e⟩ | ⟨a0, a1, c1, c2, q, e⟩ | ⟨a0, a1, c1, c2, c3, q, e⟩
  · exact absurd e h
  · rw [e]; rw [e] at e0; exact runeN_one (by rw [e0]; exact a0)
  · rw [e]; rw [e] at e0; exact runeN_two (by rw [e0]; exact a0) (by rw [e0]; exact a1) (ct_take c1 (by omega))
  · rw [e]; rw [e] at e0; exact runeN_three (by rw [e0]; exact a0) (by rw [e0]; exact a1) (ct_take c1 (by omega)) (ct_take c2 (by omega)) (by rw [e0, bt_take (by omega)]; exact q)
  · rw [e]; rw [e] at e0; exact runeN_four (by rw [e0]; exact a0) (by rw [e0]; exact a1) (ct_take c1 (by omega)) (ct_take c2 (by omega)) (ct_take c3 (by omega)) (by rw [e0, bt_take (by omega)]; exact q)

/-! ### numbers of escapes -/
theorem hv_lt {c : UInt8} {d : Nat} (h : hv c = some d) : d < 16 ∧ c.toNat < 128 := by
  unfold hv at h
  split at h
  · injection h; omega
  · split at h
    · injection h; omega
    · split at h
      · injection h; omega
      · cases h
theorem hvs_lt : ∀ (l : List UInt8) (a b : Nat), hvs l a = some b → b < (a + 1) * 16 ^ l.length ∧ ∀ c ∈ l, c.toNat < 128
  | [], a, b, h => by simp [hvs] at h; subst h; simp
  | c :: r, a, b, h => by
    unfold hvs at h
    cases hc : hv c with
    | none => rw [hc] at h; cases h
    | some d =>
      rw [hc] at h
      obtain ⟨h1, h2⟩ := hvs_lt r _ b h
      obtain ⟨h3, h4⟩ := hv_lt hc
      refine ⟨?_, fun x hx => ?_⟩
      · rw [List.length_cons, Nat.pow_succ]
        have : (a * 16 + d + 1) * 16 ^ r.length ≤ ((a + 1) * 16) * 16 ^ r.length := Nat.mul_le_mul_right _ (by omega)
        calc b < _ := h1
          _ ≤ _ := this
          _ = _ := by rw [Nat.mul_assoc, Nat.mul_comm 16]
      · rcases List.mem_cons.1 hx with rfl | hx
        · exact h4
        · exact h2 x hx
theorem un_some {l : List UInt8} {a : Nat} (h : un l = some a) : 6 ≤ l.length ∧ a < 65536 ∧ bt l 0 = 92 ∧ bt l 1 = 117 ∧ ∀ j, j < 6 → bt l j < 128 := by
  unfold un at h
  split at h
  · rename_i hc
    obtain ⟨h1, h2, h3⟩ := hc
    obtain ⟨h4, h5⟩ := hvs_lt _ _ _ h
    have hl : ((l.drop 2).take 4).length = 4 := by simp; omega
    rw [hl] at h4
    refine ⟨h1, by simpa using h4, h2, h3, fun j hj => ?_⟩
    rcases (show j = 0 ∨ j = 1 ∨ 2 ≤ j by omega) with rfl | rfl | hj2
    · omega
    · omega
    · have hm : l[j]'(by omega) ∈ (l.drop 2).take 4 := by
        rw [List.mem_iff_getElem]
        exact ⟨j - 2, by rw [hl]; omega, by simp [show 2 + (j - 2) = j by omega]⟩
      have := h5 _ hm
      unfold bt
      rw [List.getD_eq_getElem?_getD, List.getElem?_eq_getElem (by omega)]
      exact this
  · cases h
theorem un_append {l : List UInt8} {a : Nat} (t : List UInt8) (h : un l = some a) : un (l ++ t) = some a := by
  obtain ⟨h1, _, h2, h3, _⟩ := un_some h
  unfold un at h ⊢
  rw [if_pos ⟨h1, h2, h3⟩] at h
  rw [if_pos ⟨by rw [List.length_append]; omega, by rw [bt_append t (by omega)]; exact h2, by rw [bt_append t (by omega)]; exact h3⟩]
  rw [List.drop_append_of_le_length (by omega), List.take_append_of_le_length (by simp; omega)]
  exact h
theorem sh_some {c x : Nat} (h : sh c = some x) : x < 128 ∧ c < 128 ∧ 34 ≤ c := by
  unfold sh at h
  repeat' (split at h; (injection h; omega))
  cases h
/-- Is it a rune? -/
def ru (n : Nat) : Prop := n < 55296 ∨ 57344 ≤ n ∧ n ≤ 1114111
theorem es_some {l : List UInt8} {r n : Nat} (h : es l = some (r, n)) : n ≤ l.length ∧ ru r ∧ (n = 2 ∧ sh (bt l 1) = some r ∨ n = 6 ∧ r < 65536 ∨ n = 12 ∧ 65536 ≤ r) ∧ ∀ j, 0 < j → j < n → bt l j < 128 := by
  unfold es at h
  split at h
  · cases h
  rename_i hlen
  cases hs : sh (bt l 1) with
  | some x =>
    rw [hs] at h
    injection h with h
    injection h with h1 h2
    subst h1 h2
    obtain ⟨h3, h4, -⟩ := sh_some hs
    exact ⟨by omega, .inl (by omega), .inl ⟨rfl, rfl⟩, fun j h0 hj => by rw [show j = 1 by omega]; exact h4⟩
  | none =>
    rw [hs] at h
    cases hu : un l with
    | none => rw [hu] at h; cases h
    | some a =>
      rw [hu] at h
      obtain ⟨h1, h2, h3, h4, h5⟩ := un_some hu
      simp only at h
      split at h
      · rename_i hc
        injection h with h
        injection h with e1 e2
        subst e1 e2
        exact ⟨h1, by unfold ru; omega, .inr (.inl ⟨rfl, h2⟩), fun j _ hj => h5 j hj⟩
      · rename_i hc
        cases hu2 : un (l.drop 6) with
        | none => rw [hu2] at h; cases h
        | some b =>
          rw [hu2] at h
          obtain ⟨g1, g2, g3, g4, g5⟩ := un_some hu2
          simp only at h
          split at h
          · rename_i hd
            injection h with h
            injection h with e1 e2
            subst e1 e2
            rw [List.length_drop] at g1
            refine ⟨by omega, by unfold ru pr; omega, .inr (.inr ⟨rfl, by unfold pr; omega⟩), fun j _ hj => ?_⟩
            by_cases hj6 : j < 6
            · exact h5 j hj6
            · have := g5 (j - 6) (by omega)
              rw [bt_drop, show 6 + (j - 6) = j by omega] at this
              exact this
          · cases h
theorem es_append {l : List UInt8} {x : Nat × Nat} (t : List UInt8) (h : es l = some x) : es (l ++ t) = some x := by
  unfold es at h ⊢
  split at h
  · cases h
  rename_i hlen
  rw [if_neg (by rw [List.length_append]; omega), bt_append t (by omega)]
  cases hs : sh (bt l 1) with
  | some y => rw [hs] at h; exact h
  | none =>
    rw [hs] at h
    cases hu : un l with
    | none => rw [hu] at h; cases h
    | some a =>
      rw [hu] at h
      rw [un_append t hu]
      obtain ⟨h1, _⟩ := un_some hu
      simp only at h ⊢
      split at h
      · rename_i hc
        rw [if_pos hc]; exact h
      · rename_i hc
        rw [if_neg hc, List.drop_append_of_le_length h1]
        cases hu2 : un (l.drop 6) with
        | none => rw [hu2] at h; cases h
        | some b =>
          rw [hu2] at h
          rw [un_append t hu2]
          exact h

/-! ### what is read -/
theorem tk_some {l p : List UInt8} {n : Nat} (hl : l ≠ []) (h : tk l = some (p, n)) : 1 ≤ n ∧ n ≤ l.length := by
  unfold tk at h
  split at h
  · cases he : es l with
    | none => rw [he] at h; cases h
    | some x =>
      obtain ⟨r, m⟩ := x
      rw [he] at h
      simp at h
      obtain ⟨h1, h2⟩ := h
      obtain ⟨h3, _, h4, _⟩ := es_some he
      omega
  · split at h
    · cases h
    · rename_i hr
      injection h with h
      injection h with e1 e2
      subst e2
      exact ⟨by omega, runeN_le l hl⟩
theorem tk_append {l : List UInt8} {x : List UInt8 × Nat} (t : List UInt8) (hl : l ≠ []) (h : tk l = some x) : tk (l ++ t) = some x := by
  have hp : 0 < l.length := List.length_pos_iff.2 hl
  unfold tk at h ⊢
  rw [bt_append t hp]
  split at h
  · rename_i hb
    rw [if_pos hb]
    cases he : es l with
    | none => rw [he] at h; cases h
    | some y => rw [he] at h; rw [es_append t he]; exact h
  · rename_i hb
    rw [if_neg hb]
    split at h
    · cases h
    · rename_i hr
      have hn : runeN l ≠ 0 := fun e => hr (.inr e)
      rw [runeN_append t hl hn, if_neg hr, List.take_append_of_le_length (runeN_le l hl)]
      exact h
theorem unqF_fuel : ∀ (f g : Nat) (out l : List UInt8) (i : Nat), l.length ≤ f → l.length ≤ g → unqF f out l i = unqF g out l i
  | 0, 0, _, _, _, _, _ => rfl
  | 0, g + 1, out, l, i, hf, _ => by
    have : l = [] := List.eq_nil_of_length_eq_zero (by omega)
    subst this
    simp [unqF]
  | f + 1, 0, out, l, i, _, hg => by
    have : l = [] := List.eq_nil_of_length_eq_zero (by omega)
    subst this
    simp [unqF]
  | f + 1, g + 1, out, l, i, hf, hg => by
    unfold unqF
    by_cases hl : l = []
    · rw [if_pos hl, if_pos hl]
    rw [if_neg hl, if_neg hl]
    split
    · rfl
    · cases ht : tk l with
      | none => rfl
      | some x =>
        obtain ⟨p, n⟩ := x
        obtain ⟨h1, h2⟩ := tk_some hl ht
        exact unqF_fuel f g _ _ _ (by rw [List.length_drop]; omega) (by rw [List.length_drop]; omega)
theorem unq_nil (out : List UInt8) (i : Nat) : unq out [] i = ([], i, 1) := rfl
theorem unq_mark {l : List UInt8} (out : List UInt8) (i : Nat) (hb : bt l 0 = 34) : unq out l i = (out, i + 1, 0) := by
  have hp := ne_of_bt (l := l) (k := 0) (by omega)
  obtain ⟨m, hm⟩ : ∃ m, l.length = m + 1 := ⟨l.length - 1, by omega⟩
  unfold unq
  rw [hm, unqF, if_neg (List.length_pos_iff.1 hp), if_pos hb]
theorem unq_bad {l : List UInt8} (out : List UInt8) (i : Nat) (hb : bt l 0 ≠ 34) (ht : tk l = none) : unq out l i = ([], i, 1) := by
  unfold unq
  cases hm : l.length with
  | zero => rfl
  | succ m => rw [unqF, if_neg (List.length_pos_iff.1 (by omega)), if_neg hb, ht]
theorem unq_step {l p : List UInt8} {n : Nat} (out : List UInt8) (i : Nat) (hl : l ≠ []) (hb : bt l 0 ≠ 34) (ht : tk l = some (p, n)) : unq out l i = unq (out ++ p) (l.drop n) (i + n) := by
  have hp : 0 < l.length := List.length_pos_iff.2 hl
  obtain ⟨h1, h2⟩ := tk_some hl ht
  obtain ⟨m, hm⟩ : ∃ m, l.length = m + 1 := ⟨l.length - 1, by omega⟩
  unfold unq
  rw [hm, unqF, if_neg hl, if_neg hb, ht]
  exact unqF_fuel _ _ _ _ _ (by rw [List.length_drop]; omega) (Nat.le_refl _)
theorem ufpF_fuel : ∀ (f g : Nat) (l : List UInt8) (i : Nat), l.length ≤ f → l.length ≤ g → ufpF f l i = ufpF g l i
  | 0, 0, _, _, _, _ => rfl
  | 0, g + 1, l, i, hf, _ => by
    have : l = [] := List.eq_nil_of_length_eq_zero (by omega)
    subst this
    simp [ufpF]
  | f + 1, 0, l, i, _, hg => by
    have : l = [] := List.eq_nil_of_length_eq_zero (by omega)
    subst this
    simp [ufpF]
  | f + 1, g + 1, l, i, hf, hg => by
    unfold ufpF
    by_cases hl : l = []
    · rw [if_pos hl, if_pos hl]
    rw [if_neg hl, if_neg hl]
    have hp : 0 < l.length := List.length_pos_iff.2 hl
    split
    · rfl
    · exact ufpF_fuel f g _ _ (by rw [List.length_drop]; omega) (by rw [List.length_drop]; omega)
theorem ufp_nil (i : Nat) : ufp [] i = i := rfl
theorem ufp_bad {l : List UInt8} (i : Nat) (h : runeN l = 0) : ufp l i = i := by
  unfold ufp
  cases hm : l.length with
  | zero => rfl
  | succ m => rw [ufpF, if_neg (List.length_pos_iff.1 (by omega)), if_pos h]
theorem ufp_step {l : List UInt8} (i : Nat) (hl : l ≠ []) (h : runeN l ≠ 0) : ufp l i = ufp (l.drop (runeN l)) (i + runeN l) := by
  have hp : 0 < l.length := List.length_pos_iff.2 hl
  obtain ⟨m, hm⟩ : ∃ m, l.length = m + 1 := ⟨l.length - 1, by omega⟩
  unfold ufp
  rw [hm, ufpF, if_neg hl, if_neg h]
  exact ufpF_fuel _ _ _ _ (by rw [List.length_drop]; omega) (Nat.le_refl _)
end Qp
end Go.Proofs.YtdgcdemihalefaaGreatDoor
