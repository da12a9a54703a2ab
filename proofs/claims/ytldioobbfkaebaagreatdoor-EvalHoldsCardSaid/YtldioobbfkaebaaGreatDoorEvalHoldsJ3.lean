/-
  Joined: QuoP, QRef2, QRef3, QMap, Build, ShelfV, QVal.
-/
import Derived.Test.YtldioobbfkaebaaGreatDoorEvalHoldsJ2
import Derived.Lib.RuneBytes
import Derived.Maps.RangeWalk
import Derived.Maps.Ext
import Derived.Shelf.Strings.BuilderK
import Derived.Shelf.Strings.BuilderRune
import Derived.Test.YtldioobbfkaebaaGreatDoorProg
import Derived.Shelf.Unicode.ValidAny
set_option maxHeartbeats 4000000
set_option maxRecDepth 100000
namespace Go.Proofs.YtldioobbfkaebaaGreatDoor
section
namespace Qp
open Go.RowKit Np Up
def hx (n : Nat) : UInt8 := if n < 10 then UInt8.ofNat (48 + n) else UInt8.ofNat (87 + n)
def wr (c : UInt8) : List UInt8 :=
 if c.toNat = 34 then [92, 34] else if c.toNat = 92 then [92, 92] else if c.toNat = 8 then [92, 98] else if c.toNat = 12 then [92, 102] else if c.toNat = 10 then [92, 110] else if c.toNat = 13 then [92, 114] else if c.toNat = 9 then [92, 116]
 else if c.toNat < 32 then [92, 117, 48, 48, hx (c.toNat / 16), hx (c.toNat % 16)] else [c]
def wrs (l : List UInt8) : List UInt8 := l.flatMap wr
def quo (l : List UInt8) : List UInt8 := 34 :: (wrs l ++ [34])
def hv (c : UInt8) : Option Nat :=
 if 48 ≤ c.toNat ∧ c.toNat ≤ 57 then some (c.toNat - 48) else if 97 ≤ c.toNat ∧ c.toNat ≤ 102 then some (c.toNat - 87) else if 65 ≤ c.toNat ∧ c.toNat ≤ 70 then some (c.toNat - 55) else none
def hvs : List UInt8 → Nat → Option Nat
 | [], a => some a
 | c :: r, a => match hv c with
  | some d => hvs r (a * 16 + d)
  | none => none
def un (l : List UInt8) : Option Nat := if 6 ≤ l.length ∧ bt l 0 = 92 ∧ bt l 1 = 117 then hvs ((l.drop 2).take 4) 0 else none
def sh (c : Nat) : Option Nat :=
 if c = 34 then some 34 else if c = 92 then some 92 else if c = 47 then some 47 else if c = 98 then some 8 else if c = 102 then some 12 else if c = 110 then some 10 else if c = 114 then some 13 else if c = 116 then some 9 else none
def pr (a b : Nat) : Nat := 65536 + 1024 * (a - 55296) + (b - 56320)
def es (l : List UInt8) : Option (Nat × Nat) :=
 if l.length < 2 then none else
 match sh (bt l 1) with
 | some x => some (x, 2)
 | none => match un l with
  | none => none
  | some a => if a < 55296 ∨ 57344 ≤ a then some (a, 6) else
   match un (l.drop 6) with
   | none => none
   | some b => if a < 56320 ∧ 56320 ≤ b ∧ b < 57344 then some (pr a b, 12) else none
def tk (l : List UInt8) : Option (List UInt8 × Nat) :=
 if bt l 0 = 92 then (es l).map fun x => (Lib.encodeRune (x.1 : Int), x.2)
 else if bt l 0 < 32 ∨ runeN l = 0 then none else some (l.take (runeN l), runeN l)
def unqF : Nat → List UInt8 → List UInt8 → Nat → List UInt8 × Nat × Int
 | 0, _, _, i => ([], i, 1)
 | f + 1, out, l, i => if l = [] then ([], i, 1) else if bt l 0 = 34 then (out, i + 1, 0) else
  match tk l with
  | none => ([], i, 1)
  | some (p, n) => unqF f (out ++ p) (l.drop n) (i + n)
def unq (out l : List UInt8) (i : Nat) : List UInt8 × Nat × Int := unqF l.length out l i
def unqs (l : List UInt8) : List UInt8 × Nat × Int := if bt l 0 = 34 then unq [] (l.drop 1) 1 else ([], 0, 1)
theorem bt_cons (c : UInt8) (r : List UInt8) : bt (c :: r) 0 = c.toNat := rfl
theorem bt_succ (c : UInt8) (r : List UInt8) (k : Nat) : bt (c :: r) (k + 1) = bt r k := by simp [bt]
theorem bt_drop (l : List UInt8) (i k : Nat) : bt (l.drop i) k = bt l (i + k) := by simp [bt, List.getD_eq_getElem?_getD, List.getElem?_drop]
theorem bt_append {a : List UInt8} (b : List UInt8) {k : Nat} (h : k < a.length) : bt (a ++ b) k = bt a k := by simp [bt, List.getD_eq_getElem?_getD, List.getElem?_append_left h]
theorem bt_take {a : List UInt8} {n k : Nat} (h : k < n) : bt (a.take n) k = bt a k := by simp [bt, List.getD_eq_getElem?_getD, h]
theorem bt_of_ge {l : List UInt8} {k : Nat} (h : l.length ≤ k) : bt l k = 0 := by simp [bt, List.getD_eq_getElem?_getD, List.getElem?_eq_none h]
theorem ne_of_bt {l : List UInt8} {k : Nat} (h : bt l k ≠ 0) : k < l.length := by
 rcases Nat.lt_or_ge k l.length with h1 | h1
 ·exact h1
 ·exact absurd (bt_of_ge h1) h
theorem ct_append {a : List UInt8} (b : List UInt8) {k : Nat} (h : ct a k = true) : ct (a ++ b) k = true := by
 have h1 := (ct_iff a k).1 h
 rw [ct_iff]
 refine ⟨by rw [List.length_append]; omega, ?_⟩
 rw [bt_append b h1.1]
 exact h1.2
theorem ct_take {a : List UInt8} {n k : Nat} (h : ct a k = true) (hk : k < n) : ct (a.take n) k = true := by
 have h1 := (ct_iff a k).1 h
 rw [ct_iff]
 refine ⟨by rw [List.length_take]; omega, ?_⟩
 rw [bt_take hk]
 exact h1.2
theorem ct_lt {a : List UInt8} {k : Nat} (h : ct a k = true) : k < a.length ∧ 128 ≤ bt a k := by
 have h1 := (ct_iff a k).1 h
 exact ⟨h1.1, by omega⟩
theorem runeN_cases (l : List UInt8) : runeN l = 0 ∨ (bt l 0 < 128 ∧ runeN l = 1) ∨ (194 ≤ bt l 0 ∧ bt l 0 < 224 ∧ ct l 1 = true ∧ runeN l = 2) ∨
  (224 ≤ bt l 0 ∧ bt l 0 < 240 ∧ ct l 1 = true ∧ ct l 2 = true ∧ ¬ (bt l 0 = 224 ∧ bt l 1 < 160 ∨ bt l 0 = 237 ∧ 160 ≤ bt l 1) ∧ runeN l = 3) ∨
  (240 ≤ bt l 0 ∧ bt l 0 < 245 ∧ ct l 1 = true ∧ ct l 2 = true ∧ ct l 3 = true ∧ ¬ (bt l 0 = 240 ∧ bt l 1 < 144 ∨ bt l 0 = 244 ∧ 144 ≤ bt l 1) ∧ runeN l = 4) := by
 by_cases h0 : bt l 0 < 128
 ·exact .inr (.inl ⟨h0, by simp [runeN, h0]⟩)
 by_cases h1 : 194 ≤ bt l 0 ∧ bt l 0 < 224 ∧ ct l 1 = true
 ·exact .inr (.inr (.inl ⟨h1.1, h1.2.1, h1.2.2, by rw [runeN, if_neg h0, if_pos h1]⟩))
 by_cases h2 : 224 ≤ bt l 0 ∧ bt l 0 < 240 ∧ ct l 1 = true ∧ ct l 2 = true
 ·by_cases q : bt l 0 = 224 ∧ bt l 1 < 160 ∨ bt l 0 = 237 ∧ 160 ≤ bt l 1
  ·exact .inl (by rw [runeN, if_neg h0, if_neg h1, if_pos h2, if_pos q])
  ·exact .inr (.inr (.inr (.inl ⟨h2.1, h2.2.1, h2.2.2.1, h2.2.2.2, q, by rw [runeN, if_neg h0, if_neg h1, if_pos h2, if_neg q]⟩)))
 by_cases h3 : 240 ≤ bt l 0 ∧ bt l 0 < 245 ∧ ct l 1 = true ∧ ct l 2 = true ∧ ct l 3 = true
 ·by_cases q : bt l 0 = 240 ∧ bt l 1 < 144 ∨ bt l 0 = 244 ∧ 144 ≤ bt l 1
  ·exact .inl (by rw [runeN, if_neg h0, if_neg h1, if_neg h2, if_pos h3, if_pos q])
  ·exact .inr (.inr (.inr (.inr ⟨h3.1, h3.2.1, h3.2.2.1, h3.2.2.2.1, h3.2.2.2.2, q, by rw [runeN, if_neg h0, if_neg h1, if_neg h2, if_pos h3, if_neg q]⟩)))
 ·exact .inl (by rw [runeN, if_neg h0, if_neg h1, if_neg h2, if_neg h3])
theorem runeN_two {l : List UInt8} (h0 : 194 ≤ bt l 0) (h1 : bt l 0 < 224) (c1 : ct l 1 = true) : runeN l = 2 := by
 rw [runeN, if_neg (by omega), if_pos ⟨h0, h1, c1⟩]
theorem runeN_three {l : List UInt8} (h0 : 224 ≤ bt l 0) (h1 : bt l 0 < 240) (c1 : ct l 1 = true) (c2 : ct l 2 = true) (q : ¬ (bt l 0 = 224 ∧ bt l 1 < 160 ∨ bt l 0 = 237 ∧ 160 ≤ bt l 1)) : runeN l = 3 := by
 rw [runeN, if_neg (by omega), if_neg (by omega), if_pos ⟨h0, h1, c1, c2⟩, if_neg q]
theorem runeN_four {l : List UInt8} (h0 : 240 ≤ bt l 0) (h1 : bt l 0 < 245) (c1 : ct l 1 = true) (c2 : ct l 2 = true) (c3 : ct l 3 = true) (q : ¬ (bt l 0 = 240 ∧ bt l 1 < 144 ∨ bt l 0 = 244 ∧ 144 ≤ bt l 1)) : runeN l = 4 := by
 rw [runeN, if_neg (by omega), if_neg (by omega), if_neg (by omega), if_pos ⟨h0, h1, c1, c2, c3⟩, if_neg q]
theorem runeN_one {l : List UInt8} (h0 : bt l 0 < 128) : runeN l = 1 := by rw [runeN, if_pos h0]
theorem runeN_high {l : List UInt8} (h : 128 ≤ bt l 0) : ∀ j, j < runeN l → 128 ≤ bt l j := by
 intro j hj
 rcases runeN_cases l with e | ⟨e0, e⟩ | ⟨_, _, c1, e⟩ | ⟨_, _, c1, c2, _, e⟩ | ⟨_, _, c1, c2, c3, _, e⟩
 ·omega
 ·omega
 ·have := (ct_lt c1).2
  rcases (show j = 0 ∨ j = 1 by omega) with rfl | rfl <;> omega
 ·have := (ct_lt c1).2; have := (ct_lt c2).2
  rcases (show j = 0 ∨ j = 1 ∨ j = 2 by omega) with rfl | rfl | rfl <;> omega
 ·have := (ct_lt c1).2; have := (ct_lt c2).2; have := (ct_lt c3).2
  rcases (show j = 0 ∨ j = 1 ∨ j = 2 ∨ j = 3 by omega) with rfl | rfl | rfl | rfl <;> omega
theorem runeN_append {l : List UInt8} (t : List UInt8) (hl : l ≠ []) (h : runeN l ≠ 0) : runeN (l ++ t) = runeN l := by
 have hp : 0 < l.length := List.length_pos_iff.2 hl
 have e0 := bt_append t hp
 rcases runeN_cases l with e | ⟨a0, e⟩ | ⟨a0, a1, c1, e⟩ | ⟨a0, a1, c1, c2, q, e⟩ | ⟨a0, a1, c1, c2, c3, q, e⟩
 ·exact absurd e h
 ·rw [e]; exact runeN_one (by rw [e0]; exact a0)
 ·rw [e]; exact runeN_two (by rw [e0]; exact a0) (by rw [e0]; exact a1) (ct_append t c1)
 ·rw [e]; exact runeN_three (by rw [e0]; exact a0) (by rw [e0]; exact a1) (ct_append t c1) (ct_append t c2) (by rw [e0, bt_append t (ct_lt c1).1]; exact q)
 ·rw [e]; exact runeN_four (by rw [e0]; exact a0) (by rw [e0]; exact a1) (ct_append t c1) (ct_append t c2) (ct_append t c3) (by rw [e0, bt_append t (ct_lt c1).1]; exact q)
theorem runeN_take {l : List UInt8} (h : runeN l ≠ 0) : runeN (l.take (runeN l)) = runeN l := by
 have e0 : bt (l.take (runeN l)) 0 = bt l 0 := bt_take (by omega)
 rcases runeN_cases l with e | ⟨a0, e⟩ | ⟨a0, a1, c1, e⟩ | ⟨a0, a1, c1, c2, q, e⟩ | ⟨a0, a1, c1, c2, c3, q, e⟩
 ·exact absurd e h
 ·rw [e]; rw [e] at e0; exact runeN_one (by rw [e0]; exact a0)
 ·rw [e]; rw [e] at e0; exact runeN_two (by rw [e0]; exact a0) (by rw [e0]; exact a1) (ct_take c1 (by omega))
 ·rw [e]; rw [e] at e0; exact runeN_three (by rw [e0]; exact a0) (by rw [e0]; exact a1) (ct_take c1 (by omega)) (ct_take c2 (by omega)) (by rw [e0, bt_take (by omega)]; exact q)
 ·rw [e]; rw [e] at e0; exact runeN_four (by rw [e0]; exact a0) (by rw [e0]; exact a1) (ct_take c1 (by omega)) (ct_take c2 (by omega)) (ct_take c3 (by omega)) (by rw [e0, bt_take (by omega)]; exact q)
theorem hv_lt {c : UInt8} {d : Nat} (h : hv c = some d) : d < 16 ∧ c.toNat < 128 := by
 unfold hv at h
 split at h
 ·injection h; omega
 ·split at h
  ·injection h; omega
  ·split at h
   ·injection h; omega
   ·cases h
theorem hvs_lt : ∀ (l : List UInt8) (a b : Nat), hvs l a = some b → b < (a + 1) * 16 ^ l.length ∧ ∀ c ∈ l, c.toNat < 128
 | [], a, b, h => by simp [hvs] at h; subst h; simp
 | c :: r, a, b, h => by
  unfold hvs at h
  cases hc : hv c with
  | none => rw [hc] at h; cases h
  | some d =>
   rw [hc] at h
   obtain ⟨h1, h2⟩ := hvs_lt r _ b h
   obtain ⟨h3, h4⟩ := hv_lt hc
   refine ⟨?_, fun x hx => ?_⟩
   ·rw [List.length_cons, Nat.pow_succ]
    have : (a * 16 + d + 1) * 16 ^ r.length ≤ ((a + 1) * 16) * 16 ^ r.length := Nat.mul_le_mul_right _ (by omega)
    calc b < _ := h1
     _ ≤ _ := this
     _ = _ := by rw [Nat.mul_assoc, Nat.mul_comm 16]
   ·rcases List.mem_cons.1 hx with rfl | hx
    ·exact h4
    ·exact h2 x hx
theorem un_some {l : List UInt8} {a : Nat} (h : un l = some a) : 6 ≤ l.length ∧ a < 65536 ∧ bt l 0 = 92 ∧ bt l 1 = 117 ∧ ∀ j, j < 6 → bt l j < 128 := by
 unfold un at h
 split at h
 ·rename_i hc
  obtain ⟨h1, h2, h3⟩ := hc
  obtain ⟨h4, h5⟩ := hvs_lt _ _ _ h
  have hl : ((l.drop 2).take 4).length = 4 := by simp; omega
  rw [hl] at h4
  refine ⟨h1, by simpa using h4, h2, h3, fun j hj => ?_⟩
  rcases (show j = 0 ∨ j = 1 ∨ 2 ≤ j by omega) with rfl | rfl | hj2
  ·omega
  ·omega
  ·have hm : l[j]'(by omega) ∈ (l.drop 2).take 4 := by
    rw [List.mem_iff_getElem]
    exact ⟨j - 2, by rw [hl]; omega, by simp [show 2 + (j - 2) = j by omega]⟩
   have := h5 _ hm
   unfold bt
   rw [List.getD_eq_getElem?_getD, List.getElem?_eq_getElem (by omega)]
   exact this
 ·cases h
theorem un_append {l : List UInt8} {a : Nat} (t : List UInt8) (h : un l = some a) : un (l ++ t) = some a := by
 obtain ⟨h1, _, h2, h3, _⟩ := un_some h
 unfold un at h ⊢
 rw [if_pos ⟨h1, h2, h3⟩] at h
 rw [if_pos ⟨by rw [List.length_append]; omega, by rw [bt_append t (by omega)]; exact h2, by rw [bt_append t (by omega)]; exact h3⟩]
 rw [List.drop_append_of_le_length (by omega), List.take_append_of_le_length (by simp; omega)]
 exact h
theorem sh_some {c x : Nat} (h : sh c = some x) : x < 128 ∧ c < 128 ∧ 34 ≤ c := by
 unfold sh at h
 repeat' (split at h; (injection h; omega))
 cases h
def ru (n : Nat) : Prop := n < 55296 ∨ 57344 ≤ n ∧ n ≤ 1114111
theorem es_some {l : List UInt8} {r n : Nat} (h : es l = some (r, n)) : n ≤ l.length ∧ ru r ∧ (n = 2 ∧ sh (bt l 1) = some r ∨ n = 6 ∧ r < 65536 ∨ n = 12 ∧ 65536 ≤ r) ∧ ∀ j, 0 < j → j < n → bt l j < 128 := by
 unfold es at h
 split at h
 ·cases h
 rename_i hlen
 cases hs : sh (bt l 1) with
 | some x =>
  rw [hs] at h
  injection h with h
  injection h with h1 h2
  subst h1 h2
  obtain ⟨h3, h4, -⟩ := sh_some hs
  exact ⟨by omega, .inl (by omega), .inl ⟨rfl, rfl⟩, fun j h0 hj => by rw [show j = 1 by omega]; exact h4⟩
 | none =>
  rw [hs] at h
  cases hu : un l with
  | none => rw [hu] at h; cases h
  | some a =>
   rw [hu] at h
   obtain ⟨h1, h2, h3, h4, h5⟩ := un_some hu
   simp only at h
   split at h
   ·rename_i hc
    injection h with h
    injection h with e1 e2
    subst e1 e2
    exact ⟨h1, by unfold ru; omega, .inr (.inl ⟨rfl, h2⟩), fun j _ hj => h5 j hj⟩
   ·rename_i hc
    cases hu2 : un (l.drop 6) with
    | none => rw [hu2] at h; cases h
    | some b =>
     rw [hu2] at h
     obtain ⟨g1, g2, g3, g4, g5⟩ := un_some hu2
     simp only at h
     split at h
     ·rename_i hd
      injection h with h
      injection h with e1 e2
      subst e1 e2
      rw [List.length_drop] at g1
      refine ⟨by omega, by unfold ru pr; omega, .inr (.inr ⟨rfl, by unfold pr; omega⟩), fun j _ hj => ?_⟩
      by_cases hj6 : j < 6
      ·exact h5 j hj6
      ·have := g5 (j - 6) (by omega)
       rw [bt_drop, show 6 + (j - 6) = j by omega] at this
       exact this
     ·cases h
theorem es_append {l : List UInt8} {x : Nat × Nat} (t : List UInt8) (h : es l = some x) : es (l ++ t) = some x := by
 unfold es at h ⊢
 split at h
 ·cases h
 rename_i hlen
 rw [if_neg (by rw [List.length_append]; omega), bt_append t (by omega)]
 cases hs : sh (bt l 1) with
 | some y => rw [hs] at h; exact h
 | none =>
  rw [hs] at h
  cases hu : un l with
  | none => rw [hu] at h; cases h
  | some a =>
   rw [hu] at h
   rw [un_append t hu]
   obtain ⟨h1, _⟩ := un_some hu
   simp only at h ⊢
   split at h
   ·rename_i hc
    rw [if_pos hc]; exact h
   ·rename_i hc
    rw [if_neg hc, List.drop_append_of_le_length h1]
    cases hu2 : un (l.drop 6) with
    | none => rw [hu2] at h; cases h
    | some b =>
     rw [hu2] at h
     rw [un_append t hu2]
     exact h
theorem tk_some {l p : List UInt8} {n : Nat} (hl : l ≠ []) (h : tk l = some (p, n)) : 1 ≤ n ∧ n ≤ l.length := by
 unfold tk at h
 split at h
 ·cases he : es l with
  | none => rw [he] at h; cases h
  | some x =>
   obtain ⟨r, m⟩ := x
   rw [he] at h
   simp at h
   obtain ⟨h1, h2⟩ := h
   obtain ⟨h3, _, h4, _⟩ := es_some he
   omega
 ·split at h
  ·cases h
  ·rename_i hr
   injection h with h
   injection h with e1 e2
   subst e2
   exact ⟨by omega, runeN_le l hl⟩
theorem tk_append {l : List UInt8} {x : List UInt8 × Nat} (t : List UInt8) (hl : l ≠ []) (h : tk l = some x) : tk (l ++ t) = some x := by
 have hp : 0 < l.length := List.length_pos_iff.2 hl
 unfold tk at h ⊢
 rw [bt_append t hp]
 split at h
 ·rename_i hb
  rw [if_pos hb]
  cases he : es l with
  | none => rw [he] at h; cases h
  | some y => rw [he] at h; rw [es_append t he]; exact h
 ·rename_i hb
  rw [if_neg hb]
  split at h
  ·cases h
  ·rename_i hr
   have hn : runeN l ≠ 0 := fun e => hr (.inr e)
   rw [runeN_append t hl hn, if_neg hr, List.take_append_of_le_length (runeN_le l hl)]
   exact h
theorem unqF_fuel : ∀ (f g : Nat) (out l : List UInt8) (i : Nat), l.length ≤ f → l.length ≤ g → unqF f out l i = unqF g out l i
 | 0, 0, _, _, _, _, _ => rfl
 | 0, g + 1, out, l, i, hf, _ => by
  have : l = [] := List.eq_nil_of_length_eq_zero (by omega)
  subst this
  simp [unqF]
 | f + 1, 0, out, l, i, _, hg => by
  have : l = [] := List.eq_nil_of_length_eq_zero (by omega)
  subst this
  simp [unqF]
 | f + 1, g + 1, out, l, i, hf, hg => by
  unfold unqF
  by_cases hl : l = []
  ·rw [if_pos hl, if_pos hl]
  rw [if_neg hl, if_neg hl]
  split
  ·rfl
  ·cases ht : tk l with
   | none => rfl
   | some x =>
    obtain ⟨p, n⟩ := x
    obtain ⟨h1, h2⟩ := tk_some hl ht
    exact unqF_fuel f g _ _ _ (by rw [List.length_drop]; omega) (by rw [List.length_drop]; omega)
theorem unq_nil (out : List UInt8) (i : Nat) : unq out [] i = ([], i, 1) := rfl
theorem unq_mark {l : List UInt8} (out : List UInt8) (i : Nat) (hb : bt l 0 = 34) : unq out l i = (out, i + 1, 0) := by
 have hp := ne_of_bt (l := l) (k := 0) (by omega)
 obtain ⟨m, hm⟩ : ∃ m, l.length = m + 1 := ⟨l.length - 1, by omega⟩
 unfold unq
 rw [hm, unqF, if_neg (List.length_pos_iff.1 hp), if_pos hb]
theorem unq_bad {l : List UInt8} (out : List UInt8) (i : Nat) (hb : bt l 0 ≠ 34) (ht : tk l = none) : unq out l i = ([], i, 1) := by
 unfold unq
 cases hm : l.length with
 | zero => rfl
 | succ m => rw [unqF, if_neg (List.length_pos_iff.1 (by omega)), if_neg hb, ht]
theorem unq_step {l p : List UInt8} {n : Nat} (out : List UInt8) (i : Nat) (hl : l ≠ []) (hb : bt l 0 ≠ 34) (ht : tk l = some (p, n)) : unq out l i = unq (out ++ p) (l.drop n) (i + n) := by
 have hp : 0 < l.length := List.length_pos_iff.2 hl
 obtain ⟨h1, h2⟩ := tk_some hl ht
 obtain ⟨m, hm⟩ : ∃ m, l.length = m + 1 := ⟨l.length - 1, by omega⟩
 unfold unq
 rw [hm, unqF, if_neg hl, if_neg hb, ht]
 exact unqF_fuel _ _ _ _ _ (by rw [List.length_drop]; omega) (Nat.le_refl _)
end Qp
end
section
open Go.RowKit Np Up Qp
theorem hx_all : ∀ n : Fin 16, (ByteArray.mk #[48, 49, 50, 51, 52, 53, 54, 55, 56, 57, 97, 98, 99, 100, 101, 102]).extract n.val (n.val + 1) = ⟨[hx n.val].toArray⟩ := by decide +kernel
theorem refHex_any (n : Nat) (w : World) (hn : n < 16) :
  Calls Tryz.prog 76 #[.int .i64 n] w fun e w' => e = .returned (.string ⟨[hx n].toArray⟩) ∧ w = w' := by
 have hx' : Hid ((ByteArray.mk #[48, 49, 50, 51, 52, 53, 54, 55, 56, 57, 97, 98, 99, 100, 101, 102]).extract n (n + 1) = ⟨[hx n].toArray⟩) := Lib.hid (hx_all ⟨n, hn⟩)
 go_enter Tryz.func76, Tryz.ntmps76
 go_wp2_with fail
 all_goals go_ret
 refine ⟨ret_str ?_, rfl⟩
 exact hx'.out
theorem refHex_int (n : Int) (w : World) (h0 : 0 ≤ n) (h1 : n < 16) :
  Calls Tryz.prog 76 #[.int .i64 n] w fun e w' => e = .returned (.string ⟨#[hx n.toNat]⟩) ∧ w = w' := by
 obtain ⟨k, rfl⟩ := Int.eq_ofNat_of_zero_le h0
 exact refHex_any k w (by omega)
theorem wr_plain {c : UInt8} (h0 : c.toNat ≠ 34) (h1 : c.toNat ≠ 92) (h2 : 32 ≤ c.toNat) : wr c = [c] := by
 unfold wr
 rw [if_neg h0, if_neg h1, if_neg (by omega), if_neg (by omega), if_neg (by omega), if_neg (by omega), if_neg (by omega), if_neg (by omega)]
theorem wr_b (c : UInt8) : wr c = if ((c.toNat : Int) == 34) = true then [92, 34] else if ((c.toNat : Int) == 92) = true then [92, 92] else if ((c.toNat : Int) == 8) = true then [92, 98] else if ((c.toNat : Int) == 12) = true then [92, 102]
  else if ((c.toNat : Int) == 10) = true then [92, 110] else if ((c.toNat : Int) == 13) = true then [92, 114] else if ((c.toNat : Int) == 9) = true then [92, 116] else if (c.toNat : Int) < 32 then [92, 117, 48, 48, hx (c.toNat / 16), hx (c.toNat % 16)] else [c] := by
 unfold wr
 simp only [beq_iff_eq]
 norm_cast
theorem refWritten_any (c : UInt8) (w : World) :
  Calls Tryz.prog 45 #[.int .u8 c.toNat] w fun e w' => e = .returned (.string ⟨(wr c).toArray⟩) ∧ Below w.heap.size w w' := by
 have hc : c.toNat < 256 := c.toNat_lt
 have hB : Below w.heap.size w w := Below.refl _ _
 have hcv := any_byte (w.alloc (.cells #[.int .u8 (c.toNat : Int)] 5)) w.heap.size c.toNat (by simp)
 generalize hW : wr c = W
 go_enter Tryz.func45, Tryz.ntmps45
 go_wp2_with (go_at_call 76; refine (refHex_int _ _ (by omega) (by omega)).mono ?_; rintro e w' ⟨rfl, rfl⟩)
 all_goals go_ret
 all_goals subst hW
 all_goals clear hcv
 all_goals (refine ⟨ret_str ?_, ?_⟩)
 all_goals (first | exact hB | exact hB.alloc (Nat.le_refl _) _ | skip)
 all_goals go_light
 all_goals rw [wr_b]
 all_goals (simp only [*, if_true, Bool.false_eq_true, if_false])
 all_goals (first | rfl | rw [if_neg (by omega)])
theorem wr_len (c : UInt8) : 1 ≤ (wr c).length ∧ (wr c).length ≤ 6 := by
 unfold wr
 repeat' split
 all_goals simp
theorem wrs_len : ∀ l : List UInt8, l.length ≤ (wrs l).length ∧ (wrs l).length ≤ 6 * l.length
 | [] => by simp [wrs]
 | c :: r => by
  have h1 := wrs_len r
  have h2 := wr_len c
  have e : wrs (c :: r) = wr c ++ wrs r := by simp [wrs]
  rw [e, List.length_append, List.length_cons]
  omega
theorem wrs_snoc (l : List UInt8) (k : Nat) (h : k < l.length) : wrs (l.take (k + 1)) = wrs (l.take k) ++ wr l[k] := by
 unfold wrs
 rw [List.take_succ_eq_append_getElem h, List.flatMap_append]
 simp only [List.flatMap_cons, List.flatMap_nil, List.append_nil]
theorem refQuote_any (s : ByteArray) (w : World) (hs : s.size ≤ 140737488355328) :
  Calls Tryz.prog 21 #[.string s] w fun e w' => e = .returned (.string ⟨(quo s.data.toList).toArray⟩) ∧ Below w.heap.size w w' := by
 have hB : Below w.heap.size w w := Below.refl _ _
 go_enter Tryz.func21, Tryz.ntmps21
 go_wp2
 go_loopw [3, 4] (fun o i wx => ∃ k : Nat, k ≤ s.size ∧ i = .int .i64 k ∧ o = .string ⟨(34 :: wrs (s.data.toList.take k)).toArray⟩ ∧ Below w.heap.size w wx) (fun _ i _ => s.size - (intOf i).toNat)
 case atStart => exact ⟨0, Nat.zero_le _, rfl, rfl, hB⟩
 case round =>
  obtain ⟨k, hk, rfl, rfl, hb⟩ := hrel
  have hls := (wrs_len (s.data.toList.take k)).2
  rw [List.length_take, size_toList] at hls
  by_cases hlt : k < s.size
  ·have HS := Lib.hid (wrs_snoc s.data.toList k (by simpa using hlt))
   have hl2 := (wr_len s[k]).2
   go_wp2_with (go_at_call 45; refine (refWritten_any _ _).mono ?_; rintro e w' ⟨rfl, hb2⟩)
   go_roundw
   case rel =>
    refine ⟨k + 1, by omega, by go_num, ?_, hb.trans (hb2.mono hb.size)⟩
    rw [HS.out]
    rfl
   case measure => simp [intOf]; omega
  ·have HC : Hid (s.data.toList.take k = s.data.toList) := Lib.hid (List.take_of_length_le (by simp; omega))
   go_wp2
   go_ret
   refine ⟨ret_str ?_, hb⟩
   rw [HC.out]
   rfl
end
section
open Go.RowKit Np Up Qp
theorem bt_at (s : ByteArray) (k : Nat) (h : k < s.size) : bt s.data.toList k = s[k].toNat := by
 have := bt_get s 0 k (by omega)
 simp only [Nat.zero_add, List.drop_zero] at this
 exact this.symm
theorem bt_at' (s : ByteArray) (k j : Nat) (h : k + j < s.size) : bt (s.data.toList.drop k) j = s[k + j].toNat := (bt_get s k j h).symm
def Bd (j : Nat) (a : Nat) : Prop := j = 0 ∧ a = 0 ∨ j = 1 ∧ a < 16 ∨ j = 2 ∧ a < 256 ∨ j = 3 ∧ a < 4096 ∨ j = 4 ∧ a < 65536
theorem Bd.step {j a d : Nat} (h : Bd j a) (hj : j < 4) (hd : d < 16) : Bd (j + 1) (a * 16 + d) := by
 unfold Bd at *
 omega
theorem Bd.le {j a : Nat} (h : Bd j a) : a < 65536 := by
 unfold Bd at h
 omega
theorem hvs_none {c : UInt8} {r : List UInt8} {a : Nat} (h : hv c = none) : hvs (c :: r) a = none := by rw [hvs, h]
theorem hvs_step {c : UInt8} {r : List UInt8} {a d : Nat} (h : hv c = some d) : hvs (c :: r) a = hvs r (a * 16 + d) := by rw [hvs, h]
def unI : Option Nat → Int
 | some a => a
 | none => -1
theorem refUnit_any (s : ByteArray) (i : Nat) (w : World) (hs : s.size ≤ 1073741824) (hi : i ≤ 4294967296) :
  Calls Tryz.prog 246 #[.string s, .int .i64 i] w fun e w' => e = .returned (.int .i64 (unI (un (s.data.toList.drop i)))) ∧ w = w' := by
 by_cases h6 : i + 6 ≤ s.size
 ·have hb0 : bt (s.data.toList.drop i) 0 = s[i].toNat := bt_at' s i 0 (by omega)
  have hb1 := bt_at' s i 1 (by omega)
  by_cases hc : s[i].toNat = 92 ∧ s[i + 1].toNat = 117
  ·obtain ⟨c0, c1⟩ := hc
   have HU : Hid (un (s.data.toList.drop i) = hvs (((s.data.toList.drop i).drop 2).take 4) 0) := Lib.hid (by
    rw [un, if_pos ⟨by simp; omega, by rw [hb0, c0], by rw [hb1, c1]⟩])
   have hD : ((((s.data.toList.drop i).drop 2).take 4)).length = 4 := by simp; omega
   have hDg : ∀ (m : Nat) (h0 : i + 2 ≤ m) (hm : m < i + 6), ((((s.data.toList.drop i).drop 2).take 4))[m - (i + 2)]'(by rw [hD]; omega) = s[m]'(by omega) := by
    intro m h0 hm
    simp only [List.getElem_take, List.getElem_drop]
    show s.data.toList[_]'_ = s.data.toList[m]'_
    congr 1
    omega
   generalize ((s.data.toList.drop i).drop 2).take 4 = D at HU hD hDg
   have hlast : D.drop (i + 6 - (i + 2)) = [] := List.drop_of_length_le (by omega)
   clear hb0 hb1
   go_enter Tryz.func246, Tryz.ntmps246
   go_wp2
   go_loop [5, 6] (fun n k => ∃ m acc : Nat, i + 2 ≤ m ∧ m ≤ i + 6 ∧ n = .int .i64 acc ∧ k = .int .i64 m ∧ Hid (hvs (D.drop (m - (i + 2))) acc = hvs D 0) ∧ Bd (m - (i + 2)) acc) (fun _ k => i + 6 - (intOf k).toNat)
   case atStart => exact ⟨i + 2, 0, by omega, by omega, rfl, by go_num, Lib.hid (by simp), .inl ⟨by omega, rfl⟩⟩
   case round =>
    obtain ⟨m, acc, hm0, hm1, rfl, rfl, hH, hbd⟩ := hrel
    have hacc := hbd.le
    by_cases hm : m < i + 6
    ·have hms : m < s.size := by omega
     have hdr : D.drop (m - (i + 2)) = s[m] :: D.drop (m + 1 - (i + 2)) := by
      rw [← hDg m hm0 hm, show m + 1 - (i + 2) = m - (i + 2) + 1 by omega]; exact List.drop_eq_getElem_cons (by omega)
     have HX := hH.out
     rw [hdr] at HX
     clear hdr hDg hH
     have hc256 : s[m].toNat < 256 := s[m].toNat_lt
     by_cases r1 : 48 ≤ s[m].toNat ∧ s[m].toNat ≤ 57
     ·have hd : hv s[m] = some (s[m].toNat - 48) := by rw [hv, if_pos r1]
      rw [hvs_step hd] at HX
      have HX' := Lib.hid HX
      have hb' := hbd.step (by omega) (show s[m].toNat - 48 < 16 by omega)
      rw [show m - (i + 2) + 1 = m + 1 - (i + 2) by omega] at hb'
      clear HX hd hbd
      obtain ⟨r1a, r1b⟩ := r1
      go_wp2
      go_round
      case rel => exact ⟨m + 1, acc * 16 + (s[m].toNat - 48), by omega, by omega, by go_num, by go_num, HX', hb'⟩
      case measure => simp [intOf]; omega
     by_cases r2 : 97 ≤ s[m].toNat ∧ s[m].toNat ≤ 102
     ·have hd : hv s[m] = some (s[m].toNat - 87) := by rw [hv, if_neg r1, if_pos r2]
      rw [hvs_step hd] at HX
      have HX' := Lib.hid HX
      have hb' := hbd.step (by omega) (show s[m].toNat - 87 < 16 by omega)
      rw [show m - (i + 2) + 1 = m + 1 - (i + 2) by omega] at hb'
      clear HX hd hbd r1
      obtain ⟨r2a, r2b⟩ := r2
      go_wp2
      go_round
      case rel => exact ⟨m + 1, acc * 16 + (s[m].toNat - 87), by omega, by omega, by go_num, by go_num, HX', hb'⟩
      case measure => simp [intOf]; omega
     by_cases r3 : 65 ≤ s[m].toNat ∧ s[m].toNat ≤ 70
     ·have hd : hv s[m] = some (s[m].toNat - 55) := by rw [hv, if_neg r1, if_neg r2, if_pos r3]
      rw [hvs_step hd] at HX
      have HX' := Lib.hid HX
      have hb' := hbd.step (by omega) (show s[m].toNat - 55 < 16 by omega)
      rw [show m - (i + 2) + 1 = m + 1 - (i + 2) by omega] at hb'
      clear HX hd hbd r1 r2
      obtain ⟨r3a, r3b⟩ := r3
      go_wp2
      go_round
      case rel => exact ⟨m + 1, acc * 16 + (s[m].toNat - 55), by omega, by omega, by go_num, by go_num, HX', hb'⟩
      case measure => simp [intOf]; omega
     ·have hd : hv s[m] = none := by rw [hv, if_neg r1, if_neg r2, if_neg r3]
      rw [hvs_none hd] at HX
      have HX' := Lib.hid HX
      clear HX hd hbd
      go_wp2
      all_goals go_ret
      all_goals exact ⟨ret_i64 (by rw [HU.out, ← HX'.out]; rfl), rfl⟩
    ·have HX := hH.out
     have hme : m = i + 6 := by omega
     subst hme
     rw [hlast] at HX
     have HX' := Lib.hid HX
     clear HX hH hDg
     go_wp2
     go_ret
     exact ⟨ret_i64 (by rw [HU.out, ← HX'.out]; rfl), rfl⟩
  ·have HU : Hid (un (s.data.toList.drop i) = none) := Lib.hid (by
    rw [un, if_neg]
    rw [hb0, hb1]
    exact fun h => hc h.2)
   clear hb0 hb1
   by_cases c0 : s[i].toNat = 92
   ·have c1 : ((s[i + 1].toNat : Int) != 117) = true := by
     rw [bne_iff_ne]; omega
    clear hc
    go_enter Tryz.func246, Tryz.ntmps246
    go_wp2
    all_goals go_ret
    all_goals exact ⟨ret_i64 (by rw [HU.out]; rfl), rfl⟩
   ·have c1 : ((s[i].toNat : Int) != 92) = true := by
     rw [bne_iff_ne]; omega
    clear hc c0
    go_enter Tryz.func246, Tryz.ntmps246
    go_wp2
    all_goals go_ret
    all_goals exact ⟨ret_i64 (by rw [HU.out]; rfl), rfl⟩
 ·have HU : Hid (un (s.data.toList.drop i) = none) := Lib.hid (by
   rw [un, if_neg]
   rw [List.length_drop, size_toList]
   exact fun h => by omega)
  go_enter Tryz.func246, Tryz.ntmps246
  go_wp2
  go_ret
  exact ⟨ret_i64 (by rw [HU.out]; rfl), rfl⟩
theorem bytes_row (w : World) (xs : List Int) : (convert 84 9 (.slice (some ⟨w.heap.size, 0, none⟩) xs.length xs.length)).run Tryz.prog (w.alloc (.cells (xs.map (.int .u8)).toArray 5))
  = .ok (.string ⟨(xs.map fun x => x.toNat.toUInt8).toArray⟩) (w.alloc (.cells (xs.map (.int .u8)).toArray 5)) :=
 run_convert_bytes_arg _ 84 5 Tryz.underlying84 Tryz.underlying5 w.heap.size 0 xs.length xs.length xs rfl (fun i hi => by
  rw [Nat.zero_add, World.cell?_alloc_new]
  simp [List.getD, hi]) 9 Tryz.underlying9
theorem refUtf_code (n : Int) (w : World) (h0 : 0 ≤ n) (h1 : n ≤ 1114111) (hn : n < 55296 ∨ 57343 < n) :
  Calls Tryz.prog 247 #[.int .i64 n] w fun e w' => e = .returned (.string ⟨(Lib.encodeRune n).toArray⟩) ∧ Below w.heap.size w w' := by
 have hB : Below w.heap.size w w := Below.refl _ _
 by_cases c1 : n < 128
 ·have hcv := bytes_row w [n]
  simp only [List.length_cons, List.length_nil, List.map_cons, List.map_nil, Nat.zero_add] at hcv
  go_enter Tryz.func247, Tryz.ntmps247
  go_wp2_with fail
  go_ret
  exact ⟨ret_list (by rw [Lib.encodeRune, Lib.encodeRuneZ_one h0 (by omega)]; rfl), hB.alloc (Nat.le_refl _) _⟩
 by_cases c2 : n < 2048
 ·have hcv := bytes_row w [192 + n / 64, 128 + n % 64]
  simp only [List.length_cons, List.length_nil, List.map_cons, List.map_nil, Nat.zero_add, Nat.reduceAdd] at hcv
  go_enter Tryz.func247, Tryz.ntmps247
  go_wp2_with fail
  go_ret
  exact ⟨ret_list (by rw [Lib.encodeRune, Lib.encodeRuneZ_two (by omega) (by omega)]; rfl), hB.alloc (Nat.le_refl _) _⟩
 by_cases c3 : n < 65536
 ·have hcv := bytes_row w [224 + n / 4096, 128 + n / 64 % 64, 128 + n % 64]
  simp only [List.length_cons, List.length_nil, List.map_cons, List.map_nil, Nat.zero_add, Nat.reduceAdd] at hcv
  have HE : Hid (Lib.encodeRune n = [224 + n / 4096, 128 + n / 64 % 64, 128 + n % 64].map fun x => x.toNat.toUInt8) := Lib.hid (by rw [Lib.encodeRune, Lib.encodeRuneZ_three (by omega)])
  clear hn
  go_enter Tryz.func247, Tryz.ntmps247
  go_wp2_with fail
  go_ret
  exact ⟨ret_list (by rw [HE.out]; rfl), hB.alloc (Nat.le_refl _) _⟩
 ·have hcv := bytes_row w [240 + n / 262144, 128 + n / 4096 % 64, 128 + n / 64 % 64, 128 + n % 64]
  simp only [List.length_cons, List.length_nil, List.map_cons, List.map_nil, Nat.zero_add, Nat.reduceAdd] at hcv
  have HE : Hid (Lib.encodeRune n = [240 + n / 262144, 128 + n / 4096 % 64, 128 + n / 64 % 64, 128 + n % 64].map fun x => x.toNat.toUInt8) := Lib.hid (by rw [Lib.encodeRune, Lib.encodeRuneZ_four (by omega) h1])
  clear hn
  go_enter Tryz.func247, Tryz.ntmps247
  go_wp2_with fail
  go_ret
  exact ⟨ret_list (by rw [HE.out]; rfl), hB.alloc (Nat.le_refl _) _⟩
end
section
open Go.RowKit Go.Maps Np Up Qp
theorem lawI : Keyed Tryz.prog 21 := int_keyed Tryz.underlying21
theorem zeroI (w : World) : (zeroValue 21).run Tryz.prog w = .ok (.int .i32 0) w := by kernel_rfl
abbrev key (r : Int) : Lit := .int .i32 r
def Vw (D : DataW Unit) (f : Int → Option Int) : Prop := IsMap D ∧ ∀ r : Int, Maps.has D (key r) = (f r).isSome ∧ ∀ v, f r = some v → D.atKey (key r) (.lit (.int .i32 0)) = .lit (.int .i32 v)
theorem key_ne {a b : Int} (h : a ≠ b) : key a ≠ key b := fun e => h (by injection e)
theorem Vw.empty : Vw (.map []) (fun _ => none) := ⟨⟨_, rfl⟩, fun r => ⟨rfl, fun v h => by cases h⟩⟩
def upd (f : Int → Option Int) (k v r : Int) : Option Int := if r = k then some v else f r
def era (f : Int → Option Int) (k r : Int) : Option Int := if r = k then none else f r
theorem upd_same (f : Int → Option Int) (k v : Int) : upd f k v k = some v := if_pos rfl
theorem upd_other (f : Int → Option Int) {k r : Int} (v : Int) (h : r ≠ k) : upd f k v r = f r := if_neg h
theorem era_same (f : Int → Option Int) (k : Int) : era f k k = none := if_pos rfl
theorem era_other (f : Int → Option Int) {k r : Int} (h : r ≠ k) : era f k r = f r := if_neg h
theorem key_ok (k : Int) : WideAt.IsKeyLit (key k) := by unfold key WideAt.IsKeyLit; trivial
theorem Vw.put {D : DataW Unit} {f : Int → Option Int} (h : Vw D f) (k v : Int) : Vw (D.put (key k) (.lit (.int .i32 v))) (upd f k v) := by
 refine ⟨h.1.put _ _, fun r => ?_⟩
 by_cases e : r = k
 ·subst e
  rw [upd_same]
  refine ⟨by rw [has_put_same h.1 (key_ok _)]; rfl, fun x hx => ?_⟩
  injection hx with hx
  rw [atKey_put_same h.1 (key_ok _), hx]
 ·rw [upd_other f v e]
  refine ⟨by rw [has_put_other (key_ne e)]; exact (h.2 r).1, fun x hx => ?_⟩
  rw [atKey_put_other (key_ne e)]
  exact (h.2 r).2 x hx
theorem Vw.del {D : DataW Unit} {f : Int → Option Int} (h : Vw D f) (k : Int) : Vw (D.del (key k)) (era f k) := by
 refine ⟨h.1.del _, fun r => ?_⟩
 by_cases e : r = k
 ·subst e
  rw [era_same]
  exact ⟨by rw [has_del_same]; rfl, fun x hx => by cases hx⟩
 ·rw [era_other f e]
  refine ⟨by rw [has_del_other (key_ne e)]; exact (h.2 r).1, fun x hx => ?_⟩
  rw [atKey_del_other (key_ne e)]
  exact (h.2 r).2 x hx
theorem Vw.congr {D : DataW Unit} {f g : Int → Option Int} (h : Vw D f) (e : ∀ r, f r = g r) : Vw D g := by
 obtain rfl : f = g := funext e
 exact h
def MapAt (w : World) (b n : Nat) (f : Int → Option Int) : Prop := ∃ D : DataW Unit, w.ownsMap Tryz.prog 21 (plainElem Tryz.prog 21) b n D ∧ Vw D f
theorem MapAt.below {w w' : World} {b n B : Nat} {f : Int → Option Int} (h : MapAt w b n f) (hb : Below B w w') (hB : b < B) : MapAt w' b n f := by
 obtain ⟨D, ⟨es, clock, h1, h2⟩, h3⟩ := h
 exact ⟨D, ⟨es, clock, (hb.block b hB).trans h1, h2⟩, h3⟩
theorem MapAt.lt {w : World} {b n : Nat} {f : Int → Option Int} (h : MapAt w b n f) : b < w.heap.size := by
 obtain ⟨D, h1, _⟩ := h
 exact h1.lt
def letF (r : Int) : Option Int :=
 if r = 34 then some 34 else if r = 92 then some 92 else if r = 47 then some 47 else if r = 8 then some 98 else if r = 12 then some 102 else if r = 10 then some 110 else if r = 13 then some 114 else if r = 9 then some 116 else none
def blF (c : Int) : Option Int :=
 if c = 34 then some 34 else if c = 92 then some 92 else if c = 47 then some 47 else if c = 98 then some 8 else if c = 102 then some 12 else if c = 110 then some 10 else if c = 114 then some 13 else if c = 116 then some 9 else none
theorem wpList_insert_own {H : Type} {P : Program} (w : World) {ops : Array Oper} {rest : List Oper} {o : Oper} {a : Act} {Q : Exit → Act → World → Prop}
  (hg : o.guard = none) (m x v : Operand) (t : TypeId) (hop : o.op = Op.insert t m x v)
  (k e : TypeId) (K : Keyed P k) (ht : P.underlying t = some (.map k e)) (R : Value → Option (DataW H × List MemPlace)) (b n : Nat) (D : DataW H)
  (hm : a.eval m = .map (some b)) (hown : w.ownsMap P k R b n D) (hn : n < maxLen) (key val : Value) (kl : Lit) (hx : a.eval x = key) (hv : a.eval v = val) (hkey : keyOf P k key = some kl)
  (d : DataW H) (ps : List MemPlace) (hval : R val = some (d, ps))
  (hK : ∀ w', w'.ownsMap P k R b (n + 1) (D.put kl d) → w.grownBy w' (some b) → wpList P ops Q rest (a.put o.dst undef) w') :
  wpList P ops Q (o :: rest) a w := by
 refine wpList_plain hg fun K' hK' => ?_
 obtain ⟨w', hrun, r1, r2⟩ := hown.update K ht hn hkey hval
 unfold Oper.wp
 simp [execOp, hop, hm, hx, hv, hrun, Result.andThen]
 exact hK' _ _ (hK w' r1 r2)
theorem letters_any (w : World) :
  Calls Tryz.prog 223 #[] w fun e w' => e = .returned (.map (some w.heap.size)) ∧ MapAt w' w.heap.size 8 letF ∧ Below w.heap.size w w' := by
 have hmm := @run_makeMap Tryz.prog
 have hown0 : (w.alloc (.map #[] 0)).ownsMap Tryz.prog 21 (plainElem (H := Unit) Tryz.prog 21) w.heap.size 0 (.map []) := World.ownsMap_made _ _ _ _
 go_enter Tryz.func223, Tryz.ntmps223
 go_wp2_with (first
  | (refine wpList_insert_own _ rfl _ _ _ 226 rfl 21 21 lawI Tryz.underlying226 _ w.heap.size 7 _ rfl hown7 (by decide) _ _ _ rfl rfl (keyOf_int_mk Tryz.underlying21 (by decide)) _ [] (plainElem_int Tryz.underlying21 (by decide)) ?_; intro w8 hown8 hg8)
  | (refine wpList_insert_own _ rfl _ _ _ 226 rfl 21 21 lawI Tryz.underlying226 _ w.heap.size 6 _ rfl hown6 (by decide) _ _ _ rfl rfl (keyOf_int_mk Tryz.underlying21 (by decide)) _ [] (plainElem_int Tryz.underlying21 (by decide)) ?_; intro w7 hown7 hg7)
  | (refine wpList_insert_own _ rfl _ _ _ 226 rfl 21 21 lawI Tryz.underlying226 _ w.heap.size 5 _ rfl hown5 (by decide) _ _ _ rfl rfl (keyOf_int_mk Tryz.underlying21 (by decide)) _ [] (plainElem_int Tryz.underlying21 (by decide)) ?_; intro w6 hown6 hg6)
  | (refine wpList_insert_own _ rfl _ _ _ 226 rfl 21 21 lawI Tryz.underlying226 _ w.heap.size 4 _ rfl hown4 (by decide) _ _ _ rfl rfl (keyOf_int_mk Tryz.underlying21 (by decide)) _ [] (plainElem_int Tryz.underlying21 (by decide)) ?_; intro w5 hown5 hg5)
  | (refine wpList_insert_own _ rfl _ _ _ 226 rfl 21 21 lawI Tryz.underlying226 _ w.heap.size 3 _ rfl hown3 (by decide) _ _ _ rfl rfl (keyOf_int_mk Tryz.underlying21 (by decide)) _ [] (plainElem_int Tryz.underlying21 (by decide)) ?_; intro w4 hown4 hg4)
  | (refine wpList_insert_own _ rfl _ _ _ 226 rfl 21 21 lawI Tryz.underlying226 _ w.heap.size 2 _ rfl hown2 (by decide) _ _ _ rfl rfl (keyOf_int_mk Tryz.underlying21 (by decide)) _ [] (plainElem_int Tryz.underlying21 (by decide)) ?_; intro w3 hown3 hg3)
  | (refine wpList_insert_own _ rfl _ _ _ 226 rfl 21 21 lawI Tryz.underlying226 _ w.heap.size 1 _ rfl hown1 (by decide) _ _ _ rfl rfl (keyOf_int_mk Tryz.underlying21 (by decide)) _ [] (plainElem_int Tryz.underlying21 (by decide)) ?_; intro w2 hown2 hg2)
  | (refine wpList_insert_own _ rfl _ _ _ 226 rfl 21 21 lawI Tryz.underlying226 _ w.heap.size 0 _ rfl hown0 (by decide) _ _ _ rfl rfl (keyOf_int_mk Tryz.underlying21 (by decide)) _ [] (plainElem_int Tryz.underlying21 (by decide)) ?_; intro w1 hown1 hg1)
  | go_in)
 go_ret
 have hB : Below w.heap.size w (w.alloc (.map #[] 0)) := (Below.refl _ _).alloc (Nat.le_refl _) _
 have hB1 := hB.grown hg1 hB.size (fun j hj => by cases hj; exact Nat.le_refl _)
 have hB2 := hB1.grown hg2 hB1.size (fun j hj => by cases hj; exact Nat.le_refl _)
 have hB3 := hB2.grown hg3 hB2.size (fun j hj => by cases hj; exact Nat.le_refl _)
 have hB4 := hB3.grown hg4 hB3.size (fun j hj => by cases hj; exact Nat.le_refl _)
 have hB5 := hB4.grown hg5 hB4.size (fun j hj => by cases hj; exact Nat.le_refl _)
 have hB6 := hB5.grown hg6 hB5.size (fun j hj => by cases hj; exact Nat.le_refl _)
 have hB7 := hB6.grown hg7 hB6.size (fun j hj => by cases hj; exact Nat.le_refl _)
 have hB8 := hB7.grown hg8 hB7.size (fun j hj => by cases hj; exact Nat.le_refl _)
 refine ⟨rfl, ⟨_, hown8, ?_⟩, hB8⟩
 refine Vw.congr ((((((((Vw.empty.put 34 34).put 92 92).put 47 47).put 8 98).put 12 102).put 10 110).put 13 114).put 9 116) fun r => ?_
 unfold letF upd
 repeat' split
 all_goals first | rfl | omega
def Inv (left : Lit → Bool) (g : Int → Option Int) : Prop := (∀ r c, letF r = some c → left (key r) = false → g c = some r) ∧ ∀ c r, g c = some r → letF r = some c
theorem ltF_inj {r r' c : Int} (h : letF r = some c) (h' : letF r' = some c) : r = r' := by
 unfold letF at h h'
 repeat' split at h
 all_goals (first | (cases h; done) | (injection h with h; subst h))
 all_goals (repeat' split at h')
 all_goals (first | (cases h'; done) | (injection h' with h'; omega))
theorem blF_iff (c r : Int) : blF c = some r ↔ letF r = some c := by
 constructor
 ·intro h
  unfold blF at h
  repeat' split at h
  all_goals (first | (cases h; done) | (injection h with h; subst h; subst_vars; rfl))
 ·intro h
  unfold letF at h
  repeat' split at h
  all_goals (first | (cases h; done) | (injection h with h; subst h; subst_vars; rfl))
theorem Inv.step {left : Lit → Bool} {g : Int → Option Int} (h : Inv left g) {x c : Int} (hx : letF x = some c) : Inv (fun z => left z && !z.sameKey (key x)) (upd g c x) := by
 refine ⟨fun r d hr hl => ?_, fun d r hg => ?_⟩
 ·by_cases e : r = x
  ·subst e
   rw [hx] at hr
   injection hr with hr
   subst hr
   rw [upd_same]
  ·have hlr : left (key r) = false := by
    simp only [sameKey_ne (key_ne e), Bool.not_false, Bool.and_true] at hl
    exact hl
   rw [upd_other]
   ·exact h.1 r d hr hlr
   ·intro hd
    subst hd
    exact e (ltF_inj hr hx)
 ·by_cases e : d = c
  ·subst e
   rw [upd_same] at hg
   injection hg with hg
   subst hg
   exact hx
  ·rw [upd_other _ _ e] at hg
   exact h.2 d r hg
theorem Inv.done {left : Lit → Bool} {g : Int → Option Int} (h : Inv left g) (hl : ∀ k, left k = false) (c : Int) : g c = blF c := by
 cases hb : blF c with
 | some r => exact h.1 r c ((blF_iff c r).1 hb) (hl _)
 | none =>
  cases hg : g c with
  | none => rfl
  | some r =>
   have := (blF_iff c r).2 (h.2 c r hg)
   rw [this] at hb
   cases hb
theorem Vw.of_at {D : DataW Unit} {f : Int → Option Int} (h : Vw D f) {x c : Int} (hat : ∀ zd : DataW Unit, D.atKey (key x) zd = .lit (.int .i32 c)) : f x = some c := by
 have h1 := has_true_of_atKey hat
 rw [(h.2 x).1] at h1
 obtain ⟨v, hv⟩ := Option.isSome_iff_exists.1 h1
 have h2 := (h.2 x).2 v hv
 rw [hat] at h2
 injection h2 with h2
 injection h2 with _ h2
 rw [hv, h2]
theorem byLetter_any (w : World) :
  Calls Tryz.prog 217 #[] w fun e w' => e = .returned (.map (some w.heap.size)) ∧ MapAt w' w.heap.size 8 blF ∧ Below w.heap.size w w' := by
 have hmm := @run_makeMap Tryz.prog
 have e1 : (w.alloc (.map #[] 0)).heap.size = w.heap.size + 1 := by simp
 have hown0 : (w.alloc (.map #[] 0)).ownsMap Tryz.prog 21 (plainElem (H := Unit) Tryz.prog 21) w.heap.size 0 (.map []) := World.ownsMap_made _ _ _ _
 go_enter Tryz.func217, Tryz.ntmps217
 go_wp2_with fail
 refine (letters_any _).mono ?_
 rintro e wL ⟨rfl, ⟨D0, hL, hV⟩, hbL⟩
 rw [e1] at hL hbL ⊢
 have hownL : wL.ownsMap Tryz.prog 21 (plainElem (H := Unit) Tryz.prog 21) w.heap.size 0 (.map []) := by
  obtain ⟨es, clock, h1, h2⟩ := hown0
  exact ⟨es, clock, (hbL.block _ (Nat.lt_succ_self _)).trans h1, h2⟩
 have hB0 : Below w.heap.size w wL := ((Below.refl _ _).alloc (Nat.le_refl _) _).trans (hbL.mono (Nat.le_succ _))
 clear hown0 hbL
 go_wp2_with (first
  | (at_range; refine wpList_range_own _ rfl _ 226 rfl 21 21 lawI Tryz.underlying226 _ (w.heap.size + 1) 8 _ rfl hL ?_; intro w0 hrg0 hg0 hs0)
  | go_in)
 go_frame
 have hsz := hL.size_le
 have hne : wL.heap.size ≠ w.heap.size := by have := hownL.lt; omega
 have hBr : w.heap.size ≤ wL.heap.size := by have := hownL.lt; omega
 go_loopw [2] (fun _ wr => ∃ (left : Lit → Bool) (cnt : Nat) (Dout : DataW Unit) (g : Int → Option Int), wr.ranges Tryz.prog 21 (plainElem Tryz.prog 21) (w.heap.size + 1) wL.heap.size 8 D0 left cnt ∧ cnt ≤ Maps.size D0 ∧
   wr.ownsMap Tryz.prog 21 (plainElem Tryz.prog 21) w.heap.size (Maps.size D0 - cnt) Dout ∧ Vw Dout g ∧ Inv left g ∧ Below w.heap.size w wr)
  (fun _ wr => wr.rangeLeft (w.heap.size + 1) wL.heap.size)
 case atStart =>
  refine ⟨_, _, .map [], fun _ => none, hrg0, Nat.le_refl _, (hownL.kept hg0 (by simp)).mono (Nat.zero_le _), Vw.empty, ⟨fun r c hr hl => ?_, fun c r h => by cases h⟩, hB0.grown hg0 (by omega) (fun j hj => by cases hj)⟩
  rw [(hV.2 r).1, hr] at hl
  cases hl
 case round =>
  obtain ⟨left, cnt, Dout, g, hrg, hcs, hout, hVo, hA, hnx⟩ := hrel
  go_wp2_with (first
   | (at_next; refine wpList_next_ranges_ii _ rfl _ rfl 21 21 .i32 .i32 lawI Tryz.underlying21 Tryz.underlying21 (w.heap.size + 1) wL.heap.size 8 _ _ _ rfl hrg ?_ ?_)
   | go_in)
  ·intro hc0 hl0
   go_wp2
   go_ret
   exact ⟨rfl, ⟨Dout, hout.mono (by omega), hVo.congr (hA.done hl0)⟩, hnx⟩
  ·intro x c w1 cnt1 hwx hwc hlx hat hrg1 hlt hg1 hs1 hen
   have hout1 := hout.kept hg1 (by intro e; injection e with e; omega)
   have hfx := hV.of_at hat
   go_wp2_with (first
    | (at_mapUpdate; refine wpList_mapUpdate_own _ rfl _ _ _ 226 rfl 21 21 lawI Tryz.underlying226 _ w.heap.size _ _ rfl hout1 (by unfold maxLen; omega) _ _ _ rfl rfl (keyOf_int_mk Tryz.underlying21 hwc) _ [] (plainElem_int Tryz.underlying21 hwx) ?_; intro w2 hout2 hg2; go_frame)
    | go_in)
   have hrg2 := hrg1.kept hg2 (fun e => by have := Option.some.inj e; omega) (fun e => by have := Option.some.inj e; omega)
   go_roundw
   case rel =>
    exact ⟨_, cnt1, _, _, hrg2, by omega, hout2.mono (by omega), hVo.put c x, hA.step hfx,
     (hnx.grown hg1 hnx.size (fun j hj => by cases hj; exact hBr)).grown hg2 (by have := hnx.size; omega) (fun j hj => by cases hj; exact Nat.le_refl _)⟩
   case measure => rw [hrg2.left_eq, hrg.left_eq]; exact hlt
end
end Go.Proofs.YtldioobbfkaebaaGreatDoor
namespace Go.Proofs
open Go.Shelf
def Tryz.bld_ren : Go.Shelf.Ren := ⟨fun | 166 => 215 | 167 => 224 | 168 => 219 | 240 => 243 | 242 => 245 | 276 => 264 | 278 => 266 | n => n, fun | 0 => 0 | 3 => 3 | 4 => 4 | 5 => 5 | 9 => 9 | 20 => 20 | 21 => 21 | 37 => 84 | 46 => 191 | 51 => 262 | 70 => 223 | 72 => 225 | 75 => 206 | 80 => 227 | 164 => 271 | n => n, fun | n => n⟩
theorem Tryz.bld166 : Go.Proofs.Lays.n166 Tryz.prog Tryz.bld_ren := {
 mixed := by kernel_rfl
 f166 := Tryz.func215.trans (congrArg some (by kernel_rfl))
 f240 := Tryz.func243.trans (congrArg some (by kernel_rfl))
 f276 := Tryz.func264.trans (congrArg some (by kernel_rfl))
 t0 := Tryz.underlying0
 a0 := Tryz.isAgg0
 z0 := Tryz.sizeOf0
 v0 := Tryz.zeroValue0
 t3 := Tryz.underlying3
 a3 := Tryz.isAgg3
 z3 := Tryz.sizeOf3
 v3 := Tryz.zeroValue3
 t4 := Tryz.underlying4
 a4 := Tryz.isAgg4
 z4 := Tryz.sizeOf4
 v4 := Tryz.zeroValue4
 t20 := Tryz.underlying20
 a20 := Tryz.isAgg20
 z20 := Tryz.sizeOf20
 v20 := Tryz.zeroValue20
 t9 := Tryz.underlying9
 a9 := Tryz.isAgg9
 z9 := Tryz.sizeOf9
 v9 := Tryz.zeroValue9
 t37 := Tryz.underlying84
 a37 := Tryz.isAgg84
 z37 := Tryz.sizeOf84
 v37 := Tryz.zeroValue84
 t70 := Tryz.underlying223
 a70 := Tryz.isAgg223
 z70 := Tryz.sizeOf223
 v70 := Tryz.zeroValue223
 t72 := Tryz.underlying225
 a72 := Tryz.isAgg225
 z72 := Tryz.sizeOf225
 v72 := Tryz.zeroValue225
 t75 := Tryz.underlying206
 a75 := Tryz.isAgg206
 z75 := Tryz.sizeOf206
 v75 := Tryz.zeroValue206
 t164 := Tryz.underlying271
 a164 := Tryz.isAgg271
 z164 := Tryz.sizeOf271
 v164 := Tryz.zeroValue271 }
theorem Tryz.bld167 : Go.Proofs.Lays.n167 Tryz.prog Tryz.bld_ren := {
 mixed := by kernel_rfl
 f167 := Tryz.func224.trans (congrArg some (by kernel_rfl))
 f240 := Tryz.func243.trans (congrArg some (by kernel_rfl))
 f276 := Tryz.func264.trans (congrArg some (by kernel_rfl))
 t0 := Tryz.underlying0
 a0 := Tryz.isAgg0
 z0 := Tryz.sizeOf0
 v0 := Tryz.zeroValue0
 t4 := Tryz.underlying4
 a4 := Tryz.isAgg4
 z4 := Tryz.sizeOf4
 v4 := Tryz.zeroValue4
 t5 := Tryz.underlying5
 a5 := Tryz.isAgg5
 z5 := Tryz.sizeOf5
 v5 := Tryz.zeroValue5
 t9 := Tryz.underlying9
 a9 := Tryz.isAgg9
 z9 := Tryz.sizeOf9
 v9 := Tryz.zeroValue9
 t20 := Tryz.underlying20
 a20 := Tryz.isAgg20
 z20 := Tryz.sizeOf20
 v20 := Tryz.zeroValue20
 t37 := Tryz.underlying84
 a37 := Tryz.isAgg84
 z37 := Tryz.sizeOf84
 v37 := Tryz.zeroValue84
 t70 := Tryz.underlying223
 a70 := Tryz.isAgg223
 z70 := Tryz.sizeOf223
 v70 := Tryz.zeroValue223
 t72 := Tryz.underlying225
 a72 := Tryz.isAgg225
 z72 := Tryz.sizeOf225
 v72 := Tryz.zeroValue225
 t75 := Tryz.underlying206
 a75 := Tryz.isAgg206
 z75 := Tryz.sizeOf206
 v75 := Tryz.zeroValue206
 t164 := Tryz.underlying271
 a164 := Tryz.isAgg271
 z164 := Tryz.sizeOf271
 v164 := Tryz.zeroValue271 }
theorem Tryz.bld168 : Go.Proofs.Lays.n168 Tryz.prog Tryz.bld_ren := {
 mixed := by kernel_rfl
 f168 := Tryz.func219.trans (congrArg some (by kernel_rfl))
 f240 := Tryz.func243.trans (congrArg some (by kernel_rfl))
 f242 := Tryz.func245.trans (congrArg some (by kernel_rfl))
 f276 := Tryz.func264.trans (congrArg some (by kernel_rfl))
 f278 := Tryz.func266.trans (congrArg some (by kernel_rfl))
 t0 := Tryz.underlying0
 a0 := Tryz.isAgg0
 z0 := Tryz.sizeOf0
 v0 := Tryz.zeroValue0
 t3 := Tryz.underlying3
 a3 := Tryz.isAgg3
 z3 := Tryz.sizeOf3
 v3 := Tryz.zeroValue3
 t4 := Tryz.underlying4
 a4 := Tryz.isAgg4
 z4 := Tryz.sizeOf4
 v4 := Tryz.zeroValue4
 t5 := Tryz.underlying5
 a5 := Tryz.isAgg5
 z5 := Tryz.sizeOf5
 v5 := Tryz.zeroValue5
 t9 := Tryz.underlying9
 a9 := Tryz.isAgg9
 z9 := Tryz.sizeOf9
 v9 := Tryz.zeroValue9
 t20 := Tryz.underlying20
 a20 := Tryz.isAgg20
 z20 := Tryz.sizeOf20
 v20 := Tryz.zeroValue20
 t21 := Tryz.underlying21
 a21 := Tryz.isAgg21
 z21 := Tryz.sizeOf21
 v21 := Tryz.zeroValue21
 t37 := Tryz.underlying84
 a37 := Tryz.isAgg84
 z37 := Tryz.sizeOf84
 v37 := Tryz.zeroValue84
 t46 := Tryz.underlying191
 a46 := Tryz.isAgg191
 z46 := Tryz.sizeOf191
 v46 := Tryz.zeroValue191
 t51 := Tryz.underlying262
 a51 := Tryz.isAgg262
 z51 := Tryz.sizeOf262
 v51 := Tryz.zeroValue262
 t70 := Tryz.underlying223
 a70 := Tryz.isAgg223
 z70 := Tryz.sizeOf223
 v70 := Tryz.zeroValue223
 t72 := Tryz.underlying225
 a72 := Tryz.isAgg225
 z72 := Tryz.sizeOf225
 v72 := Tryz.zeroValue225
 t75 := Tryz.underlying206
 a75 := Tryz.isAgg206
 z75 := Tryz.sizeOf206
 v75 := Tryz.zeroValue206
 t164 := Tryz.underlying271
 a164 := Tryz.isAgg271
 z164 := Tryz.sizeOf271
 v164 := Tryz.zeroValue271 }
theorem Tryz.bldExtra : Builder.Extra Tryz.prog Tryz.bld_ren := {
 sizeBuilder := by kernel_rfl
 liesBuilder := by kernel_rfl
 t5 := Tryz.underlying5
 a5 := Tryz.isAgg5
 z5 := Tryz.sizeOf5
 v5 := Tryz.zeroValue5
 infoByte := by kernel_rfl
 cellsByte := by kernel_rfl
 sizeByte := by kernel_rfl
 neB5 := by decide }
open Go.RowKit in
theorem Tryz.writeByte (B b : Nat) (bs : List Value) (c : Int) (w : World) (h : Lib.IsBuilderF 225 5 B b bs w) (hlen : bs.length + 1 ≤ 140737488355328) (hBw : B ≤ w.heap.size) :
  Calls Tryz.prog 224 #[.pointer (some ⟨b, 0, none⟩), .int .u8 c] w fun e w' => e = .returned .nilIface ∧ (Lib.BuilderAtF 225 5 B b (.pointer (some ⟨b, 0, none⟩)) (bs ++ [.int .u8 c]) w' ∧ Below B w w' ∧ Lib.OthersKept 5 (some b) w w') := Any.Builder_WriteByte_k Tryz.bld167 Tryz.bldExtra B b bs c w h hlen hBw
open Go.RowKit in
theorem Tryz.writeString (B b : Nat) (bs : List Value) (s : ByteArray) (w : World) (h : Lib.IsBuilderF 225 5 B b bs w) (hlen : bs.length + s.size ≤ 140737488355328) (hBw : B ≤ w.heap.size) :
  Calls Tryz.prog 215 #[.pointer (some ⟨b, 0, none⟩), .string s] w fun e w' => e = .returned (.tuple #[.int .i64 s.size, .nilIface]) ∧ (Lib.BuilderAtF 225 5 B b (.pointer (some ⟨b, 0, none⟩)) (bs ++ Lib.strCells s) w' ∧ Below B w w' ∧ Lib.OthersKept 5 (some b) w w') := Any.Builder_WriteString_k Tryz.bld166 Tryz.bldExtra B b bs s w h hlen hBw
open Go.RowKit in
theorem Tryz.writeRune (B b : Nat) (bs : List Value) (r : Int) (hr0 : -2147483648 ≤ r) (hr1 : r ≤ 2147483647) (w : World) (h : Lib.IsBuilderF 225 5 B b bs w) (hlen : bs.length + 4 ≤ 140737488355328) (hBw : B ≤ w.heap.size) :
  Calls Tryz.prog 219 #[.pointer (some ⟨b, 0, none⟩), .int .i32 r] w fun e w' => e = .returned (.tuple #[.int .i64 (Lib.runeCells r).length, .nilIface]) ∧ (Lib.BuilderAtF 225 5 B b (.pointer (some ⟨b, 0, none⟩)) (bs ++ Lib.runeCells r) w' ∧ Below B w w' ∧ Lib.OthersKept 5 (some b) w w') := Any.Builder_WriteRune_k Tryz.bld168 Tryz.bldExtra B b bs r hr0 hr1 w h hlen hBw
end Go.Proofs
namespace Go.Proofs
open Go.Shelf
def Tryz.laysValid_ren : Go.Shelf.Ren := ⟨fun | 196 => 195 | 259 => 226 | n => n, fun | 9 => 9 | 4 => 4 | 3 => 3 | 5 => 5 | 12 => 12 | 119 => 237 | 0 => 0 | 46 => 191 | 139 => 240 | 138 => 239 | 53 => 244 | n => n, fun | 3 => 0 | 4 => 1 | n => n⟩
theorem Tryz.laysValid : Go.Proofs.Lays.n196 Tryz.prog Tryz.laysValid_ren := {
 mixed := by kernel_rfl
 f196 := Tryz.func195.trans (congrArg some (by kernel_rfl))
 f259 := Tryz.func226.trans (congrArg some (by kernel_rfl))
 t0 := Tryz.underlying0
 a0 := Tryz.isAgg0
 z0 := Tryz.sizeOf0
 v0 := Tryz.zeroValue0
 t3 := Tryz.underlying3
 a3 := Tryz.isAgg3
 z3 := Tryz.sizeOf3
 v3 := Tryz.zeroValue3
 t4 := Tryz.underlying4
 a4 := Tryz.isAgg4
 z4 := Tryz.sizeOf4
 v4 := Tryz.zeroValue4
 t5 := Tryz.underlying5
 a5 := Tryz.isAgg5
 z5 := Tryz.sizeOf5
 v5 := Tryz.zeroValue5
 t9 := Tryz.underlying9
 a9 := Tryz.isAgg9
 z9 := Tryz.sizeOf9
 v9 := Tryz.zeroValue9
 t12 := Tryz.underlying12
 a12 := Tryz.isAgg12
 z12 := Tryz.sizeOf12
 v12 := Tryz.zeroValue12
 t46 := Tryz.underlying191
 a46 := Tryz.isAgg191
 z46 := Tryz.sizeOf191
 v46 := Tryz.zeroValue191
 t53 := Tryz.underlying244
 a53 := Tryz.isAgg244
 z53 := Tryz.sizeOf244
 v53 := Tryz.zeroValue244
 t119 := Tryz.underlying237
 a119 := Tryz.isAgg237
 z119 := Tryz.sizeOf237
 t138 := Tryz.underlying239
 a138 := Tryz.isAgg239
 z138 := Tryz.sizeOf239
 v138 := Tryz.zeroValue239
 t139 := Tryz.underlying240
 a139 := Tryz.isAgg240
 z139 := Tryz.sizeOf240
 v139 := Tryz.zeroValue240
 g3 := by kernel_rfl
 g4 := by kernel_rfl }
end Go.Proofs
namespace Go.Proofs.YtldioobbfkaebaaGreatDoor
abbrev uqv (x : List UInt8 × Nat × Int) : Value := .tuple #[.string ⟨x.1.toArray⟩, .int .i64 x.2.1, .int .i64 x.2.2]
end Go.Proofs.YtldioobbfkaebaaGreatDoor
