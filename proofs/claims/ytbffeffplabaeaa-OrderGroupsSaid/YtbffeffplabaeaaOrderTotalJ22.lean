/-
  Joined: OAlive, OLaw.
-/
import Derived.Test.YtbffeffplabaeaaOrderTotalJ21
import Derived.Test.YtbffeffplabaeaaOrderTotalJ16
import Derived.Test.YtbffeffplabaeaaOrderTotalJ8

/-
  What the live question of order's laws answers: true.
-/
namespace Go.Proofs.Ytbffeffplabaeaa
open Go.RowKit Np Rw Vp Ov

/-- A literal of keys. -/
theorem keys_lit (W : World) (n : Nat) (hn : W.heap.size = n) (vs : List Value) (ts : List (Tr Nd)) (hl : vs.length = ts.length) (hm : vs.length ≤ maxLen) (h : ∀ (k : Nat) (x : Value) (t : Tr Nd), vs[k]? = some x → ts[k]? = some t → Nds W x (flat t)) (hv : ∀ t ∈ ts, Val t) (hf : ∀ t ∈ ts, (flat t).length ≤ 40000) :
    Keys (W.alloc (.cells vs.toArray 23)) (.slice (some ⟨n, 0, none⟩) vs.length vs.length) ts := by
  refine ⟨rowz_lit W n hn 23 vs (ts.map flat) (by rw [List.length_map]; exact hl) hm fun k x l hx hk => ?_, hv, hf⟩
  rw [List.getElem?_map] at hk
  obtain ⟨t, ht, rfl⟩ := Option.map_eq_some_iff.1 hk
  exact h k x t hx ht
theorem three_val : ∀ t ∈ threeO, Val t := by intro t ht; simp [threeO] at ht; rcases ht with rfl | rfl | rfl <;> first | exact oneO_val | exact twoO_val
theorem flat_oneO : flat oneO = [nmD [49]] := flat_nmT _
theorem flat_twoO : flat twoO = [nmD [50]] := flat_nmT _
theorem one_short : (flat oneO).length ≤ 40000 := by rw [flat_oneO]; simp
theorem two_short : (flat twoO).length ≤ 40000 := by rw [flat_twoO]; simp
theorem three_short : ∀ t ∈ threeO, (flat t).length ≤ 40000 := by intro t ht; simp [threeO] at ht; rcases ht with rfl | rfl | rfl <;> first | exact one_short | exact two_short
/-- Two keys, as they lie. -/
structure OneTwo (w : World) (A B : Option Addr) : Prop where
  one : Nds w (.slice A 1 1) (flat oneO)
  two : Nds w (.slice B 1 1) (flat twoO)
theorem OneTwo.below {w w' : World} {A B : Option Addr} (h : OneTwo w A B) (hb : Below w.heap.size w w') : OneTwo w' A B := ⟨h.one.below hb, h.two.below hb⟩
theorem OneTwo.three {W : World} {A B : Option Addr} (h : OneTwo W A B) {n : Nat} (hn : W.heap.size = n) : Keys (W.alloc (.cells #[.slice B 1 1, .slice A 1 1, .slice B 1 1] 23)) (.slice (some ⟨n, 0, none⟩) 3 3) threeO :=
  keys_lit W n hn [.slice B 1 1, .slice A 1 1, .slice B 1 1] threeO rfl (by unfold maxLen; simp) (fun k x t hx ht => by
    match k, hx, ht with
    | 0, hx, ht => simp [threeO] at hx ht; subst hx ht; exact h.two
    | 1, hx, ht => simp [threeO] at hx ht; subst hx ht; exact h.one
    | 2, hx, ht => simp [threeO] at hx ht; subst hx ht; exact h.two
    | k + 3, hx, ht => simp at hx) three_val three_short
theorem OneTwo.same {W : World} {A B : Option Addr} (h : OneTwo W A B) {n : Nat} (hn : W.heap.size = n) : Keys (W.alloc (.cells #[.slice A 1 1, .slice A 1 1] 23)) (.slice (some ⟨n, 0, none⟩) 2 2) [oneO, oneO] :=
  keys_lit W n hn [.slice A 1 1, .slice A 1 1] [oneO, oneO] rfl (by unfold maxLen; simp) (fun k x t hx ht => by
    match k, hx, ht with
    | 0, hx, ht => simp at hx ht; subst hx ht; exact h.one
    | 1, hx, ht => simp at hx ht; subst hx ht; exact h.one
    | k + 2, hx, ht => simp at hx) (by intro t ht; simp at ht; subst ht; exact oneO_val) (by intro t ht; simp at ht; subst ht; exact one_short)
theorem OneTwo.down {W : World} {A B : Option Addr} (h : OneTwo W A B) {n : Nat} (hn : W.heap.size = n) : Keys (W.alloc (.cells #[.slice B 1 1, .slice A 1 1] 23)) (.slice (some ⟨n, 0, none⟩) 2 2) [twoO, oneO] :=
  keys_lit W n hn [.slice B 1 1, .slice A 1 1] [twoO, oneO] rfl (by unfold maxLen; simp) (fun k x t hx ht => by
    match k, hx, ht with
    | 0, hx, ht => simp at hx ht; subst hx ht; exact h.two
    | 1, hx, ht => simp at hx ht; subst hx ht; exact h.one
    | k + 2, hx, ht => simp at hx) (by intro t ht; simp at ht; rcases ht with rfl | rfl <;> first | exact oneO_val | exact twoO_val) (by intro t ht; simp at ht; rcases ht with rfl | rfl <;> first | exact one_short | exact two_short)

set_option maxRecDepth 100000 in
set_option maxHeartbeats 4000000 in
theorem oalive_any (w : World) : Calls Try.prog 11 #[] w fun e w' => e = .returned (.bool true) ∧ Below w.heap.size w w' := by
  go_enter Try.func11, Try.ntmps11
  go_wp2_with fail
  have h1 : Nds (w.alloc (.cells #[.int .i64 3, .int .i64 0, .string ⟨#[]⟩, .string ⟨#[49]⟩, .bool false, .int .i64 0] 38)) (.slice (some ⟨w.heap.size, 0, none⟩) 1 1) (flat oneO) := by rw [flat_oneO]; exact row_one ndc_len w _ rfl _ _ (nmD [49]) rfl
  have h2 : Nds ((w.alloc (.cells #[.int .i64 3, .int .i64 0, .string ⟨#[]⟩, .string ⟨#[49]⟩, .bool false, .int .i64 0] 38)).alloc (.cells #[.int .i64 3, .int .i64 0, .string ⟨#[]⟩, .string ⟨#[50]⟩, .bool false, .int .i64 0] 38)) (.slice (some ⟨w.heap.size + 1, 0, none⟩) 1 1) (flat twoO) := by rw [flat_twoO]; exact row_one ndc_len _ _ (by simp) _ _ (nmD [50]) rfl
  have hB0 : Below w.heap.size w ((w.alloc (.cells #[.int .i64 3, .int .i64 0, .string ⟨#[]⟩, .string ⟨#[49]⟩, .bool false, .int .i64 0] 38)).alloc (.cells #[.int .i64 3, .int .i64 0, .string ⟨#[]⟩, .string ⟨#[50]⟩, .bool false, .int .i64 0] 38)) := ((Below.refl _ _).alloc (Nat.le_refl _) _).alloc (by simp) _
  have hs0 : ((w.alloc (.cells #[.int .i64 3, .int .i64 0, .string ⟨#[]⟩, .string ⟨#[49]⟩, .bool false, .int .i64 0] 38)).alloc (.cells #[.int .i64 3, .int .i64 0, .string ⟨#[]⟩, .string ⟨#[50]⟩, .bool false, .int .i64 0] 38)).heap.size = w.heap.size + 2 := by simp
  have hOT : OneTwo ((w.alloc (.cells #[.int .i64 3, .int .i64 0, .string ⟨#[]⟩, .string ⟨#[49]⟩, .bool false, .int .i64 0] 38)).alloc (.cells #[.int .i64 3, .int .i64 0, .string ⟨#[]⟩, .string ⟨#[50]⟩, .bool false, .int .i64 0] 38)) (some ⟨w.heap.size, 0, none⟩) (some ⟨w.heap.size + 1, 0, none⟩) := ⟨h1.below ((Below.refl _ _).alloc (Nat.le_refl _) _), h2⟩
  clear h1 h2
  generalize (w.alloc (.cells #[.int .i64 3, .int .i64 0, .string ⟨#[]⟩, .string ⟨#[49]⟩, .bool false, .int .i64 0] 38)).alloc (.cells #[.int .i64 3, .int .i64 0, .string ⟨#[]⟩, .string ⟨#[50]⟩, .bool false, .int .i64 0] 38) = W0 at hB0 hs0 hOT ⊢
  have HS0 := Lib.hid hs0
  have HOT := Lib.hid hOT
  have HB0 := Lib.hid hB0
  clear hs0 hOT hB0
  generalize hA : (some ⟨w.heap.size, 0, none⟩ : Option Addr) = A at *
  generalize hB : (some ⟨w.heap.size + 1, 0, none⟩ : Option Addr) = B at *
  clear hA hB
  refine (sort_any _ threeO _ (HOT.out.three HS0.out) (by simp [threeO])).mono ?_
  rintro e w1 ⟨A1, n1, c1, rfl, hi1, hb1⟩
  rw [show threeO.length = 3 from rfl, plc_three] at hi1
  have HI1 := Lib.hid hi1
  have hb2 : Below W0.heap.size W0 w1 := ((Below.refl _ _).alloc (Nat.le_refl _) _).trans (hb1.mono (by simp))
  have HOT1 := Lib.hid (HOT.out.below hb2)
  have HB1 := Lib.hid (Below.after HB0.out hb2)
  obtain rfl : n1 = 3 := by
    obtain ⟨A2, c2, h2, -⟩ := hi1
    injection h2
  clear hi1 hb1 hb2 HOT HB0
  go_wp2_with fail
  refine (groups_any _ threeO _ (HOT1.out.three rfl) (by simp [threeO])).mono ?_
  rintro e w2 ⟨A2, n2, c2, zs, rfl, hgr, hb2⟩
  rw [show threeO.length = 3 from rfl, grps_three] at hgr
  have hb3 : Below w1.heap.size w1 w2 := ((Below.refl _ _).alloc (Nat.le_refl _) _).trans (hb2.mono (by simp))
  obtain ⟨gb, b, cap, rfl, hn2, -, -, p2, -, hcg⟩ := gr_last (GG := [[1]]) (a := 0) (gg := [2]) hgr
  obtain rfl : n2 = 2 := hn2
  have hgl : gb < w2.heap.size := World.block_lt_of_cell? _ _ p2
  have HP : Hid (∀ W, Below w2.heap.size w2 W → W.cell? ⟨gb, 1, none⟩ = some (.slice (some ⟨b, 0, none⟩) 2 cap)) := Lib.hid fun W hb => (hb.cell (p := ⟨gb, 1, none⟩) hgl).trans p2
  have HOT2 := Lib.hid (HOT1.out.below hb3)
  have HI2 := Lib.hid (HI1.out.below hb3)
  have HB2 := Lib.hid (Below.after HB1.out hb3)
  have HCG : Hid (2 ≤ c2) := Lib.hid hcg
  clear hgr hb2 hb3 p2 hcg hgl HOT1 HI1 HB1
  go_wp2_with fail
  refine (ordCmp_any _ _ _ _ w2 HOT2.out.one HOT2.out.two oneO_val twoO_val one_short two_short).mono ?_
  rintro e w3 ⟨rfl, hb3⟩
  rw [cmp_one_two]
  have HOT3 := Lib.hid (HOT2.out.below hb3)
  have HI3 := Lib.hid (HI2.out.below hb3)
  have HB3 := Lib.hid (Below.after HB2.out hb3)
  have HP3 : Hid (∀ W, Below w3.heap.size w3 W → W.cell? ⟨gb, 1, none⟩ = some (.slice (some ⟨b, 0, none⟩) 2 cap)) := Lib.hid fun W hb => HP.out W (Below.after hb3 hb)
  clear hb3 HOT2 HI2 HB2 HP
  go_wp2_with fail
  have hIns : Ins (w3.alloc (.cells #[.int .i64 1, .int .i64 0, .int .i64 2] 3)) (.slice (some ⟨w3.heap.size, 0, none⟩) 3 3) [1, 0, 2] := Row.lit inc_len w3 3 #[.int .i64 1, .int .i64 0, .int .i64 2] [1, 0, 2] (by unfold maxLen; simp) rfl
  have hb4 : Below w3.heap.size w3 (w3.alloc (.cells #[.int .i64 1, .int .i64 0, .int .i64 2] 3)) := (Below.refl _ _).alloc (Nat.le_refl _) _
  have HIq := refInts_any _ _ _ _ _ (HI3.out.below hb4) hIns
  rw [show decide (List.map Int.ofNat [1, 0, 2] = [1, 0, 2]) = true by decide] at HIq
  refine HIq.mono ?_
  rintro e w4 ⟨rfl, hb5⟩
  have hb6 : Below w3.heap.size w3 w4 := hb4.trans (hb5.mono (by simp))
  have HOT4 := Lib.hid (HOT3.out.below hb6)
  have HB4 := Lib.hid (Below.after HB3.out hb6)
  have p5 := HP3.out w4 hb6
  have hcg := HCG.out
  clear HIq hb4 hb5 hb6 hIns HOT3 HI3 HB3 HP3
  go_wp2_with fail
  clear p5
  have HR1 := rises_any _ [oneO, oneO] _ (HOT4.out.same (n := w4.heap.size) rfl) (by simp)
  rw [show [oneO, oneO].length = 2 from rfl, rise_same] at HR1
  refine HR1.mono ?_
  rintro e w5 ⟨rfl, hb5⟩
  have hb6 : Below w4.heap.size w4 w5 := ((Below.refl _ _).alloc (Nat.le_refl _) _).trans (hb5.mono (by simp))
  have HOT5 := Lib.hid (HOT4.out.below hb6)
  have HB5 := Lib.hid (Below.after HB4.out hb6)
  clear HR1 hb5 hb6 HOT4 HB4
  go_wp2_with fail
  have HR2 := rises_any _ [twoO, oneO] _ (HOT5.out.down (n := w5.heap.size) rfl) (by simp)
  rw [show [twoO, oneO].length = 2 from rfl, rise_down] at HR2
  refine HR2.mono ?_
  rintro e w6 ⟨rfl, hb6⟩
  have hb7 : Below w5.heap.size w5 w6 := ((Below.refl _ _).alloc (Nat.le_refl _) _).trans (hb6.mono (by simp))
  have HB6 := Lib.hid (Below.after HB5.out hb7)
  clear HR2 hb6 hb7 HOT5 HB5
  go_wp2_with fail
  go_ret
  exact ⟨rfl, HB6.out⟩
end Go.Proofs.Ytbffeffplabaeaa

/-
  What the laws of order share: what is few is a value; three answers of a comparison.
-/
namespace Go.Proofs.Ytbffeffplabaeaa
open Go.RowKit Np Rw Vp Ov

theorem ofew_all {l : List Nd} {m : Nat} (h : few m l = true) : l.length ≤ m ∧ Short l ∧ rightL l = true := by
  rw [few, Bool.and_eq_true, Bool.and_eq_true, decide_eq_true_eq] at h
  exact ⟨h.1.1, few_short h.1.2, h.2⟩
theorem oallFew_all {L : List (List Nd)} (h : allFew 60 L = true) : sumL L ≤ 60 ∧ (∀ l ∈ L, few 60 l = true) := by
  rw [allFew, Bool.and_eq_true, decide_eq_true_eq, List.all_eq_true] at h
  exact h
theorem few_tree {l : List Nd} (h : few 60 l = true) : ∃ t : Tr Nd, Val t ∧ l = flat t ∧ (flat t).length ≤ 60 := by
  obtain ⟨h1, -, h3⟩ := ofew_all h
  obtain ⟨t, ht, rfl⟩ := val_of_rightL h3
  exact ⟨t, ht, rfl, h1⟩
end Go.Proofs.Ytbffeffplabaeaa
