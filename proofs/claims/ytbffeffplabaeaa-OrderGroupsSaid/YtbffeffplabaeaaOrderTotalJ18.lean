/-
  Joined: Ow8.
-/
import Derived.Test.YtbffeffplabaeaaOrderTotalJ17
import Derived.Test.YtbffeffplabaeaaOrderTotalJ15

/-
  What order's sorted and Sort answer.
-/
namespace Go.Proofs.Ytbffeffplabaeaa
open Go.RowKit Np Rw Vp Ov

/-- What sorted answers, of lists of that length at most. -/
def SortQ (n : Nat) : Prop := ∀ (kb : Nat) (vk va : Value) (ts : List (Tr Nd)) (xs : List Nat) (w : World), xs.length ≤ n → Kx kb vk ts w → Ins w va (xs.map Int.ofNat) → (∀ x ∈ xs, x < ts.length) → xs.length ≤ 100000 →
  Calls Try.prog 35 #[va, fnK kb] w fun e w' => ∃ (A : Option Addr) (n c : Nat), e = .returned (.slice A n c) ∧ Ins w' (.slice A n c) ((srtC (cat ts) xs).map Int.ofNat) ∧ Below w.heap.size w w'

set_option maxRecDepth 100000 in
set_option maxHeartbeats 1000000 in
theorem sorted_short (kb : Nat) (va : Value) (ts : List (Tr Nd)) (xs : List Nat) (w : World) (h2 : xs.length < 2) (ha : Ins w va (xs.map Int.ofNat)) :
    Calls Try.prog 35 #[va, fnK kb] w fun e w' => ∃ (A : Option Addr) (n c : Nat), e = .returned (.slice A n c) ∧ Ins w' (.slice A n c) ((srtC (cat ts) xs).map Int.ofNat) ∧ Below w.heap.size w w' := by
  have HA := Lib.hid ha
  have HS : Hid (srtC (cat ts) xs = xs) := Lib.hid (srtC_short _ h2)
  obtain ⟨A, c, rfl, -⟩ := ha
  simp only [List.length_map] at HA ⊢
  have hB := Below.refl w.heap.size w
  have h2' : ((xs.length : Nat) : Int) < 2 := by omega
  go_enter Try.func35, Try.ntmps35
  go_wp2_with fail
  go_ret
  exact ⟨A, _, c, rfl, by rw [HS.out]; exact HA.out, hB⟩

set_option maxRecDepth 100000 in
set_option maxHeartbeats 4000000 in
theorem sorted_step (n : Nat) (IH : SortQ n) : SortQ (n + 1) := by
  intro kb vk va ts xs w hn hK ha hx hl
  have HA := Lib.hid ha
  have HK := Lib.hid hK
  by_cases h2 : xs.length < 2
  · exact sorted_short kb va ts xs w h2 ha
  · have HS := Lib.hid (srtC_long (cat ts) h2)
    obtain ⟨g, o, c, rfl, hc, hm, hg, -⟩ := ha.opened (by rw [List.length_map]; omega)
    rw [List.length_map] at HA hc ⊢
    obtain ⟨hf, hfm⟩ : ∃ hf : Nat, xs.length / 2 = hf := ⟨_, rfl⟩
    rw [hfm] at HS
    have h3 : hf ≤ xs.length := by omega
    have h4 : 1 ≤ hf := by omega
    have HL : Hid (Ins w (.slice (some ⟨g, o, none⟩) hf c) ((xs.take hf).map Int.ofNat)) := Lib.hid (by
      have h5 : Ins w (.slice (some ⟨g, o, none⟩) (xs.map Int.ofNat).length c) (xs.map Int.ofNat) := by rw [List.length_map]; exact HA.out
      have h6 := h5.front hf (by rw [List.length_map]; exact h3) (by omega) hm
      rwa [← List.map_take] at h6)
    have HR : Hid (Ins w (.slice (some ⟨g, o + hf, none⟩) (xs.length - hf) (c - hf)) ((xs.drop hf).map Int.ofNat)) := Lib.hid (by
      have h5 : Ins w (.slice (some ⟨g, o, none⟩) (xs.map Int.ofNat).length c) (xs.map Int.ofNat) := by rw [List.length_map]; exact HA.out
      have h6 := h5.rest hf (by rw [List.length_map]; exact h3)
      simpa using h6)
    have HC1 : Hid (∀ W, Below w.heap.size w W → Calls Try.prog 35 #[.slice (some ⟨g, o, none⟩) hf c, fnK kb] W fun e w' => ∃ (A : Option Addr) (n c : Nat), e = .returned (.slice A n c) ∧ Ins w' (.slice A n c) ((srtC (cat ts) (xs.take hf)).map Int.ofNat) ∧ Below W.heap.size W w') :=
      Lib.hid fun W hb => IH kb vk _ ts (xs.take hf) W (by rw [List.length_take]; omega) (hK.below hb) (HL.out.below hb) (fun x h => hx x (List.mem_of_mem_take h)) (by rw [List.length_take]; omega)
    have HC2 : Hid (∀ W, Below w.heap.size w W → Calls Try.prog 35 #[.slice (some ⟨g, o + hf, none⟩) (xs.length - hf) (c - hf), fnK kb] W fun e w' => ∃ (A : Option Addr) (n c : Nat), e = .returned (.slice A n c) ∧ Ins w' (.slice A n c) ((srtC (cat ts) (xs.drop hf)).map Int.ofNat) ∧ Below W.heap.size W w') :=
      Lib.hid fun W hb => IH kb vk _ ts (xs.drop hf) W (by rw [List.length_drop]; omega) (hK.below hb) (HR.out.below hb) (fun x h => hx x (List.mem_of_mem_drop h)) (by rw [List.length_drop]; omega)
    have HX1 : Hid (∀ x ∈ srtC (cat ts) (xs.take hf), x < ts.length) := Lib.hid fun x h => hx x (List.mem_of_mem_take ((Ov.srt_perm _ _ _ rfl).mem_iff.1 h))
    have HX2 : Hid (∀ x ∈ srtC (cat ts) (xs.drop hf), x < ts.length) := Lib.hid fun x h => hx x (List.mem_of_mem_drop ((Ov.srt_perm _ _ _ rfl).mem_iff.1 h))
    have HXL : Hid ((srtC (cat ts) (xs.take hf)).length + (srtC (cat ts) (xs.drop hf)).length ≤ 100000) := Lib.hid (by rw [srt_len, srt_len, List.length_take, List.length_drop]; omega)
    have hdiv : ((xs.length : Nat) : Int) / 2 = (hf : Int) := by omega
    have h5 : ¬ ((xs.length : Nat) : Int) < 2 := by omega
    have hch : ¬ c = hf := by omega
    clear IH hK ha hx
    generalize hN : xs.length = N at *
    go_enter Try.func35, Try.ntmps35
    go_upto_region 4 with fail
    go_region_with (first
      | (go_at_call 35; have hbq := HB1.out; refine (HC2.out _ hbq).mono ?_; rintro e w2 ⟨A2, n2, c2, rfl, hi2, hb2⟩; have HB2 := Lib.hid (Below.after HB1.out hb2); have HI1' := Lib.hid (HI1.out.below hb2); have HI2 := Lib.hid hi2; clear hi2 hb2 hbq)
      | (go_at_call 35; (fail_if_success (have hbq := HB1.out)); refine (HC1.out _ (Below.refl _ w).drew).mono ?_; rintro e w1 ⟨A1, n1, c1, rfl, hi1, hb1⟩; have HI1 := Lib.hid hi1; have HB1 : Hid (Below w.heap.size w w1) := Lib.hid (((Below.refl _ w).drew).trans hb1); clear hi1 hb1)
      | (go_at_call 52; refine (merge_any kb vk _ _ ts _ _ _ (HK.out.below HB2.out) HI1'.out HI2.out HX1.out HX2.out HXL.out).mono ?_; rintro e w3 ⟨A3, n3, c3, rfl, hi3, hb3⟩))
    all_goals go_wp2_with fail
    all_goals go_ret
    all_goals exact ⟨A3, n3, c3, rfl, by rw [HS.out]; exact hi3, Below.after HB2.out hb3⟩
theorem sorted_any : ∀ n, SortQ n := by
  intro n
  induction n with
  | zero =>
    intro kb vk va ts xs w hn hK ha hx hl
    exact sorted_short kb va ts xs w (by omega) ha
  | succ n ih => exact sorted_step n ih
end Go.Proofs.Ytbffeffplabaeaa
