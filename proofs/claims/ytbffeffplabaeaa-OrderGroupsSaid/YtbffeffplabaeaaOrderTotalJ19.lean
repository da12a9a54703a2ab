/-
  Joined: RefW2, Ow9, OGrpP.
-/
import Derived.Test.YtbffeffplabaeaaOrderTotalJ2
import Derived.Outline
import Derived.Test.YtbffeffplabaeaaOrderTotalJ18
import Derived.Test.YtbffeffplabaeaaOrderTotalJ9
import Derived.Test.YtbffeffplabaeaaOrderTotalJ17

/-
  What the document's own answers are: Same, Texts, Lists; the library's Equal and val's Same.
-/
namespace Go.Proofs.Ytbffeffplabaeaa
open Go.RowKit Np

theorem take_eq_succ {α : Type} {a b : List α} {k : Nat} {x y : α} (h : a.take k = b.take k) (hx : a[k]? = some x) (hy : b[k]? = some y) (he : x = y) : a.take (k + 1) = b.take (k + 1) := by
  rw [List.take_add_one, List.take_add_one, h, hx, hy, he]
theorem ne_of_at {α : Type} {a b : List α} {k : Nat} {x y : α} (hx : a[k]? = some x) (hy : b[k]? = some y) (he : x ≠ y) : a ≠ b := by
  rintro rfl
  rw [hx] at hy
  exact he (Option.some.inj hy)
theorem eq_of_take {α : Type} {a b : List α} {k : Nat} (h : a.take k = b.take k) (ha : a.length ≤ k) (hb : b.length ≤ k) : a = b := by
  rwa [List.take_of_length_le ha, List.take_of_length_le hb] at h

set_option maxHeartbeats 400000 in
theorem refSame_quiet (va vb : Value) (la lb : List Nd) (w : World) (ha : Nds w va la) (hb : Nds w vb lb) :
    Calls Try.prog 21 #[va, vb] w fun e w' => e = .returned (.bool (decide (la = lb))) ∧ ∃ n, w' = w.drewN n := by
  have hB : ∃ n, w = w.drewN n := ⟨0, rfl⟩
  by_cases hl : la.length = lb.length
  · rcases Nat.eq_zero_or_pos la.length with h0 | h0
    · have e1 := List.eq_nil_of_length_eq_zero h0
      have e2 := List.eq_nil_of_length_eq_zero (hl ▸ h0)
      subst e1 e2
      obtain ⟨A, c, rfl, -⟩ := ha
      obtain ⟨B, d, rfl, -⟩ := hb
      clear hl h0
      simp only [List.length_nil]
      go_enter Try.func21, Try.ntmps21
      go_wp2
      go_loopw [5] (fun i wr => i = .int .i64 0 ∧ wr = w) (fun _ _ => 0)
      case atStart => exact ⟨rfl, rfl⟩
      case round =>
        obtain ⟨rfl, rfl⟩ := hrel
        go_wp2
        go_ret
        exact ⟨ret_bool rfl, hB⟩
    · have hlen := ha.len
      obtain ⟨g, o, c, rfl, hc, hcm, hg, hx⟩ := ha.opened h0
      obtain ⟨g2, o2, c2, rfl, hc2, hcm2, hg2, hx2⟩ := hb.opened (hl ▸ h0)
      rw [← hl]
      have HX := Lib.hid hx
      have HX2 := Lib.hid hx2
      have HL := Lib.hid hl
      clear hx hx2 hl
      generalize hn : la.length = n at *
      have HN := Lib.hid hn; clear hn
      unfold maxLen at hlen
      have hneq := neq_nd
      go_enter Try.func21, Try.ntmps21
      go_wp2
      go_loopw [5] (fun i wr => ∃ k : Nat, k ≤ n ∧ i = .int .i64 k ∧ (∃ m, wr = w.drewN m) ∧ la.take k = lb.take k) (fun i _ => n - (intOf i).toNat)
      case atStart => exact ⟨0, Nat.zero_le _, rfl, ⟨0, rfl⟩, rfl⟩
      case round =>
        obtain ⟨k, hk, rfl, hq, ht⟩ := hrel
        have HQ := Lib.hid hq; clear hq
        have HT := Lib.hid ht; clear ht
        by_cases hlt : k < n
        · obtain ⟨a, ha⟩ : ∃ a, la[k]? = some a := ⟨_, List.getElem?_eq_getElem (by rw [HN.out]; exact hlt)⟩
          obtain ⟨b, hb'⟩ : ∃ b, lb[k]? = some b := ⟨_, List.getElem?_eq_getElem (by rw [← HL.out]; exact hlt)⟩
          obtain ⟨a0, a1, a2, a3, a4, a5⟩ := (HX.out k a ha).nd.quiet HQ.out
          obtain ⟨b0, b1, b2, b3, b4, b5⟩ := (HX2.out k b hb').nd.quiet HQ.out
          have HA := Lib.hid ha
          have HB := Lib.hid hb'
          clear ha hb'
          by_cases he : a = b
          · have HE : Hid (la.take (k + 1) = lb.take (k + 1)) := Lib.hid (take_eq_succ HT.out HA.out HB.out he)
            have hd : decide (a = b) = true := by simp [he]
            clear he
            go_wp2
            go_quiet (fail)
            go_wp2
            go_roundw
            case rel => exact ⟨k + 1, by omega, by go_num, quiet_more HQ.out _, HE.out⟩
            case measure => simp [intOf]; omega
          · have HE : Hid (la ≠ lb) := Lib.hid (ne_of_at HA.out HB.out he)
            have hd : decide (a = b) = false := by simp [he]
            clear he
            go_wp2
            go_quiet (fail)
            go_wp2
            go_ret
            exact ⟨ret_bool (by simp [HE.out]), quiet_more HQ.out _⟩
        · have HE : Hid (la = lb) := Lib.hid (eq_of_take HT.out (by rw [HN.out]; omega) (by rw [← HL.out]; omega))
          go_wp2
          go_ret
          exact ⟨ret_bool (by simp [HE.out]), HQ.out⟩
  · obtain ⟨A, c, rfl, -⟩ := ha
    obtain ⟨B, d, rfl, -⟩ := hb
    have HE : Hid (la ≠ lb) := Lib.hid (fun h => hl (by rw [h]))
    have hz : ((la.length : Int) == lb.length) = false := by simp; omega
    have hz2 : ((la.length : Int) != lb.length) = true := by simp; omega
    clear hl
    go_enter Try.func21, Try.ntmps21
    go_wp2
    go_ret
    exact ⟨ret_bool (by simp [HE.out]), hB⟩
theorem refSame_any (va vb : Value) (la lb : List Nd) (w : World) (ha : Nds w va la) (hb : Nds w vb lb) :
    Calls Try.prog 21 #[va, vb] w fun e w' => e = .returned (.bool (decide (la = lb))) ∧ Below w.heap.size w w' :=
  (refSame_quiet va vb la lb w ha hb).mono fun _ _ ⟨he, hw⟩ => ⟨he, below_quiet hw⟩
set_option maxHeartbeats 400000 in
theorem equal_quiet (va vb : Value) (la lb : List Nd) (w : World) (ha : Nds w va la) (hb : Nds w vb lb) :
    Calls Try.prog 53 #[va, vb] w fun e w' => e = .returned (.bool (decide (la = lb))) ∧ ∃ n, w' = w.drewN n := by
  have hB : ∃ n, w = w.drewN n := ⟨0, rfl⟩
  by_cases hl : la.length = lb.length
  · rcases Nat.eq_zero_or_pos la.length with h0 | h0
    · have e1 := List.eq_nil_of_length_eq_zero h0
      have e2 := List.eq_nil_of_length_eq_zero (hl ▸ h0)
      subst e1 e2
      obtain ⟨A, c, rfl, -⟩ := ha
      obtain ⟨B, d, rfl, -⟩ := hb
      clear hl h0
      simp only [List.length_nil]
      go_enter Try.func53, Try.ntmps53
      go_wp2
      go_loopw [13] (fun i wr => i = .int .i64 0 ∧ wr = w) (fun _ _ => 0)
      case atStart => exact ⟨rfl, rfl⟩
      case round =>
        obtain ⟨rfl, rfl⟩ := hrel
        go_wp2
        go_ret
        exact ⟨ret_bool rfl, hB⟩
    · have hlen := ha.len
      obtain ⟨g, o, c, rfl, hc, hcm, hg, hx⟩ := ha.opened h0
      obtain ⟨g2, o2, c2, rfl, hc2, hcm2, hg2, hx2⟩ := hb.opened (hl ▸ h0)
      rw [← hl]
      have HX := Lib.hid hx
      have HX2 := Lib.hid hx2
      have HL := Lib.hid hl
      clear hx hx2 hl
      generalize hn : la.length = n at *
      have HN := Lib.hid hn; clear hn
      unfold maxLen at hlen
      have hneq := neq_nd
      go_enter Try.func53, Try.ntmps53
      go_wp2
      go_loopw [13] (fun i wr => ∃ k : Nat, k ≤ n ∧ i = .int .i64 k ∧ (∃ m, wr = w.drewN m) ∧ la.take k = lb.take k) (fun i _ => n - (intOf i).toNat)
      case atStart => exact ⟨0, Nat.zero_le _, rfl, ⟨0, rfl⟩, rfl⟩
      case round =>
        obtain ⟨k, hk, rfl, hq, ht⟩ := hrel
        have HQ := Lib.hid hq; clear hq
        have HT := Lib.hid ht; clear ht
        by_cases hlt : k < n
        · obtain ⟨a, ha⟩ : ∃ a, la[k]? = some a := ⟨_, List.getElem?_eq_getElem (by rw [HN.out]; exact hlt)⟩
          obtain ⟨b, hb'⟩ : ∃ b, lb[k]? = some b := ⟨_, List.getElem?_eq_getElem (by rw [← HL.out]; exact hlt)⟩
          obtain ⟨a0, a1, a2, a3, a4, a5⟩ := (HX.out k a ha).nd.quiet HQ.out
          obtain ⟨b0, b1, b2, b3, b4, b5⟩ := (HX2.out k b hb').nd.quiet HQ.out
          have HA := Lib.hid ha
          have HB := Lib.hid hb'
          clear ha hb'
          by_cases he : a = b
          · have HE : Hid (la.take (k + 1) = lb.take (k + 1)) := Lib.hid (take_eq_succ HT.out HA.out HB.out he)
            have hd : decide (a = b) = true := by simp [he]
            clear he
            go_wp2
            go_quiet (fail)
            go_wp2
            go_roundw
            case rel => exact ⟨k + 1, by omega, by go_num, quiet_more HQ.out _, HE.out⟩
            case measure => simp [intOf]; omega
          · have HE : Hid (la ≠ lb) := Lib.hid (ne_of_at HA.out HB.out he)
            have hd : decide (a = b) = false := by simp [he]
            clear he
            go_wp2
            go_quiet (fail)
            go_wp2
            go_ret
            exact ⟨ret_bool (by simp [HE.out]), quiet_more HQ.out _⟩
        · have HE : Hid (la = lb) := Lib.hid (eq_of_take HT.out (by rw [HN.out]; omega) (by rw [← HL.out]; omega))
          go_wp2
          go_ret
          exact ⟨ret_bool (by simp [HE.out]), HQ.out⟩
  · obtain ⟨A, c, rfl, -⟩ := ha
    obtain ⟨B, d, rfl, -⟩ := hb
    have HE : Hid (la ≠ lb) := Lib.hid (fun h => hl (by rw [h]))
    have hz : ((la.length : Int) == lb.length) = false := by simp; omega
    have hz2 : ((la.length : Int) != lb.length) = true := by simp; omega
    clear hl
    go_enter Try.func53, Try.ntmps53
    go_wp2
    go_ret
    exact ⟨ret_bool (by simp [HE.out]), hB⟩
theorem same_quiet (va vb : Value) (la lb : List Nd) (w : World) (ha : Nds w va la) (hb : Nds w vb lb) :
    Calls Try.prog 37 #[va, vb] w fun e w' => e = .returned (.bool (decide (la = lb))) ∧ ∃ n, w' = w.drewN n := by
  go_enter Try.func37, Try.ntmps37
  go_wp2_with (go_at_call 53; refine (equal_quiet _ _ _ _ _ ha hb).mono ?_; rintro e w' ⟨rfl, n, rfl⟩)
  go_ret
  exact ⟨rfl, n, rfl⟩
theorem same_any (va vb : Value) (la lb : List Nd) (w : World) (ha : Nds w va la) (hb : Nds w vb lb) :
    Calls Try.prog 37 #[va, vb] w fun e w' => e = .returned (.bool (decide (la = lb))) ∧ Below w.heap.size w w' :=
  (same_quiet va vb la lb w ha hb).mono fun _ _ ⟨he, hw⟩ => ⟨he, below_quiet hw⟩

end Go.Proofs.Ytbffeffplabaeaa

/-
  What order's Sort, Rises and Groups answer.
-/
namespace Go.Proofs.Ytbffeffplabaeaa
open Go.RowKit Np Rw Vp Ov

set_option maxRecDepth 100000 in
set_option maxHeartbeats 2000000 in
theorem sort_any (v : Value) (ts : List (Tr Nd)) (w : World) (h : Keys w v ts) (hn : ts.length ≤ 1000) :
    Calls Try.prog 17 #[v] w fun e w' => ∃ (A : Option Addr) (n c : Nat), e = .returned (.slice A n c) ∧ Ins w' (.slice A n c) ((plc (cat ts) ts.length).map Int.ofNat) ∧ Below w.heap.size w w' := by
  obtain ⟨A, c, hvl⟩ : ∃ (A : Option Addr) (c : Nat), v = .slice A ts.length c := by
    obtain ⟨vs, hl, ⟨A, c, hv, -⟩, -⟩ := h.vls
    rw [List.length_map] at hl
    exact ⟨A, c, by rw [hv, hl]⟩
  have HH := Lib.hid h
  clear h
  subst hvl
  have hmk := fun (W : World) => make_ints ts.length (by omega) W
  generalize hnn : ts.length = n at *
  have HN := Lib.hid hnn
  clear hnn
  have HMK := Lib.hid hmk; clear hmk
  have hmf : ∀ (fn : Fn) (first cap : Array Value) (w : World), (Instr.makeFunc fn first cap).run Try.prog w = .ok (.func fn first cap) w := fun _ _ _ _ => rfl
  go_enter Try.func17, Try.ntmps17
  have hmk := HMK.out (w.alloc (.cells #[.slice A n c] 24))
  have HO : Hid (Own inc 1 3 (w.heap.size + 1) ((w.alloc (.cells #[.slice A n c] 24)).alloc (.cells (madeCells #[.int .i64 0] n) 3)) (.slice (some ⟨w.heap.size + 1, 0, none⟩) n n) (nums n 0)) := Lib.hid (by
    rw [nums_zero]
    have := Own.made1 (E := 3) (base := w.heap.size + 1) inc_len (w.alloc (.cells #[.slice A n c] 24)) 0 (.int .i64 0) rfl n (by unfold maxLen; omega) (by simp)
    simpa using this)
  simp only [World.size_alloc] at hmk
  go_wp2_with fail
  generalize madeCells #[Value.int .i64 0] n = cs at HO ⊢
  go_loopw [10] (fun i wr => ∃ k : Nat, k ≤ n ∧ i = .int .i64 k ∧ Own inc 1 3 (w.heap.size + 1) wr (.slice (some ⟨w.heap.size + 1, 0, none⟩) n n) (nums n k) ∧ Below (w.heap.size + 1) (w.alloc (.cells #[.slice A n c] 24)) wr) (fun i _ => n - (intOf i).toNat)
  case atStart => exact ⟨0, Nat.zero_le _, rfl, HO.out, (Below.refl _ _).alloc (by simp) _⟩
  case round =>
    obtain ⟨k, hk, rfl, hown, hb⟩ := hrel
    by_cases hlt : k < n
    · have hown' : Own inc 1 3 (w.heap.size + 1) wr (.slice (some ⟨w.heap.size + 1, 0, none⟩) (nums n k).length n) (nums n k) := by rw [nums_len]; exact hown
      have hcell := Own.cell inc_len (j := 0) hown' (nums_at hlt) rfl
      have hfr := hown'.free (k * 1 + 0)
      have hput := Own.put inc_len (j := 0) (y := (k : Int)) (u := .int .i64 k) hown' (nums_at hlt) (by decide) rfl
      rw [nums_set, nums_len] at hput
      simp only [Nat.mul_one, Nat.add_zero] at hcell hfr hput
      have HP := Lib.hid hput
      have HB := Lib.hid hb
      clear hput hown hown' hb
      go_wp2_with fail
      go_roundw
      case rel => exact ⟨k + 1, by omega, by go_num, HP.out, HB.out.setCell (by simp) _⟩
      case measure => simp [intOf]; omega
    · obtain rfl : k = n := by omega
      have hBW : Below w.heap.size w wr := ((Below.refl _ w).alloc (Nat.le_refl _) _).trans (hb.mono (by simp))
      have HBW := Lib.hid hBW
      have hbox : wr.cell? ⟨w.heap.size, 0, none⟩ = some (.slice A k c) := (hb.cell (p := ⟨w.heap.size, 0, none⟩) (by simp)).trans (by simp [World.cell?_alloc_new])
      have hKx : Kx w.heap.size (.slice A k c) ts wr := ⟨hbox, by have := hb.size; simp at this; omega, HH.out.below hBW⟩
      have hIn : Ins wr (.slice (some ⟨w.heap.size + 1, 0, none⟩) k k) ((List.range k).map Int.ofNat) := by
        have := hown.row inc_len
        rwa [nums_all] at this
      have HS := Lib.hid (sorted_any k w.heap.size (.slice A k c) _ ts (List.range k) wr (by simp) hKx hIn (fun x hx => by rw [HN.out]; simpa using hx) (by simp; omega))
      clear hBW hb hbox hKx hIn hown
      go_wp2_with fail
      go_at_call 35
      refine HS.out.mono ?_
      rintro e w3 ⟨A3, n3, c3, rfl, hi3, hb3⟩
      go_wp2_with fail
      go_ret
      exact ⟨A3, n3, c3, rfl, hi3, Below.after HBW.out hb3⟩
end Go.Proofs.Ytbffeffplabaeaa

/-
  Plain words: what is gathered so far, a place more. No program stands here.
-/
namespace Go.Proofs.Ytbffeffplabaeaa
open Go.RowKit Np Rw Vp Ov

/-- The groups of what has been gone by. -/
def gath (c : Nat → Nat → Int) (l : List Nat) : List (List Nat) := allG (foldG c l)
theorem gath_nil (c : Nat → Nat → Int) : gath c [] = [] := rfl
theorem gath_first (c : Nat → Nat → Int) (x : Nat) : gath c [x] = [[x]] := rfl
theorem gath_plc (c : Nat → Nat → Int) (n : Nat) : gath c (plc c n) = grps c n := rfl
theorem gath_more (c : Nat → Nat → Int) (l : List Nat) (x : Nat) (h : l ≠ []) : ∃ (G : List (List Nat)) (a : Nat) (g : List Nat), gath c l = G ++ [a :: g] ∧ a ∈ l ∧ (c a x = 0 → gath c (l ++ [x]) = G ++ [a :: g ++ [x]]) ∧ (c a x ≠ 0 → gath c (l ++ [x]) = G ++ [a :: g] ++ [[x]]) := by
  have h1 := foldG_cur c l h
  have h2 := foldG_flat c l
  have h3 := foldG_snoc c l x
  obtain ⟨a, g, e⟩ : ∃ a g, (foldG c l).2 = a :: g := List.exists_cons_of_ne_nil h1
  refine ⟨(foldG c l).1, a, g, by rw [gath, allG, if_neg h1, e], ?_, fun h0 => ?_, fun h0 => ?_⟩
  · rw [← h2, e]; simp
  · rw [gath, h3, Ov.stepG, e]
    simp [allG, h0]
  · rw [gath, h3, Ov.stepG, e]
    simp [allG, h0]
theorem gath_lt (c : Nat → Nat → Int) (l : List Nat) : (gath c l).flatten = l := by rw [gath, allG_flat, foldG_flat]
/-- How many groups, and how long each. -/
theorem gath_len (c : Nat → Nat → Int) (l : List Nat) : ∀ g ∈ gath c l, g.length ≤ l.length := by
  intro g hg
  have key : ∀ (G : List (List Nat)), g ∈ G → g.length ≤ G.flatten.length := by
    intro G
    induction G with
    | nil => intro h; cases h
    | cons a G ih =>
      intro h
      rw [List.flatten_cons, List.length_append]
      rcases List.mem_cons.1 h with rfl | h
      · omega
      · have := ih h; omega
  have := key _ hg
  rwa [gath_lt] at this
theorem gath_many (c : Nat → Nat → Int) (l : List Nat) : (gath c l).length ≤ l.length := by
  have key : ∀ (G : List (List Nat)), (∀ g ∈ G, g ≠ []) → G.length ≤ G.flatten.length := by
    intro G
    induction G with
    | nil => intro _; simp
    | cons a G ih =>
      intro h
      rw [List.flatten_cons, List.length_append, List.length_cons]
      have h1 := ih fun g hg => h g (by simp [hg])
      have h2 : 0 < a.length := List.length_pos_iff.2 (h a (by simp))
      omega
  have h0 : ∀ g ∈ gath c l, g ≠ [] := by
    have key2 : ∀ (l : List Nat) (s : List (List Nat) × List Nat), (∀ g ∈ s.1, g ≠ []) → ∀ g ∈ (l.foldl (Ov.stepG c) s).1, g ≠ [] := by
      intro l
      induction l with
      | nil => intro s h; exact h
      | cons x l ih =>
        intro s h
        rw [List.foldl_cons]
        refine ih _ ?_
        rw [Ov.stepG]
        split
        · exact h
        · split
          · exact h
          · intro g hg
            rcases List.mem_append.1 hg with hg | hg
            · exact h g hg
            · simp at hg; subst hg; simp
    intro g hg
    rw [gath, allG] at hg
    split at hg
    · exact key2 l _ (by simp) g hg
    · rename_i h2
      rcases List.mem_append.1 hg with hg | hg
      · exact key2 l _ (by simp) g hg
      · simp at hg; subst hg; exact h2
  have := key _ h0
  rwa [gath_lt] at this
theorem cat_zero {ts : List (Tr Nd)} (hv : ∀ t ∈ ts, Val t) {i k : Nat} (hi : i < ts.length) (hk : k < ts.length) : cat ts i k = 0 ↔ flat ts[i] = flat ts[k] := by
  unfold cat
  rw [getD_at hi, getD_at hk, cmp_same (hv _ (List.getElem_mem _)) (hv _ (List.getElem_mem _))]
  constructor
  · intro h; rw [h]
  · intro h; exact flat_inj' (hv _ (List.getElem_mem _)).ok (hv _ (List.getElem_mem _)).ok h
end Go.Proofs.Ytbffeffplabaeaa
