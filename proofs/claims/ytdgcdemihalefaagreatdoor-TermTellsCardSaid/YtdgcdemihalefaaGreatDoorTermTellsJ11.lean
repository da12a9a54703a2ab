/-
  Joined: Grow, FwB, FwC, FwD, FwV, FrB, FrI, FwLw, TermTellsCardJ.
-/
import Derived.Shelf.Spec.SlicesGrow
import Derived.Test.YtdgcdemihalefaaGreatDoorProg
import Derived.Test.YtdgcdemihalefaaGreatDoorTermTellsJ10
import Derived.RangeFuncNested
import Derived.RangeFuncBound
import Derived.RangeFuncCalls
import Derived.RangeFuncLeaves
import Derived.RangeFuncBox
import Derived.Shelf.Abstract
import Derived.Shelf.RegionOpen
import Derived.OwnWalkIn
import Derived.TacticsInMore
import Derived.LoopNIn
import Derived.LoopIn
import Derived.Test.YtdgcdemihalefaaGreatDoorTermTellsJ1
import Derived.Test.YtdgcdemihalefaaGreatDoorTermTellsJ6
import Derived.Test.YtdgcdemihalefaaGreatDoorTermTellsJ12
import Derived.Test.YtdgcdemihalefaaGreatDoorRefW6
import Derived.Test.YtdgcdemihalefaaGreatDoorTie
import Derived.Test.YtdgcdemihalefaaGreatDoorCards
import Derived.ProofKit
import Derived.LaidMore
import Derived.OpenShut
import Derived.Lay
import Derived.Carry
import Derived.SevenTiedAt
import Derived.Stop.Joined
import Derived.Lib.LaidTab
import Derived.Stop.LaidErr
import Derived.Lib.LaidU8T
import Derived.PinnedBridge
import Derived.SizedLaws
namespace Go.Proofs
open Go.Shelf
def Tryz.growF_ren : Go.Shelf.Ren := ⟨fun | 4 => 85 | n => n, fun | 22 => 23 | 25 => 47 | 3 => 3 | 4 => 4 | 9 => 9 | 20 => 20 | 0 => 0 | n => n, fun | n => n⟩
theorem Tryz.growF : Go.Proofs.Lays8.n4 Tryz.prog Tryz.growF_ren := {
  mixed := by kernel_rfl
  f4 := ⟨Tryz.f85.name, by decide, Tryz.func85.trans (congrArg some (by kernel_rfl))⟩
  t0 := Tryz.underlying0
  a0 := Tryz.isAgg0
  z0 := Tryz.sizeOf0
  v0 := Tryz.zeroValue0
  t3 := Tryz.underlying3
  a3 := Tryz.isAgg3
  z3 := Tryz.sizeOf3
  v3 := Tryz.zeroValue3
  t4 := Tryz.underlying4
  a4 := Tryz.isAgg4
  z4 := Tryz.sizeOf4
  v4 := Tryz.zeroValue4
  t9 := Tryz.underlying9
  a9 := Tryz.isAgg9
  z9 := Tryz.sizeOf9
  v9 := Tryz.zeroValue9
  t20 := Tryz.underlying20
  a20 := Tryz.isAgg20
  z20 := Tryz.sizeOf20
  v20 := Tryz.zeroValue20
  t22 := Tryz.underlying23
  a22 := Tryz.isAgg23
  z22 := Tryz.sizeOf23
  v22 := Tryz.zeroValue23 }
end Go.Proofs
namespace Go.Proofs.YtdgcdemihalefaaGreatDoor
open Go.RowKit Go.Shelf Np Rw Vp Pw Fw
theorem sum_takeG {α : Type} {L : List (List α)} {k : Nat} {x : List α} (hx : L[k]? = some x) : ((L.take (k + 1)).map List.length).sum = ((L.take k).map List.length).sum + x.length := by
  rw [List.take_add_one, hx]; simp
theorem sum_takeG_le {α : Type} (L : List (List α)) (k : Nat) : ((L.take k).map List.length).sum ≤ (L.map List.length).sum := by
  conv => rhs; rw [← List.take_append_drop k L, List.map_append, List.sum_append]
  omega
theorem Row.pc {α : Type} {enc : α → List Value} {sz g o c : Nat} {w : World} {l : List α} (h : Row enc sz w (.slice (some ⟨g, o, none⟩) l.length c) l) (k m d : Nat) (hk : k + m ≤ l.length) (hd : m ≤ d) (hdc : d ≤ c) :
    Row enc sz w (.slice (some ⟨g, o + k * sz, none⟩) m d) ((l.drop k).take m) := by
  obtain ⟨A, c', hv, hc, hm, -, H⟩ := h
  injection hv with e1 _ e3
  subst e1 e3
  have hl : ((l.drop k).take m).length = m := by simp; omega
  refine ⟨_, d, by rw [hl], by rw [hl]; exact hd, by omega, fun h => (by cases h), fun h0 => ?_⟩
  rw [hl] at h0
  obtain ⟨g', o', hA, hg, hx⟩ := H (by omega)
  injection hA with hA
  injection hA with e1 e2
  subst e1 e2
  refine ⟨g, o + k * sz, rfl, hg, fun i x hi => ?_⟩
  rw [List.getElem?_take] at hi
  split at hi
  · rw [List.getElem?_drop] at hi
    have := hx _ x hi
    rwa [Nat.add_mul, ← Nat.add_assoc] at this
  · cases hi
theorem fgrow_any (n : Nat) (hn : n ≤ 200000) (w : World) : Calls Tryz.prog 85 #[.slice none 0 0, .int .i64 (n : Int)] w (OwnsT w []) := by
  rcases Nat.eq_zero_or_pos n with h0 | h0
  · subst h0
    have h := Any8.slices_Grow_room Tryz.growF none 0 0 0 w (by omega) (by omega) (by omega) (by omega)
    change Calls Tryz.prog 85 _ _ _ at h
    refine h.mono fun e w' ⟨h1, h2⟩ => ?_
    subst h1 h2
    exact ⟨_, rfl, Own.nil _, Below.refl _ _⟩
  · obtain ⟨i, hi, hz0, hz1, hz2⟩ := info_parts term_info
    have h := Any8.slices_Grow_grow Tryz.growF i _ hi hz0 (by rw [hz1]; decide) none 0 0 n [] w (by omega) (by omega) (by rw [hz2]; omega) (by omega) (by simp) (fun _ => rfl) (fun a ha => by cases ha)
    change Calls Tryz.prog 85 _ _ _ at h
    refine h.mono fun e w' ⟨h1, h2⟩ => ?_
    subst h1 h2
    have hge := grownCap_ge w (0 + n) 0 47
    refine ⟨_, rfl, ⟨by simp, .inr ⟨w.heap.size, grownCap w (0 + n) 0 47, _, rfl, Nat.le_refl _, heap_alloc_new w.drew _, Nat.zero_le _, grownCap_le_maxLen w _ _ _ (by unfold maxLen; omega), ?_, by simp⟩⟩, (Below.refl _ _).drew.alloc (by simp) _⟩
    simp only [Array.size_append, size_zeroCells]
    have hz6 : (Value.agg #[.int .i64 0, .int .i64 0, .string ⟨#[]⟩, .string ⟨#[]⟩, .int .i64 0, .int .i64 0, .int .i64 0, .string ⟨#[]⟩, .string ⟨#[]⟩, .bool false, .int .i64 0]).cells.size = 11 := rfl
    rw [hz6]
    change 0 + (0 + n - 0) * 11 + (grownCap w (0 + n) 0 47 - (0 + n)) * 11 = grownCap w (0 + n) 0 47 * 11
    omega
set_option maxRecDepth 100000 in
set_option maxHeartbeats 2000000 in
theorem fconcat_any (v : Value) (L : List (List Tm)) (w : World) (hv : Fls w v L) (hb1 : L.length ≤ 65536) (hb2 : (L.map List.length).sum ≤ 131072) :
    Calls Tryz.prog 51 #[v] w (OwnsT w L.flatten) := by
  obtain ⟨us, hul, hu, hur⟩ := hv
  obtain ⟨A, c, rfl, -, -, -, H⟩ := hu
  have HUL := Lib.hid hul
  have HU := Lib.hid hur
  have HH := Lib.hid H
  clear hur H
  rw [← hul] at hb1
  clear hul
  generalize hn : us.length = n at *
  have HN := Lib.hid hn; clear hn
  have HB2 := Lib.hid hb2
  clear hb2
  go_enter Tryz.func51, Tryz.ntmps51
  go_wp2
  go_loopw [3, 11] (fun nn i wr => ∃ k q : Nat, k ≤ n ∧ i = .int .i64 k ∧ nn = .int .i64 (q : Nat) ∧ q = ((L.take k).map List.length).sum ∧ q ≤ 131072 ∧ wr = w) (fun _ i _ => n - (intOf i).toNat)
  case atStart => exact ⟨0, 0, Nat.zero_le _, rfl, rfl, rfl, by omega, rfl⟩
  case round =>
    obtain ⟨k, q, hk, rfl, rfl, hq, hqb, rfl⟩ := hrel
    have HQ := Lib.hid hq
    clear hq
    by_cases hlt : k < n
    · obtain ⟨g, o, rfl, hg, hx⟩ := HH.out (by omega)
      obtain ⟨x, hxk⟩ : ∃ a, us[k]? = some a := ⟨_, List.getElem?_eq_getElem (by rw [HN.out]; exact hlt)⟩
      obtain ⟨a, ha⟩ : ∃ a, L[k]? = some a := ⟨_, List.getElem?_eq_getElem (by rw [← HUL.out]; exact hlt)⟩
      have a0 := (hx k x hxk).one
      have hra : Tms wr x a := HU.out k x a hxk ha
      have HQ2 : Hid (q + a.length = ((L.take (k + 1)).map List.length).sum) := Lib.hid (by rw [sum_takeG ha, HQ.out])
      have hqa : q + a.length ≤ 131072 := by have := sum_takeG_le L (k + 1); have := HB2.out; rw [HQ2.out]; omega
      clear ha hxk hx
      obtain ⟨B, c', rfl, -⟩ := hra
      go_wp2_with fail
      go_roundw
      case rel => exact ⟨k + 1, q + a.length, by omega, by go_num, by go_num, HQ2.out, by omega, by simp⟩
      case measure => simp [intOf]; omega
    · obtain ⟨wo, rfl⟩ : ∃ wo : World, wo = wr := ⟨_, rfl⟩
      go_wp2_with (go_at_call 85; refine (fgrow_any q (by omega) _).mono ?_; rintro e w1 ⟨v1, rfl, ho1, hB1⟩)
      have HO1 := Lib.hid ho1
      have HB1 := Lib.hid hB1
      clear ho1 hB1
      go_loopw [6, 27] (fun vv i wr => ∃ k : Nat, k ≤ n ∧ i = .int .i64 k ∧ OwnT wo.heap.size wr vv (L.take k).flatten ∧ Below wo.heap.size wo wr) (fun _ i _ => n - (intOf i).toNat)
      case atStart => exact ⟨0, Nat.zero_le _, rfl, HO1.out, HB1.out⟩
      case round =>
        obtain ⟨j, hj, rfl, hown, hbw⟩ := hrel
        have HO := Lib.hid hown
        have HBW := Lib.hid hbw
        by_cases hlt2 : j < n
        · obtain ⟨g, o, rfl, hg, hx⟩ := HH.out (by omega)
          obtain ⟨x, hxk⟩ : ∃ a, us[j]? = some a := ⟨_, List.getElem?_eq_getElem (by rw [HN.out]; exact hlt2)⟩
          obtain ⟨a, ha⟩ : ∃ a, L[j]? = some a := ⟨_, List.getElem?_eq_getElem (by rw [← HUL.out]; exact hlt2)⟩
          have a0 := (hbw.cell (p := ⟨g, o + j, none⟩) hg).trans (hx j x hxk).one
          have HRA : Hid (Tms wr x a) := Lib.hid ((HU.out j x a hxk ha).below hbw)
          have HS : Hid ((L.take (j + 1)).flatten = (L.take j).flatten ++ a) := Lib.hid (by rw [List.take_add_one, ha]; simp)
          have HLN : Hid ((L.take j).flatten.length + a.length ≤ 131072) := Lib.hid (by
            have h1 := sum_takeG ha
            have h2 := sum_takeG_le L (j + 1)
            have h3 := HB2.out
            rw [List.length_flatten]; omega)
          clear ha hxk hx hown hbw
          go_wp2_with (at_builtin; refine wpList_append_row (base := wo.heap.size) elTerm rfl _ _ rfl rfl HO.out rfl HRA.out ?_ ?_ ?_ ?_)
          · have := HLN.out; unfold maxLen; omega
          · have := HLN.out; omega
          · exact HBW.out.size
          · intro A' c' w2 hown2 hg2 _
            have HO2 := Lib.hid hown2
            have HG2 := Lib.hid hg2
            clear hown2 hg2 a0
            generalize ((L.take j).flatten ++ a).length = q2 at HO2 ⊢
            go_wp2_with fail
            go_roundw
            case rel => exact ⟨j + 1, by omega, by go_num, by rw [HS.out]; exact HO2.out, HBW.out.trans (HO.out.kept HG2.out HBW.out.size)⟩
            case measure => simp [intOf]; omega
        · have HE : Hid (L.take j = L) := Lib.hid (List.take_of_length_le (by rw [← HUL.out]; omega))
          clear hown hbw
          go_wp2_with fail
          go_ret
          exact ⟨_, rfl, by have := HO.out; rwa [HE.out] at this, HBW.out⟩
theorem fls_four (W : World) (n : Nat) (hn : W.heap.size = n) (E : TypeId) (a b c d : Value) (l1 l2 l3 l4 : List Tm) (h1 : Tms W a l1) (h2 : Tms W b l2) (h3 : Tms W c l3) (h4 : Tms W d l4) : Fls (W.alloc (.cells #[a, b, c, d] E)) (.slice (some ⟨n, 0, none⟩) 4 4) [l1, l2, l3, l4] := by
  subst hn
  have hb : Below W.heap.size W (W.alloc (.cells #[a, b, c, d] E)) := (Below.refl _ _).alloc (Nat.le_refl _) _
  refine ⟨[a, b, c, d], rfl, Row.lit vac_len W E _ [a, b, c, d] (by unfold maxLen; simp) rfl, fun k x l hx hk => ?_⟩
  match k, hx, hk with
  | 0, hx, hk => simp at hx hk; subst hx hk; exact h1.below hb
  | 1, hx, hk => simp at hx hk; subst hx hk; exact h2.below hb
  | 2, hx, hk => simp at hx hk; subst hx hk; exact h3.below hb
  | 3, hx, hk => simp at hx hk; subst hx hk; exact h4.below hb
  | k + 4, hx, hk => simp at hx
set_option maxRecDepth 100000 in
set_option maxHeartbeats 2000000 in
theorem tpipe_any (vf vg : Value) (lf lg : List Tm) (t u : Tr Tm) (w : World) (hf : Tms w vf lf) (hg : Tms w vg lg) (hl1 : lf.length ≤ 1000) (hl2 : lg.length ≤ 1000) (he1 : lf = flat t) (he2 : lg = flat u) (ht : Flt t) :
    Calls Tryz.prog 23 #[vf, vg] w (OwnsT w (flat (pipeT t u))) := by
  have HL := Lib.hid (lastPiped_any vf lf t w hf (by omega) he1 ht.ok ht.rt)
  have HFP : Hid (flat (pipeT t u) = [lf.take (lastP t), [pipeTm], lf.drop (lastP t), lg].flatten) := Lib.hid (by rw [flat_pipe t u ht.ok ht.rt ht.nm, he1, he2]; simp)
  have hle : lastP t < lf.length := by rw [he1]; exact lastP_lt t
  have HF := Lib.hid hf
  have HG := Lib.hid hg
  obtain ⟨g, o, c, rfl, hc, hcm, hgl, -⟩ := hf.opened (by omega)
  obtain ⟨G2, c2, rfl, hc2, hcm2, -⟩ := hg
  have HSUM : Hid (([lf.take (lastP t), [pipeTm], lf.drop (lastP t), lg].map List.length).sum ≤ 131072) := Lib.hid (by simp; omega)
  clear hf he1 he2
  generalize lastP t = at_ at *
  generalize hn : lf.length = N at *
  have HN := Lib.hid hn; clear hn
  generalize hn2 : lg.length = N2 at *
  have HN2 := Lib.hid hn2; clear hn2
  go_enter Tryz.func23, Tryz.ntmps23
  go_wp2_with (go_at_call 50; refine HL.out.mono ?_; rintro e w1 ⟨rfl, rfl⟩)
  have HWD : Hid (∀ (cs : Array Value) (T : TypeId) (cs2 : Array Value) (T2 : TypeId), Below w1.heap.size w1 ((w1.drew.alloc (.cells cs T)).alloc (.cells cs2 T2))) := Lib.hid (fun cs T cs2 T2 => (((Below.refl w1.heap.size w1).drew).alloc (Nat.le_refl _) _).alloc (by simp) _)
  have HAL : Hid (∀ o, Below w1.heap.size w1 (w1.drew.alloc o)) := Lib.hid (fun o => ((Below.refl w1.heap.size w1).drew).alloc (Nat.le_refl _) _)
  have HF0 : Hid (Tms w1 (.slice (some ⟨g, o, none⟩) lf.length c) lf) := Lib.hid (by rw [HN.out]; exact HF.out)
  have HF1 : Hid (∀ ob, Tms (w1.drew.alloc ob) (.slice (some ⟨g, o, none⟩) at_ c) (lf.take at_)) := Lib.hid (fun ob => by
    have := (HF0.out.pc 0 at_ c (by rw [HN.out]; omega) (by omega) (Nat.le_refl _)).below (HAL.out ob)
    simpa using this)
  have HF2 : Hid (∀ ob, Tms (w1.drew.alloc ob) (.slice (some ⟨g, o + at_ * 11, none⟩) (N - at_) (c - at_)) (lf.drop at_)) := Lib.hid (fun ob => by
    have := (HF0.out.pc at_ (N - at_) (c - at_) (by rw [HN.out]; omega) (by omega) (by omega)).below (HAL.out ob)
    rwa [List.take_of_length_le (by rw [List.length_drop, HN.out]; omega)] at this)
  have HG1 : Hid (∀ ob, Tms (w1.drew.alloc ob) (.slice G2 N2 c2) lg) := Lib.hid (fun ob => HG.out.below (HAL.out ob))
  have HP1 : Hid (Tms (w1.drew.alloc (.cells #[.int .i64 4, .int .i64 2, .string ⟨#[]⟩, .string ⟨#[]⟩, .int .i64 0, .int .i64 0, .int .i64 0, .string ⟨#[]⟩, .string ⟨#[]⟩, .bool false, .int .i64 0] 47)) (.slice (some ⟨w1.heap.size, 0, none⟩) 1 1) [pipeTm]) := Lib.hid
    (Row.lit tmc_len w1.drew 47 _ [pipeTm] (by show 1 ≤ maxLen; decide) rfl)
  go_region_with (first | (go_at_call 51; refine (fconcat_any _ [lf.take at_, [pipeTm], lf.drop at_, lg] _ (fls_four (w1.drew.alloc _) _ (by simp) 23 _ _ _ _ _ _ _ _ (HF1.out _) HP1.out (HF2.out _) (HG1.out _)) (by simp) HSUM.out).mono ?_; rintro e w3 ⟨v3, rfl, ho, hb3⟩))
  all_goals
    rw [← HFP.out] at ho
    have hbb : Below w1.heap.size w1 w3 := (HWD.out _ _ _ _).trans (hb3.mono (by simp; omega))
    obtain ⟨A3, c3, rfl, -, -, -⟩ := ho.form
    have HO := Lib.hid (ho.mono (base' := w1.heap.size) (by simp; omega))
    have HBB := Lib.hid hbb
    clear ho hb3 hbb
    go_wp2_with fail
  all_goals go_ret
  all_goals exact ⟨_, rfl, HO.out, HBB.out⟩
end Go.Proofs.YtdgcdemihalefaaGreatDoor
namespace Go.Proofs.YtdgcdemihalefaaGreatDoor
open Go.RowKit Go.Shelf Np Rw Vp Pw Fw
attribute [local go_sem] Oper.semAt_some
theorem fpart_lt {l r : List Tm} {k : Nat} {t : Tr Tm} (h : l.drop k = flat t ++ r) : k + (flat t).length ≤ l.length := by
  have := congrArg List.length h
  have := flat_pos t
  simp at *; omega
abbrev PtF (L : List Tm) := { x : Nat × Tr Tm // okT tmany x.2 ∧ ∃ r, L.drop x.1 = flat x.2 ++ r }
abbrev ptvF (g o c : Nat) {L : List Tm} (x : PtF L) : Value := .slice (some ⟨g, o + x.1.1 * 11, none⟩) (flat x.1.2).length (c - x.1.1)
def SpreadF (L : List Tm) : Nat → List (Tr Tm) → List (PtF L) → Prop
  | _, [], [] => True
  | p, t :: ts, x :: xs => x.1 = (p, t) ∧ SpreadF L (p + (flat t).length) ts xs
  | _, _, _ => False
theorem spreadF_ex {L : List Tm} : ∀ (ts : List (Tr Tm)) (p : Nat) (r : List Tm), okTs tmany ts → L.drop p = flats ts ++ r → ∃ xs, SpreadF L p ts xs
  | [], _, _, _, _ => ⟨[], trivial⟩
  | t :: ts, p, r, h, hd => by
    obtain ⟨h1, h2⟩ := okTs_cons.1 h
    rw [flats_cons, List.append_assoc] at hd
    obtain ⟨xs, hx⟩ := spreadF_ex ts (p + (flat t).length) r h2 (by rw [← List.drop_drop, hd, List.drop_left])
    exact ⟨⟨(p, t), h1, _, hd⟩ :: xs, rfl, hx⟩
theorem spreadF_trees {L : List Tm} : ∀ {ts : List (Tr Tm)} {p : Nat} {xs : List (PtF L)}, SpreadF L p ts xs → xs.map (fun x => x.1.2) = ts
  | [], _, [], _ => rfl
  | t :: ts, p, x :: xs, h => by
    obtain ⟨h1, h2⟩ := h
    rw [List.map_cons, spreadF_trees h2, h1]
  | [], _, _ :: _, h => h.elim
  | _ :: _, _, [], h => h.elim
theorem ptF_row {L : List Tm} {w : World} {g o c : Nat} (h : Tms w (.slice (some ⟨g, o, none⟩) L.length c) L) (x : PtF L) : Tms w (ptvF g o c x) (flat x.1.2) := by
  obtain ⟨⟨p, t⟩, h1, r, h2⟩ := x
  have hl := fpart_lt h2
  simp only at hl h2 ⊢
  have := h.pc p (flat t).length (c - p) hl (by obtain ⟨A, c2, hv2, hc2, -⟩ := h; injection hv2 with _ _ e3; omega) (by omega)
  rwa [h2, List.take_left] at this
def Kq (n₀ Bn : Nat) (W W' : World) : Prop := Below n₀ W W' ∧ W'.heap[Bn]? = W.heap[Bn]?
theorem Kq.refl (n₀ Bn : Nat) (W : World) : Kq n₀ Bn W W := ⟨Below.refl _ _, rfl⟩
theorem Kq.trans {n₀ Bn : Nat} {A B C : World} (h : Kq n₀ Bn A B) (k : Kq n₀ Bn B C) : Kq n₀ Bn A C := ⟨h.1.trans k.1, k.2.trans h.2⟩
theorem kq_b {n₀ Bn : Nat} {w : World} (hn : n₀ ≤ w.heap.size) (hB : Bn < w.heap.size) (W : World) (l : Nat) (o o' : Obj) (hl : w.heap.size ≤ l) (h : W.heap[l]? = some o) (_ : o.isCells = false) (_ : o.isWalk = false) : Kq n₀ Bn W (W.putObj l o') :=
  ⟨belowK_b hn W l o o' hl h (by assumption) (by assumption), (grownBy_putObj' W l o').block Bn (by have := (Array.getElem?_eq_some_iff.1 h).1; omega) (fun e => by cases e; omega)⟩
theorem box_same {Bn : Nat} {W W' : World} {v : Value} {T : TypeId} (hb : Boxed W Bn T v) (h : W'.heap[Bn]? = W.heap[Bn]?) : W'.cell? ⟨Bn, 0, none⟩ = some v := by
  have : Boxed W' Bn T v := h.trans hb
  exact this.cell
set_option maxRecDepth 100000 in
set_option maxHeartbeats 2000000 in
theorem frows1_in (n : Nat) (hn : 1 ≤ n) (l Bn n₀ g o c : Nat) (t : Tr Tm) (xs : List (PtF (flat t))) (J Jx : List (PtF (flat t)) → World → Prop)
    (ht : okT tmany t) (hlen : (flat t).length ≤ 65536) (hsp : SpreadF (flat t) 1 t.ks xs)
    (hY : ∀ pre x W, J pre W → pre.length < xs.length → YieldAt Fence.wide (n - 1) Tryz.prog l #[ptvF g o c x] W fun e W' =>
      (e = .returned (.bool true) ∧ J (pre ++ [x]) W' ∧ Kq n₀ Bn W W') ∨ (e = .returned (.bool false) ∧ Jx (pre ++ [x]) W'))
    (W : World) (hJ : AbidesFrom W.heap.size J) (hBx : Boxed W Bn 23 (.slice (some ⟨g, o, none⟩) (flat t).length c)) (hg : g < n₀) (hL : Tms W (.slice (some ⟨g, o, none⟩) (flat t).length c) (flat t)) (h0 : J [] W) :
    CallsIn Fence.wide n Tryz.prog 59 #[.func (.yield l) #[] #[], .pointer (some ⟨Bn, 0, none⟩)] W fun e W' => (∃ v, e = .returned v) ∧
      ((∃ ys, ys = xs ∧ J ys W') ∨ (∃ pre, pre <+: xs ∧ Jx pre W')) := by
  have hBn := hBx.cell
  have hpos := flat_pos t
  have hLH := Lib.hid hL
  have hHD : (flat t)[0]? = some t.nd := by rw [flat_eq]; rfl
  obtain ⟨g', o', c', hv', -, hcm, hgW, hx⟩ := hL.opened hpos
  injection hv' with e1 _ e3
  injection e1 with e1
  injection e1 with e1 e2
  subst e1 e2 e3
  obtain ⟨-, a1, -, -, -, -, -, -, -, -, -⟩ := (hx 0 _ hHD).tm
  simp only [Nat.zero_mul, Nat.add_zero] at a1
  have hc : (flat t).length ≤ c := by obtain ⟨A, c2, hv2, hc2, -⟩ := hL; injection hv2 with _ _ e3; omega
  have HKS : Hid ((flat t).drop 1 = flats t.ks) := Lib.hid (by rw [flat_eq]; rfl)
  have HOK : Hid (okTs tmany t.ks) := Lib.hid (okT_eq.1 ht).2
  have hmk : t.nd.many = t.ks.length := (okT_eq.1 ht).1
  rw [hmk] at a1
  have hxl : xs.length = t.ks.length := by have := congrArg List.length (spreadF_trees hsp); simpa using this
  have hkl : t.ks.length ≤ 65536 := by have h1 := flats_len t.ks; have h2 := flat_eq t; rw [h2] at hlen; simp at hlen; omega
  have HSP := Lib.hid hsp
  have HJ := Lib.hid hJ
  have HY := Lib.hid hY
  have HBW := Lib.hid hBx
  clear hx hHD hL ht hsp hJ hY hmk hBx
  generalize hK : t.ks.length = K at *
  have HKL := Lib.hid hK; clear hK
  have HXL := Lib.hid hxl
  generalize hN : (flat t).length = N at *
  have HN := Lib.hid hN; clear hN
  have e0 : ((N : Int) == 0) = false := by simp; omega
  refine callsIn_of_wp Tryz.func59 rfl trivial ?_ rfl
  simp only [Tryz.ntmps59, List.size_toArray, List.length_cons, List.length_nil, Nat.reduceAdd, Nat.reduceSub, Array.replicate_succ, Array.replicate_zero, List.push_toArray, List.append_toArray, List.nil_append, List.cons_append]
  gi_wp2_with fail
  gi_loopw [3, 12] (fun s3 s12 wr => ∃ (pre post : List (PtF (flat t))) (ts : List (Tr Tm)) (p : Nat), xs = pre ++ post ∧ SpreadF (flat t) p ts post ∧ okTs tmany ts ∧ (flat t).drop p = flats ts ∧ p ≤ N ∧ 1 ≤ p ∧ s3 = .int .i64 p ∧ s12 = .int .i64 pre.length ∧ J pre wr ∧ Kq n₀ Bn W wr)
    (fun s3 _ _ => N - (intOf s3).toNat)
  case atStart =>
    exact ⟨[], xs, t.ks, 1, rfl, HSP.out, HOK.out, HKS.out, by omega, by omega, rfl, rfl, h0, Kq.refl _ _ _⟩
  case round =>
    obtain ⟨pre, post, ts, p, hxs, hsp, hok, hdr, hp, hp1, rfl, rfl, hJs, hbw⟩ := hrel
    have HXS := Lib.hid hxs
    have HJS := Lib.hid hJs
    have HDR := Lib.hid hdr
    have hcell := box_same HBW.out hbw.2
    have hpx : pre.length + post.length = K := by rw [← HXL.out, hxs]; simp
    cases ts with
    | nil =>
      cases post with
      | cons x post => exact hsp.elim
      | nil =>
        have hpk : pre.length = K := by simpa using hpx
        have HE : Hid (xs = pre) := Lib.hid (by simpa using hxs)
        have hK0 : pre.length ≤ 65536 := by omega
        obtain rfl := hpk
        clear hxs hJs hdr hsp hok hpx
        gi_wp2_with fail
        go_end0
        exact ⟨⟨_, rfl⟩, .inl ⟨pre, HE.out.symm, HJS.out⟩⟩
    | cons u ts' =>
      cases post with
      | nil => exact hsp.elim
      | cons x post' =>
        obtain ⟨hx1, hsp'⟩ := hsp
        obtain ⟨hok1, hok2⟩ := okTs_cons.1 hok
        rw [flats_cons] at hdr
        have hfu := flat_pos u
        have hfl : p + (flat u).length + (flats ts').length = N := by have := congrArg List.length hdr; rw [List.length_drop, HN.out, List.length_append] at this; omega
        have HDR2 : Hid ((flat t).drop (p + (flat u).length) = flats ts') := Lib.hid (by rw [← List.drop_drop, hdr, List.drop_left])
        have HSZ : Hid (Calls Tryz.prog 60 #[.slice (some ⟨g, o, none⟩) N c, .int .i64 (p : Int)] wr fun e w' => e = .returned (.int .i64 ((p + (flat u).length : Nat) : Int)) ∧ w' = wr) := Lib.hid (by
          have h1 := hLH.out
          have h2 := HN.out
          rw [← h2] at h1
          have h3 := h1.low hg hbw.1
          rw [h2] at h3
          refine fpast_any _ (flat t) p (p + (flat u).length) (flats ts') wr h3 (by omega) ?_ (by omega) (by omega)
          have := skip_flat u (flats ts') 0 hok1
          rw [hdr]; simpa using this)
        have HPT : Hid (ptvF g o c x = .slice (some ⟨g, o + p * 11, none⟩) (flat u).length (c - p)) := Lib.hid (by simp only [ptvF, hx1])
        have HPL : Hid (pre.length < xs.length) := Lib.hid (by rw [hxs]; simp)
        have HSP2 := Lib.hid hsp'
        have HOK2 := Lib.hid hok2
        have hplt : pre.length < K := by simp at hpx; omega
        clear hxs hJs hdr hsp' hok hok1 hok2 hx1 hpx
        generalize (flats ts').length = R at *
        generalize hU : (flat u).length = U at *
        have HU := Lib.hid hU; clear hU
        have hpc : ((p + U : Nat) : Int) = (p : Int) + (U : Int) := by omega
        rw [hpc] at HSZ
        have hne : ((p : Int) == (p : Int) + (U : Int)) = false := by simp; omega
        obtain ⟨fn, tmps, assign, body, hy, hR⟩ := HY.out pre x wr HJS.out HPL.out
        rw [HPT.out] at hy
        have HR := Lib.hid hR
        have HBWr := Lib.hid hbw
        clear hR hbw
        gi_wp2_with (first | (refine ⟨trivial, ?_⟩; gi_at_call 60; refine (callsIn_wide.2 HSZ.out).mono ?_; rintro e w' ⟨rfl, rfl⟩))
        refine HR.out.mono ?_
        rintro e W3 (⟨rfl, hJ3, hk3⟩ | ⟨rfl, hJx3⟩)
        · have HJ3 := Lib.hid hJ3
          have HB3 := Lib.hid (HBWr.out.trans hk3)
          clear hJ3 hk3 hy
          gi_wp2_with fail
          all_goals
            go_roundw
            case rel =>
              exact ⟨pre ++ [x], post', ts', p + U, by rw [HXS.out]; simp, HSP2.out, HOK2.out, HDR2.out, by omega, by omega, by congr 1, by simp, HJ3.out, HB3.out⟩
            case measure => simp [intOf]; omega
        · have HJX := Lib.hid hJx3
          clear hJx3 hy
          gi_wp2_with fail
          refine bodyPost_ret (results_none rfl _ _ _) rfl ?_
          exact ⟨⟨_, rfl⟩, .inr ⟨pre ++ [x], ⟨post', by rw [HXS.out]; simp⟩, HJX.out⟩⟩
theorem frows_in (n : Nat) (A : Option Addr) (m c : Nat) (w : World) :
    CallsIn Fence.wide n Tryz.prog 31 #[.slice A m c] w fun e w' => e = .returned (.func (.func 59) #[] #[.pointer (some ⟨w.heap.size, 0, none⟩)]) ∧ w' = w.alloc (.cells #[.slice A m c] 23) := by
  refine callsIn_of_wp Tryz.func31 rfl trivial ?_ rfl
  simp only [Tryz.ntmps31, List.size_toArray, List.length_cons, List.length_nil, Nat.reduceAdd, Nat.reduceSub, Array.replicate_succ, Array.replicate_zero, List.push_toArray, List.append_toArray, List.nil_append, List.cons_append]
  gi_wp2
  go_ret
  exact ⟨rfl, rfl⟩
theorem frows_stops (n : Nat) (hn : 1 ≤ n) (Bn n₀ g o c : Nat) (t : Tr Tm) (xs : List (PtF (flat t))) (ht : okT tmany t) (hlen : (flat t).length ≤ 65536) (hsp : SpreadF (flat t) 1 t.ks xs) (w : World)
    (hc : Boxed w Bn 23 (.slice (some ⟨g, o, none⟩) (flat t).length c)) (hg : g < n₀) (hL : Tms w (.slice (some ⟨g, o, none⟩) (flat t).length c) (flat t)) :
    SeqStopsK Fence.wide n Tryz.prog 59 #[.pointer (some ⟨Bn, 0, none⟩)] (fun x : PtF (flat t) => #[ptvF g o c x]) (Kq n₀ Bn) (fun ys => ys = xs) (fun pre => pre <+: xs) xs.length w := fun l J Jx W hW hJ _ hY h0 =>
  frows1_in n hn l Bn n₀ g o c t xs J Jx ht hlen hsp hY W hJ ((hW.block Bn hc.lt).trans hc) hg (hL.below hW) h0
end Go.Proofs.YtdgcdemihalefaaGreatDoor
namespace Go.Proofs.YtdgcdemihalefaaGreatDoor
open Go.RowKit Go.Shelf Np Rw Vp Pw Fw
attribute [local go_sem] Oper.semAt_some
def ElemsF (base : Nat) (W : World) (zs : List (Option Addr × Nat × Nat)) (L : List (List Tm)) : Prop := zs.length = L.length ∧ ∀ (k : Nat) (z : Option Addr × Nat × Nat) (l : List Tm), zs[k]? = some z → L[k]? = some l → OwnT base W (.slice z.1 z.2.1 z.2.2) l
theorem ElemsF.below {base : Nat} {W W' : World} {zs : List (Option Addr × Nat × Nat)} {L : List (List Tm)} (h : ElemsF base W zs L) (hb : Below W.heap.size W W') : ElemsF base W' zs L := ⟨h.1, fun k z l h1 h2 => (h.2 k z l h1 h2).below hb⟩
theorem ElemsF.snoc {base : Nat} {W : World} {zs : List (Option Addr × Nat × Nat)} {L : List (List Tm)} {z : Option Addr × Nat × Nat} {l : List Tm} (h : ElemsF base W zs L) (hz : OwnT base W (.slice z.1 z.2.1 z.2.2) l) : ElemsF base W (zs ++ [z]) (L ++ [l]) := by
  refine ⟨by simp [h.1], fun k y m h1 h2 => ?_⟩
  rw [List.getElem?_append] at h1 h2
  rw [h.1] at h1
  split at h1
  · rename_i hk
    rw [if_pos hk] at h2
    exact h.2 k y m h1 h2
  · rename_i hk
    rw [if_neg hk] at h2
    have : k - L.length = 0 := by
      have := (List.getElem?_eq_some_iff.1 h1).1
      simp at this; omega
    rw [this] at h1 h2
    simp at h1 h2
    subst h1 h2
    exact hz
theorem ElemsF.fls {base : Nat} {W : World} {v : Value} {zs : List (Option Addr × Nat × Nat)} {L : List (List Tm)} (h : ElemsF base W zs L) (hr : Row slc 1 W v zs) : Fls W v L := by
  refine ⟨zs.map (fun z => .slice z.1 z.2.1 z.2.2), by simp [h.1], ?_, ?_⟩
  · obtain ⟨A, c, hv, hc, hm, hz, H⟩ := hr
    refine ⟨A, c, by simpa using hv, by simpa using hc, hm, hz, fun h0 => ?_⟩
    obtain ⟨g, o, hA, hlt, hx⟩ := H (by simpa using h0)
    refine ⟨g, o, hA, hlt, fun k x hk => ?_⟩
    rw [List.getElem?_map, Option.map_eq_some_iff] at hk
    obtain ⟨z, hz1, rfl⟩ := hk
    exact hx k z hz1
  · intro k x l hx hl
    rw [List.getElem?_map, Option.map_eq_some_iff] at hx
    obtain ⟨z, hz1, rfl⟩ := hx
    exact (h.2 k z l hz1 hl).row tmc_len
def GivesF (w : World) (L : List (List Tm)) (e : Ending) (w' : World) : Prop := ∃ v', e = .returned v' ∧ Fls w' v' L ∧ Below w.heap.size w w'
def PIF {L : List Tm} (w : World) (pre : List (PtF L)) (W : World) : Prop :=
  (∃ v zs, Boxed W w.heap.size 28 v ∧ Own slc 1 23 (w.heap.size + 1 + 1) W v zs ∧ ElemsF w.heap.size W zs (pre.map fun x => flat (clrF x.1.2))) ∧ Below w.heap.size w W ∧ w.heap.size + 1 < W.heap.size
theorem PIF.own {L : List Tm} (w : World) (B : Nat) (hB : w.heap.size ≤ B) : OwnFrom B (PIF (L := L) w) := by
  intro s W W' row hs hg hr
  obtain ⟨⟨v, zs, h1, h2, h3⟩, h4, h5⟩ := hs
  have hr' : ∀ r, row = some r → ∃ o : Obj, W.heap[r]? = some o ∧ o.isCells = false := fun r e => (hr r e).2
  refine ⟨⟨v, zs, boxed_turned h1 hg hr', h2.turned hg hr', h3.1, fun k z l a b => (h3.2 k z l a b).turned hg hr'⟩, ?_, Nat.lt_of_lt_of_le h5 hg.size⟩
  exact ownFrom_below (β := Unit) (Nat.le_refl _) hB () W W' row h4 hg hr
theorem PIF.step {L : List Tm} {w W W1 W3 : World} {pre : List (PtF L)} {x : PtF L} {v0 : Value} {zs : List (Option Addr × Nat × Nat)} {z : Option Addr × Nat × Nat} {v3 : Value} (hb0 : Boxed W w.heap.size 28 v0) (hown : Own slc 1 23 (w.heap.size + 1 + 1) W v0 zs)
    (hel : ElemsF w.heap.size W zs (pre.map fun x => flat (clrF x.1.2))) (hB : Below w.heap.size w W) (hBn : w.heap.size + 1 < W.heap.size) (h1 : Below W.heap.size W W1) (hz : OwnT w.heap.size W1 (.slice z.1 z.2.1 z.2.2) (flat (clrF x.1.2)))
    (h3 : Own slc 1 23 (w.heap.size + 1 + 1) W3 v3 (zs ++ [z])) (hg : (W1.alloc (.cells #[.slice z.1 z.2.1 z.2.2] 23)).grownBy W3 v0.ownBlock) :
    Boxed W3 w.heap.size 28 v0 ∧ KeepsOthers W (W3.setCell ⟨w.heap.size, 0, none⟩ v3) ∧ Kq w.heap.size (w.heap.size + 1) W (W3.setCell ⟨w.heap.size, 0, none⟩ v3) ∧ PIF w (pre ++ [x]) (W3.setCell ⟨w.heap.size, 0, none⟩ v3) := by
  have hbx := hb0.lt
  have hBs := hB.size
  have h2 : Below W.heap.size W (W1.alloc (.cells #[.slice z.1 z.2.1 z.2.2] 23)) := h1.alloc h1.size _
  have hz2 := h2.size
  have hb2 : Boxed (W1.alloc (.cells #[.slice z.1 z.2.1 z.2.2] 23)) w.heap.size 28 v0 := (h2.block _ hbx).trans hb0
  have ho2 : Own slc 1 23 (w.heap.size + 1 + 1) (W1.alloc (.cells #[.slice z.1 z.2.1 z.2.2] 23)) v0 zs := hown.below h2
  have hne : some w.heap.size ≠ v0.ownBlock := hb2.not_row (by decide) ho2
  have hb3 : Boxed W3 w.heap.size 28 v0 := hb2.kept hg hne
  have hne3 : v3.ownBlock ≠ some w.heap.size := fun e => (hb3.not_row (by decide) h3) e.symm
  have hk3 := ho2.kept hg (by omega)
  have hlow : Below w.heap.size W W3 := (h2.mono hBs).trans (hk3.mono (by omega))
  have hset0 := hlow.setCell (p := ⟨w.heap.size, 0, none⟩) (Nat.le_refl _) v3
  have hset : Kq w.heap.size (w.heap.size + 1) W (W3.setCell ⟨w.heap.size, 0, none⟩ v3) := ⟨hset0, (Below.heap_setCell W3 ⟨w.heap.size, 0, none⟩ v3 (w.heap.size + 1) (by simp)).trans ((hk3.block _ (by omega)).trans (h2.block _ hBn))⟩
  refine ⟨hb3, ?_, hset, ⟨v3, zs ++ [z], hb3.set v3, ?_, ?_⟩, hB.trans hset0, Nat.lt_of_lt_of_le hBn hset0.size⟩
  · refine ((keeps_below h2).trans (KeepsOthers.of_grownBy hg (fun j o e ho => ?_))).trans (KeepsOthers.setCell _ _ _)
    obtain ⟨g, cap, cur, hv, _, hh, _⟩ := (ho2.2).resolve_left (fun h => by rw [h.1] at e; cases e)
    rw [hv] at e
    cases e
    rw [hh] at ho
    cases ho
    rfl
  · exact ownsRow_setCell_other h3 hne3 v3
  · have hk : ∀ {v : Value} {l : List Tm}, OwnT w.heap.size (W1.alloc (.cells #[.slice z.1 z.2.1 z.2.2] 23)) v l → OwnT w.heap.size (W3.setCell ⟨w.heap.size, 0, none⟩ v3) v l := by
      intro v l hn
      have hn3 : OwnT w.heap.size W3 v l := World.ownsRow.kept hn hg (own_apart hn ho2 (by decide))
      exact ownsRow_setCell_other hn3 (fun e => (hb3.not_row (by decide) hn3) e.symm) v3
    rw [List.map_append, List.map_singleton]
    exact ElemsF.snoc ⟨hel.1, fun k y l a b => hk ((hel.2 k y l a b).below h2)⟩ (hk (hz.alloc _))
set_option maxRecDepth 100000 in
set_option maxHeartbeats 2000000 in
theorem tparts_any (v : Value) (t : Tr Tm) (w : World) (hv : Tms w v (flat t)) (hl : (flat t).length ≤ 65536) (ht : okT tmany t) :
    Calls Tryz.prog 11 #[v] w (GivesF w (t.ks.map fun k => flat (clrF k))) := by
  obtain ⟨g, o, c, rfl, hc, hcm, hg, -⟩ := hv.opened (flat_pos t)
  have hvH := Lib.hid hv
  obtain ⟨xs, hsp⟩ := spreadF_ex (L := flat t) t.ks 1 [] (okT_eq.1 ht).2 (by rw [flat_eq]; simp)
  have HTR := Lib.hid (spreadF_trees hsp)
  have hxl : xs.length ≤ 65536 := by
    have h1 := congrArg List.length (spreadF_trees hsp)
    have h2 := flats_len t.ks
    have h3 : (flat t).length = 1 + (flats t.ks).length := by rw [flat_eq]; simp; omega
    simp at h1; omega
  clear hv
  refine (callsIn_wide (n := 5)).1 ?_
  refine callsIn_of_wp_marks Tryz.func11 rfl trivial ?_ rfl
  simp only [Tryz.ntmps11, List.size_toArray, List.length_cons, List.length_nil, Nat.reduceAdd, Nat.reduceSub, Array.replicate_succ, Array.replicate_zero, List.push_toArray, List.append_toArray, List.nil_append, List.cons_append]
  gi_wp2_with (refine ⟨trivial, ?_⟩; gi_at_call 31; refine (frows_in _ _ _ _ _).mono ?_; rintro e w' ⟨rfl, rfl⟩)
  have bO := Boxed.new w 28 (.slice none 0 0)
  have bN := Boxed.new (w.alloc (.cells #[.slice none 0 0] 28)) 23 (.slice (some ⟨g, o, none⟩) (flat t).length c)
  rw [World.size_alloc] at bN
  have hB0 : Below w.heap.size w ((w.alloc (.cells #[.slice none 0 0] 28)).alloc (.cells #[.slice (some ⟨g, o, none⟩) (flat t).length c] 23)) := ((Below.refl _ w).alloc (Nat.le_refl _) _).alloc (by simp) _
  refine wpIn_rangeFunc_ownG rfl (by omega) (gf := 59) (lb := #[.pointer (some ⟨w.heap.size + 1, 0, none⟩)]) rfl trivial (enters_of Tryz.func59 (by kernel_rfl) rfl)
    (frows_stops _ (by omega) (w.heap.size + 1) w.heap.size g o c t xs ht hl hsp _ bN hg (hvH.out.below hB0)) Kq.trans (kq_b (by simp; omega) (by simp)) (Below.refl _ _) (fun _ => rfl)
    (PIF w) (fun _ _ _ => False) (PIF.own w _ (by simp; omega)) (fun _ _ _ _ _ hs _ _ => hs)
    ⟨⟨_, [], bO.alloc _, Own.nil _, rfl, fun k z l h => by simp at h⟩, hB0, by simp⟩
    (fun x => { tmps := #[.slice (some ⟨g, o, none⟩) (flat t).length c, undef, .slice none 0 0, .pointer (some ⟨w.heap.size, 0, none⟩), ptvF g o c x, .slice (some ⟨g, o, none⟩) (flat t).length c, .func (.func 59) #[] #[.pointer (some ⟨w.heap.size + 1, 0, none⟩)], ptvF g o c x, undef, undef, undef, undef, undef, undef], defers := [] }) ?assign ?body ?done ?stop
  case assign =>
    intro l x W K hK
    gi_wp2
    exact hK
  case body =>
    rintro l pre x W ⟨⟨v0, zs, hb0, hown, hel⟩, hB, hBn⟩ hlt
    refine wpIn_block ?_
    refine region_round (by kernel_rfl) (by kernel_rfl) (block_no outgrown_no) ?_
    refine wpAny_take (i := 1) (v := ptvF g o c x) rfl (by kernel_rfl) (by kernel_rfl) (by kernel_rfl) (fun _ _ _ h => h) (.inl ⟨rfl, fun w => rfl⟩) ?_
    have hc0 := hb0.cell
    have HPR : Hid (Tms W.drew (ptvF g o c x) (x.1.2.nd :: flats x.1.2.ks)) := Lib.hid (by have := ptF_row ((hvH.out.below hB)) x; rw [flat_eq x.1.2] at this; exact this)
    have HPN : Hid ((x.1.2.nd :: flats x.1.2.ks).length ≤ 65536) := Lib.hid (by
      obtain ⟨⟨p, u⟩, h1, r, h2⟩ := x
      have hq : p + (flat u).length ≤ (flat t).length := fpart_lt h2
      show (u.nd :: flats u.ks).length ≤ 65536
      rw [← flat_eq u]; omega)
    refine wpAny_ready (rs := [0, 2]) (by kernel_rfl) (by simp) ?_
    refine AllReady.cons rfl (fun K hK => ?_) (AllReady.cons rfl (fun K hK => ?_) AllReady.nil)
    · go_simp
      refine hK _ _ ?_
      clear hK K
      refine any_tail 2 4 rfl (by kernel_rfl) ?_
      simp only [List.drop_succ_cons, List.drop_zero]
      go_wp2_with fail
      refine (fown_any _ x.1.2.nd (flats x.1.2.ks) _ HPR.out HPN.out).mono ?_
      rintro e w1 ⟨v1, rfl, ho1, hb1⟩
      obtain ⟨A1, c1, rfl, -, -, -⟩ := ho1.form
      have hW1 : Below W.heap.size W w1 := ⟨hb1.os, hb1.tape, hb1.output, hb1.size, hb1.block⟩
      have HO1 : Hid (OwnT w.heap.size w1 (.slice A1 (noNm x.1.2.nd :: flats x.1.2.ks).length c1) (flat (clrF x.1.2))) := Lib.hid (by rw [flat_clrF]; exact Own.mono ho1 hB.size)
      have hc1 : w1.cell? ⟨w.heap.size, 0, none⟩ = some v0 := (hW1.cell (p := ⟨w.heap.size, 0, none⟩) hb0.lt).trans hc0
      have HW1 := Lib.hid hW1
      have hlt1 : w.heap.size < w1.heap.size := Nat.lt_of_lt_of_le hb0.lt hW1.size
      have HOZ : Hid (Own slc 1 23 (w.heap.size + 1 + 1) (w1.alloc (.cells #[.slice A1 (noNm x.1.2.nd :: flats x.1.2.ks).length c1] 23)) v0 zs) := Lib.hid ((hown.below hW1).alloc _)
      have HRZ : Hid (Row slc 1 (w1.alloc (.cells #[.slice A1 (noNm x.1.2.nd :: flats x.1.2.ks).length c1] 23)) (.slice (some ⟨w1.heap.size, 0, none⟩) 1 1) [(A1, (noNm x.1.2.nd :: flats x.1.2.ks).length, c1)]) := Lib.hid (Row.lit slc_len w1 23 _ [(A1, (noNm x.1.2.nd :: flats x.1.2.ks).length, c1)] (by show 1 ≤ maxLen; decide) rfl)
      clear ho1 hb1 hW1
      generalize hQN : (noNm x.1.2.nd :: flats x.1.2.ks).length = qn at *
      clear hQN
      go_wp2_with (at_builtin; refine wpList_append_row (base := w.heap.size + 1 + 1) elFilter rfl _ _ rfl rfl HOZ.out rfl HRZ.out ?_ ?_ ?_ ?_)
      · have := hel.1; simp at this; simp only [List.length_singleton]; unfold maxLen; omega
      · have := hel.1; simp at this; simp only [List.length_singleton]; omega
      · have := hBn; have := HW1.out.size; simp; omega
      · intro A3 c3 w3 hown3 hg3 _
        obtain ⟨hb3, hk3, hlow3, hpi⟩ := PIF.step (z := (A1, qn, c1)) hb0 hown hel hB hBn HW1.out HO1.out hown3 hg3
        have hc3 := hb3.cell
        have hf3 := hb3.frozen
        have HF : Hid (KeepsFrom (w.heap.size + 1 + 1) W (w3.setCell ⟨w.heap.size, 0, none⟩ (.slice A3 (zs.length + 1) c3)) ∧ Kq w.heap.size (w.heap.size + 1) W (w3.setCell ⟨w.heap.size, 0, none⟩ (.slice A3 (zs.length + 1) c3)) ∧ PIF w (pre ++ [x]) (w3.setCell ⟨w.heap.size, 0, none⟩ (.slice A3 (zs.length + 1) c3))) := Lib.hid ⟨hk3.from _, hlow3, hpi⟩
        clear hk3 hlow3 hpi hown3 hg3
        go_wp2_with fail
        exact HF.out
    · go_simp
      refine (fown_any _ x.1.2.nd (flats x.1.2.ks) _ HPR.out HPN.out).mono ?_
      rintro e w1 ⟨v1, rfl, ho1, hb1⟩
      obtain ⟨A1, c1, rfl, -, -, -⟩ := ho1.form
      have hW1 : Below W.heap.size W w1 := ⟨hb1.os, hb1.tape, hb1.output, hb1.size, hb1.block⟩
      have HO1 : Hid (OwnT w.heap.size w1 (.slice A1 (noNm x.1.2.nd :: flats x.1.2.ks).length c1) (flat (clrF x.1.2))) := Lib.hid (by rw [flat_clrF]; exact Own.mono ho1 hB.size)
      have hc1 : w1.cell? ⟨w.heap.size, 0, none⟩ = some v0 := (hW1.cell (p := ⟨w.heap.size, 0, none⟩) hb0.lt).trans hc0
      have HW1 := Lib.hid hW1
      have hlt1 : w.heap.size < w1.heap.size := Nat.lt_of_lt_of_le hb0.lt hW1.size
      have HOZ : Hid (Own slc 1 23 (w.heap.size + 1 + 1) (w1.alloc (.cells #[.slice A1 (noNm x.1.2.nd :: flats x.1.2.ks).length c1] 23)) v0 zs) := Lib.hid ((hown.below hW1).alloc _)
      have HRZ : Hid (Row slc 1 (w1.alloc (.cells #[.slice A1 (noNm x.1.2.nd :: flats x.1.2.ks).length c1] 23)) (.slice (some ⟨w1.heap.size, 0, none⟩) 1 1) [(A1, (noNm x.1.2.nd :: flats x.1.2.ks).length, c1)]) := Lib.hid (Row.lit slc_len w1 23 _ [(A1, (noNm x.1.2.nd :: flats x.1.2.ks).length, c1)] (by show 1 ≤ maxLen; decide) rfl)
      clear ho1 hb1 hW1
      generalize hQN : (noNm x.1.2.nd :: flats x.1.2.ks).length = qn at *
      clear hQN
      refine hK _ _ ?_
      clear hK K
      refine wpAny_ready (rs := [0, 3]) (by kernel_rfl) (by simp) ?_
      refine AllReady.cons rfl (fun K hK => ?_) (AllReady.cons rfl (fun K hK => ?_) AllReady.nil)
      · go_simp
        refine hK _ _ ?_
        clear hK K
        refine any_tail 3 3 rfl (by kernel_rfl) ?_
        simp only [List.drop_succ_cons, List.drop_zero]
        go_wp2_with (at_builtin; refine wpList_append_row (base := w.heap.size + 1 + 1) elFilter rfl _ _ rfl rfl HOZ.out rfl HRZ.out ?_ ?_ ?_ ?_)
        · have := hel.1; simp at this; simp only [List.length_singleton]; unfold maxLen; omega
        · have := hel.1; simp at this; simp only [List.length_singleton]; omega
        · have := hBn; have := HW1.out.size; simp; omega
        · intro A3 c3 w3 hown3 hg3 _
          obtain ⟨hb3, hk3, hlow3, hpi⟩ := PIF.step (z := (A1, qn, c1)) hb0 hown hel hB hBn HW1.out HO1.out hown3 hg3
          have hc3 := hb3.cell
          have hf3 := hb3.frozen
          have HF : Hid (KeepsFrom (w.heap.size + 1 + 1) W (w3.setCell ⟨w.heap.size, 0, none⟩ (.slice A3 (zs.length + 1) c3)) ∧ Kq w.heap.size (w.heap.size + 1) W (w3.setCell ⟨w.heap.size, 0, none⟩ (.slice A3 (zs.length + 1) c3)) ∧ PIF w (pre ++ [x]) (w3.setCell ⟨w.heap.size, 0, none⟩ (.slice A3 (zs.length + 1) c3))) := Lib.hid ⟨hk3.from _, hlow3, hpi⟩
          clear hk3 hlow3 hpi hown3 hg3
          go_wp2_with fail
          exact HF.out
      · go_simp
        refine hK _ _ ?_
        clear hK K
        refine wpAny_ready (rs := [0]) (by kernel_rfl) (by simp) ?_
        refine AllReady.cons rfl (fun K hK => ?_) AllReady.nil
        go_simp
        refine hK _ _ ?_
        clear hK K
        refine any_tail 4 2 rfl (by kernel_rfl) ?_
        simp only [List.drop_succ_cons, List.drop_zero]
        go_wp2_with (at_builtin; refine wpList_append_row (base := w.heap.size + 1 + 1) elFilter rfl _ _ rfl rfl HOZ.out rfl HRZ.out ?_ ?_ ?_ ?_)
        · have := hel.1; simp at this; simp only [List.length_singleton]; unfold maxLen; omega
        · have := hel.1; simp at this; simp only [List.length_singleton]; omega
        · have := hBn; have := HW1.out.size; simp; omega
        · intro A3 c3 w3 hown3 hg3 _
          obtain ⟨hb3, hk3, hlow3, hpi⟩ := PIF.step (z := (A1, qn, c1)) hb0 hown hel hB hBn HW1.out HO1.out hown3 hg3
          have hc3 := hb3.cell
          have hf3 := hb3.frozen
          have HF : Hid (KeepsFrom (w.heap.size + 1 + 1) W (w3.setCell ⟨w.heap.size, 0, none⟩ (.slice A3 (zs.length + 1) c3)) ∧ Kq w.heap.size (w.heap.size + 1) W (w3.setCell ⟨w.heap.size, 0, none⟩ (.slice A3 (zs.length + 1) c3)) ∧ PIF w (pre ++ [x]) (w3.setCell ⟨w.heap.size, 0, none⟩ (.slice A3 (zs.length + 1) c3))) := Lib.hid ⟨hk3.from _, hlow3, hpi⟩
          clear hk3 hlow3 hpi hown3 hg3
          go_wp2_with fail
          exact HF.out
  case done =>
    rintro D ys W hD rfl ⟨⟨v0, zs, hb0, hown, hel⟩, hB, hBn⟩ hK
    have hc0 := hb0.cell
    gi_wp2
    refine ⟨by simp, .inl ⟨_, _, rfl, run_takeDeferred hK, ?_⟩⟩
    have hr : ∀ r, some D = some r → ∃ o : Obj, W.heap[r]? = some o ∧ o.isCells = false := fun r e => by cases e; exact ⟨_, hK, rfl⟩
    have hpo := grownBy_putObj' W D (.deferred none)
    refine ⟨_, results_tmp rfl _ _ _, v0, rfl, ?_, hB.trans (belowK_b (w := w) (Nat.le_refl _) W D _ _ (by simp at hD; omega) hK rfl rfl)⟩
    have h1 : ElemsF w.heap.size (W.putObj D (.deferred none)) zs (ys.map fun x => flat (clrF x.1.2)) := ⟨hel.1, fun k z l a b => (hel.2 k z l a b).turned hpo hr⟩
    have h2 : ys.map (fun x => flat (clrF x.1.2)) = t.ks.map fun k => flat (clrF k) := by rw [← HTR.out, List.map_map]; rfl
    rw [h2] at h1
    exact h1.fls ((hown.turned hpo hr).row slc_len)
  case stop =>
    rintro D c pre W _ _ h _
    exact h.elim
end Go.Proofs.YtdgcdemihalefaaGreatDoor
namespace Go.Proofs.YtdgcdemihalefaaGreatDoor
open Go.RowKit Np Rw Vp Up Qp Tp Pw Fw
structure Fv (w : World) : Prop where
  pv : Pv w
  wds : Wds w
  sgs : Sgs w
theorem Fv.below {w w' : World} (h : Fv w) (hb : Below w.heap.size w w') : Fv w' := ⟨h.pv.below hb, h.wds.below hb, h.sgs.below hb⟩
theorem row_i (W : World) (m : Nat) (hm : m = W.heap.size) : Tms (W.alloc (.cells #[.int .i64 0, .int .i64 0, .string ⟨#[]⟩, .string ⟨#[]⟩, .int .i64 0, .int .i64 0, .int .i64 0, .string ⟨#[]⟩, .string ⟨#[]⟩, .bool false, .int .i64 0] 47)) (.slice (some ⟨m, 0, none⟩) 1 1) (flat iT) := by
  subst hm
  rw [flat_i]; exact Row.lit tmc_len W 47 _ [bT 0 0] (by decide) rfl
theorem row_a (W : World) (m : Nat) (hm : m = W.heap.size) : Tms (W.alloc (.cells #[.int .i64 5, .int .i64 1, .string ⟨#[]⟩, .string ⟨#[]⟩, .int .i64 0, .int .i64 0, .int .i64 0, .string ⟨#[]⟩, .string ⟨#[]⟩, .bool false, .int .i64 0, .int .i64 4, .int .i64 2, .string ⟨#[]⟩, .string ⟨#[]⟩, .int .i64 0, .int .i64 0, .int .i64 0, .string ⟨#[]⟩, .string ⟨#[]⟩, .bool false, .int .i64 0, .int .i64 7, .int .i64 1, .string ⟨#[]⟩, .string ⟨#[]⟩, .int .i64 0, .int .i64 0, .int .i64 0, .string ⟨#[]⟩, .string ⟨#[]⟩, .bool false, .int .i64 0, .int .i64 16, .int .i64 0, .string ⟨#[]⟩, .string ⟨#[46, 97]⟩, .int .i64 0, .int .i64 3, .int .i64 0, .string ⟨#[]⟩, .string ⟨#[49]⟩, .bool false, .int .i64 0, .int .i64 1, .int .i64 0, .string ⟨#[]⟩, .string ⟨#[98]⟩, .int .i64 0, .int .i64 0, .int .i64 0, .string ⟨#[]⟩, .string ⟨#[]⟩, .bool false, .int .i64 0] 47)) (.slice (some ⟨m, 0, none⟩) 5 5) (flat aT) := by
  subst hm
  rw [flat_a]; exact Row.lit tmc_len W 47 _ [bT 5 1, bT 4 2, bT 7 1, cmpA, fldB] (by decide) rfl
theorem fls_len {w : World} {v : Value} {L : List (List Tm)} (h : Fls w v L) : ∃ (A : Option Addr) (c : Nat), v = .slice A L.length c := by
  obtain ⟨vs, hl, hr, -⟩ := h
  obtain ⟨A, c, hv, -⟩ := hr
  exact ⟨A, c, by rw [← hl]; exact hv⟩
set_option maxRecDepth 100000 in
set_option maxHeartbeats 8000000 in
theorem falive_any (w : World) (hT : Fv w) : Calls Tryz.prog 6 #[] w fun e w' => e = .returned (.bool true) ∧ Below w.heap.size w w' := by
  have HT := Lib.hid hT
  clear hT
  go_enter Tryz.func6, Tryz.ntmps6
  go_wp2_with fail
  have ha := (row_a w w.heap.size rfl).below ((Below.refl _ _).alloc (Nat.le_refl _) (.cells #[.int .i64 0, .int .i64 0, .string ⟨#[]⟩, .string ⟨#[]⟩, .int .i64 0, .int .i64 0, .int .i64 0, .string ⟨#[]⟩, .string ⟨#[]⟩, .bool false, .int .i64 0] 47))
  have hi := row_i (w.alloc (.cells #[.int .i64 5, .int .i64 1, .string ⟨#[]⟩, .string ⟨#[]⟩, .int .i64 0, .int .i64 0, .int .i64 0, .string ⟨#[]⟩, .string ⟨#[]⟩, .bool false, .int .i64 0, .int .i64 4, .int .i64 2, .string ⟨#[]⟩, .string ⟨#[]⟩, .int .i64 0, .int .i64 0, .int .i64 0, .string ⟨#[]⟩, .string ⟨#[]⟩, .bool false, .int .i64 0, .int .i64 7, .int .i64 1, .string ⟨#[]⟩, .string ⟨#[]⟩, .int .i64 0, .int .i64 0, .int .i64 0, .string ⟨#[]⟩, .string ⟨#[]⟩, .bool false, .int .i64 0, .int .i64 16, .int .i64 0, .string ⟨#[]⟩, .string ⟨#[46, 97]⟩, .int .i64 0, .int .i64 3, .int .i64 0, .string ⟨#[]⟩, .string ⟨#[49]⟩, .bool false, .int .i64 0, .int .i64 1, .int .i64 0, .string ⟨#[]⟩, .string ⟨#[98]⟩, .int .i64 0, .int .i64 0, .int .i64 0, .string ⟨#[]⟩, .string ⟨#[]⟩, .bool false, .int .i64 0] 47)) (w.heap.size + 1) (by simp)
  have hb : Below w.heap.size w ((w.alloc (.cells #[.int .i64 5, .int .i64 1, .string ⟨#[]⟩, .string ⟨#[]⟩, .int .i64 0, .int .i64 0, .int .i64 0, .string ⟨#[]⟩, .string ⟨#[]⟩, .bool false, .int .i64 0, .int .i64 4, .int .i64 2, .string ⟨#[]⟩, .string ⟨#[]⟩, .int .i64 0, .int .i64 0, .int .i64 0, .string ⟨#[]⟩, .string ⟨#[]⟩, .bool false, .int .i64 0, .int .i64 7, .int .i64 1, .string ⟨#[]⟩, .string ⟨#[]⟩, .int .i64 0, .int .i64 0, .int .i64 0, .string ⟨#[]⟩, .string ⟨#[]⟩, .bool false, .int .i64 0, .int .i64 16, .int .i64 0, .string ⟨#[]⟩, .string ⟨#[46, 97]⟩, .int .i64 0, .int .i64 3, .int .i64 0, .string ⟨#[]⟩, .string ⟨#[49]⟩, .bool false, .int .i64 0, .int .i64 1, .int .i64 0, .string ⟨#[]⟩, .string ⟨#[98]⟩, .int .i64 0, .int .i64 0, .int .i64 0, .string ⟨#[]⟩, .string ⟨#[]⟩, .bool false, .int .i64 0] 47)).alloc (.cells #[.int .i64 0, .int .i64 0, .string ⟨#[]⟩, .string ⟨#[]⟩, .int .i64 0, .int .i64 0, .int .i64 0, .string ⟨#[]⟩, .string ⟨#[]⟩, .bool false, .int .i64 0] 47)) := ((Below.refl _ _).alloc (Nat.le_refl _) _).alloc (by simp) _
  generalize (w.alloc (.cells #[.int .i64 5, .int .i64 1, .string ⟨#[]⟩, .string ⟨#[]⟩, .int .i64 0, .int .i64 0, .int .i64 0, .string ⟨#[]⟩, .string ⟨#[]⟩, .bool false, .int .i64 0, .int .i64 4, .int .i64 2, .string ⟨#[]⟩, .string ⟨#[]⟩, .int .i64 0, .int .i64 0, .int .i64 0, .string ⟨#[]⟩, .string ⟨#[]⟩, .bool false, .int .i64 0, .int .i64 7, .int .i64 1, .string ⟨#[]⟩, .string ⟨#[]⟩, .int .i64 0, .int .i64 0, .int .i64 0, .string ⟨#[]⟩, .string ⟨#[]⟩, .bool false, .int .i64 0, .int .i64 16, .int .i64 0, .string ⟨#[]⟩, .string ⟨#[46, 97]⟩, .int .i64 0, .int .i64 3, .int .i64 0, .string ⟨#[]⟩, .string ⟨#[49]⟩, .bool false, .int .i64 0, .int .i64 1, .int .i64 0, .string ⟨#[]⟩, .string ⟨#[98]⟩, .int .i64 0, .int .i64 0, .int .i64 0, .string ⟨#[]⟩, .string ⟨#[]⟩, .bool false, .int .i64 0] 47)).alloc (.cells #[.int .i64 0, .int .i64 0, .string ⟨#[]⟩, .string ⟨#[]⟩, .int .i64 0, .int .i64 0, .int .i64 0, .string ⟨#[]⟩, .string ⟨#[]⟩, .bool false, .int .i64 0] 47) = W at *
  refine (tpipe_any _ _ (flat iT) (flat aT) iT aT _ hi ha (by rw [flat_i]; decide) (by rw [flat_a]; decide) rfl rfl fltI).mono ?_
  rintro e w1 ⟨v1, rfl, ho1, hb1⟩
  have HA1 := Lib.hid (ha.below hb1)
  have HB1 := Lib.hid (hb.trans (hb1.mono hb.size))
  have HP1 : Hid (Tms w1 v1 (flat (pipeT iT aT))) := Lib.hid (Own.row tmc_len ho1)
  clear ha hi hb hb1 ho1
  obtain ⟨A1, N1, c1, rfl⟩ : ∃ (A : Option Addr) (N c : Nat), v1 = .slice A N c := by obtain ⟨A, c, h, -⟩ := HP1.out; exact ⟨A, _, c, h⟩
  go_wp2_with fail
  have hi := row_i w1 w1.heap.size rfl
  have hb : Below w1.heap.size w1 (w1.alloc (.cells #[.int .i64 0, .int .i64 0, .string ⟨#[]⟩, .string ⟨#[]⟩, .int .i64 0, .int .i64 0, .int .i64 0, .string ⟨#[]⟩, .string ⟨#[]⟩, .bool false, .int .i64 0] 47)) := (Below.refl _ _).alloc (Nat.le_refl _) _
  refine (tpipe_any _ _ _ (flat iT) (pipeT iT aT) iT _ (HP1.out.below hb) hi (by rw [pipe_len _ _ fltI, flat_i, flat_a]; decide) (by rw [flat_i]; decide) rfl rfl (pipe_right _ _ fltI fltA)).mono ?_
  rintro e w2 ⟨v2, rfl, ho2, hb2⟩
  have hb12 : Below w1.heap.size w1 w2 := hb.trans (hb2.mono hb.size)
  have HA2 := Lib.hid (HA1.out.below hb12)
  have HB2 := Lib.hid (HB1.out.trans (hb12.mono HB1.out.size))
  have HP2 : Hid (Tms w2 v2 (flat pT)) := Lib.hid (Own.row tmc_len ho2)
  clear hi hb hb2 ho2 hb12
  obtain ⟨A2, c2, rfl⟩ : ∃ (A : Option Addr) (c : Nat), v2 = .slice A 9 c := by obtain ⟨A, c, h, -⟩ := HP2.out; rw [flat_p] at h; exact ⟨A, c, h⟩
  go_wp2_with fail
  refine (tright_any _ (flat aT) w2 HA2.out (by rw [flat_a]; decide) (fun t ht => (fitA_all t ht).1) (HT.out.pv.below HB2.out)).mono ?_
  rintro e w3 ⟨rfl, hb3⟩
  rw [right_a]
  have HA3 := Lib.hid (HA2.out.below hb3)
  have HP3 := Lib.hid (HP2.out.below hb3)
  have HB3 := Lib.hid (HB2.out.trans (hb3.mono HB2.out.size))
  have HT3 := Lib.hid (HT.out.below HB3.out)
  clear hb3 HA2 HP2
  go_wp2_with fail
  refine (ttext_any aT _ w3 fitX_a HA3.out HT3.out.pv.pow HT3.out.wds HT3.out.sgs).mono ?_
  rintro e w4 ⟨rfl, hb4⟩
  rw [text_a]
  have HA4 := Lib.hid (HA3.out.below hb4)
  have HP4 := Lib.hid (HP3.out.below hb4)
  have HB4 := Lib.hid (HB3.out.trans (hb4.mono HB3.out.size))
  have HT4 := Lib.hid (HT.out.below HB4.out)
  clear hb4 HA3 HP3
  go_wp2_with fail
  refine (ttext_any pT _ w4 fitX_p HP4.out HT4.out.pv.pow HT4.out.wds HT4.out.sgs).mono ?_
  rintro e w5 ⟨rfl, hb5⟩
  rw [text_p]
  have HA5 := Lib.hid (HA4.out.below hb5)
  have HB5 := Lib.hid (HB4.out.trans (hb5.mono HB4.out.size))
  have HT5 := Lib.hid (HT.out.below HB5.out)
  clear hb5 HA4 HP4
  go_wp2_with fail
  refine (tright_any _ [] w5 (Row.nil _) (by decide) (fun t ht => by cases ht) HT5.out.pv).mono ?_
  rintro e w6 ⟨rfl, hb6⟩
  rw [right_e]
  have HA6 := Lib.hid (HA5.out.below hb6)
  have HB6 := Lib.hid (HB5.out.trans (hb6.mono HB5.out.size))
  clear hb6 HA5
  go_wp2_with fail
  refine (tparts_any _ aT w6 HA6.out (by rw [flat_a]; decide) fltA.ok).mono ?_
  rintro e w7 ⟨v7, rfl, ho7, hb7⟩
  have HA7 := Lib.hid (HA6.out.below hb7)
  have HB7 := Lib.hid (HB6.out.trans (hb7.mono HB6.out.size))
  obtain ⟨A7, c7, rfl⟩ : ∃ (A : Option Addr) (c : Nat), v7 = .slice A 1 c := by
    obtain ⟨A, c, h⟩ := fls_len ho7
    exact ⟨A, c, h⟩
  clear ho7 hb7 HA6
  go_wp2_with fail
  refine (tsame_any _ _ (flat aT) (flat aT) w7 HA7.out HA7.out).mono ?_
  rintro e w8 ⟨rfl, hb8⟩
  rw [show decide (flat aT = flat aT) = true by simp]
  go_wp2_with fail
  go_ret
  exact ⟨rfl, HB7.out.trans (hb8.mono HB7.out.size)⟩
end Go.Proofs.YtdgcdemihalefaaGreatDoor
namespace Go.Proofs.YtdgcdemihalefaaGreatDoor
open Go.RowKit Np Rw Vp Up Qp Pw Fw
def PlE (w : World) (t : Tm) (e : Ending) (w' : World) : Prop := e = .returned (.bool (plainT t)) ∧ Below w.heap.size w w'
theorem plainT_s {t : Tm} (h : ¬ (t.op = 1 ∨ t.op = 12 ∨ t.op = 13 ∨ t.op = 15 ∨ t.op = 16)) (hs : t.s ≠ []) : plainT t = false := by
  have : sOk t.op t.s = false := by
    unfold sOk
    rw [if_neg (fun e => h (.inl e)), if_neg (fun e => h (.inr e))]
    simp [hs]
  simp [plainT, this]
theorem plainT_n {t : Tm} (h : ¬ (t.op = 2 ∨ t.op = 3 ∨ t.op = 16)) (hs : t.n ≠ 0) : plainT t = false := by
  have : nOk t.op t.n = false := by
    unfold nOk
    rw [if_neg (fun e => h (e.elim .inl (fun e => .inr (.inl e)))), if_neg (fun e => h (.inr (.inr e)))]
    simp [hs]
  simp [plainT, this]
theorem plainT_c {t : Tm} (h : t.op ≠ 16) (hs : t.c ≠ zeroC) : plainT t = false := by
  have : cOk t.op t.c = false := by
    unfold cOk
    rw [if_neg h]
    simp [hs]
  simp [plainT, this]
def bareR (t : Tm) : Tm := ⟨t.op, t.many, t.name, if t.op = 1 ∨ t.op = 12 ∨ t.op = 13 ∨ t.op = 15 ∨ t.op = 16 then t.s else [], if t.op = 2 ∨ t.op = 3 ∨ t.op = 16 then t.n else 0, if t.op = 16 then t.c else zeroC⟩
theorem plainT_bareR {t : Tm} (h : t ≠ bareR t) : plainT t = false := by
  by_cases h1 : t.op = 1 ∨ t.op = 12 ∨ t.op = 13 ∨ t.op = 15 ∨ t.op = 16 ∨ t.s = []
  · by_cases h2 : t.op = 2 ∨ t.op = 3 ∨ t.op = 16 ∨ t.n = 0
    · by_cases h3 : t.op = 16 ∨ t.c = zeroC
      · refine absurd ?_ h
        obtain ⟨op, many, name, s, n, c⟩ := t
        simp only [bareR] at *
        congr 1
        · split
          · rfl
          · rename_i hh
            rcases h1 with e | e | e | e | e | e
            · exact absurd (.inl e) hh
            · exact absurd (.inr (.inl e)) hh
            · exact absurd (.inr (.inr (.inl e))) hh
            · exact absurd (.inr (.inr (.inr (.inl e)))) hh
            · exact absurd (.inr (.inr (.inr (.inr e)))) hh
            · exact e
        · split
          · rfl
          · rename_i hh
            rcases h2 with e | e | e | e
            · exact absurd (.inl e) hh
            · exact absurd (.inr (.inl e)) hh
            · exact absurd (.inr (.inr e)) hh
            · exact e
        · split
          · rfl
          · rename_i hh
            exact h3.resolve_left hh
      · exact plainT_c (fun e => h3 (.inl e)) (fun e => h3 (.inr e))
    · exact plainT_n (fun e => h2 (by rcases e with e | e | e <;> simp [e])) (fun e => h2 (by simp [e]))
  · exact plainT_s (fun e => h1 (by rcases e with e | e | e | e | e <;> simp [e])) (fun e => h1 (by simp [e]))
theorem cont_lt {k : Int} (h : k < 5) : cont k = false := by
  have h5 : k ≠ 5 := by omega
  have h6 : k ≠ 6 := by omega
  simp [cont, h5, h6]
theorem kind_lt {c : Nd} (h : rightL [c] = true) (hc : cont c.kind = false) : c.kind < 5 := by
  obtain ⟨t, ht, he⟩ := val_of_rightL h
  have hp : plainN c = true := by
    have h1 := ht.rt
    rw [rightT_eq, Bool.and_eq_true] at h1
    rw [flat_eq] at he
    injection he with e1 e2
    rw [e1]; exact h1.1
  have h5 : c.kind ≠ 5 := by intro e; simp [cont, e] at hc
  have h6 : c.kind ≠ 6 := by intro e; simp [cont, e] at hc
  unfold plainN at hp
  by_cases h0 : c.kind = 0 ∨ c.kind = 1 ∨ c.kind = 2
  · omega
  · rw [if_neg h0] at hp
    by_cases h3 : c.kind = 3
    · omega
    · rw [if_neg h3] at hp
      by_cases h4 : c.kind = 4
      · omega
      · rw [if_neg h4, if_neg (by omega)] at hp
        cases hp
theorem plain16_kind {t : Tm} (h : t.op = 16) (hp : plainT t = true) : t.c.kind < 5 := by
  unfold plainT at hp
  simp only [Bool.and_eq_true] at hp
  have := hp.2
  unfold cOk at this
  rw [if_pos h] at this
  unfold flatN at this
  rw [Bool.and_eq_true] at this
  exact kind_lt this.1 (by simpa using this.2)
theorem refIsPathT_any (s : List UInt8) (w : World) (hs : s.length ≤ 1000000) :
    Calls Tryz.prog 86 #[.string ⟨s.toArray⟩] w fun e w' => e = .returned (.bool (isPth s)) ∧ Below w.heap.size w w' := by
  have HR := Lib.hid (refReadP_any ⟨s.toArray⟩ w (by rw [mk_size]; exact hs))
  have HI : Hid (isPth s = ((readP s).2.2 == 0)) := Lib.hid (by unfold isPth; rfl)
  go_enter Tryz.func86, Tryz.ntmps86
  go_wp2_with (go_at_call 131; refine HR.out.mono ?_; rintro e w1 ⟨A, n, c, rfl, -, hb1⟩)
  go_ret
  exact ⟨ret_bool HI.out.symm, hb1⟩
end Go.Proofs.YtdgcdemihalefaaGreatDoor
namespace Go.Proofs.YtdgcdemihalefaaGreatDoor
open Go.RowKit Np Rw Vp Up Qp Pw Fw
theorem ElemsF.aside {base : Nat} {W W' : World} {v : Value} {xs zs : List (Option Addr × Nat × Nat)} {L : List (List Tm)} (h : ElemsF base W zs L) (hv : Own slc 1 23 base W v xs) (hg : W.grownBy W' v.ownBlock) : ElemsF base W' zs L :=
  ⟨h.1, fun k z l hz hl => by
    refine World.ownsRow.kept (h.2 k z l hz hl) (row := v.ownBlock) hg ?_
    exact own_apart (h.2 k z l hz hl) hv (by decide)⟩
theorem drop_ks {t : Tr Tm} {pre post : List (Tr Tm)} (h : t.ks = pre ++ post) : (flat t).drop (1 + (flats pre).length) = flats post := by
  rw [flat_eq, h, flats_append, Nat.add_comm, List.drop_succ_cons, List.drop_left]
set_option maxRecDepth 100000 in
set_option maxHeartbeats 8000000 in
theorem refPartsL_any (v : Value) (t : Tr Tm) (w : World) (hv : Tms w v (flat t)) (hl : (flat t).length ≤ 60000) (ht : okT tmany t) :
    Calls Tryz.prog 12 #[v] w (GivesF w (t.ks.map fun k => flat (clrF k))) := by
  obtain ⟨g, o, c, rfl, hc, hcm, hg, hx⟩ := hv.opened (flat_pos t)
  have hmany : t.nd.many = t.ks.length := (okT_eq.1 ht).1
  have a1 : w.cell? ⟨g, o + 1, none⟩ = some (.int .i64 (t.ks.length : Nat)) := by
    have := (hx 0 t.nd (by rw [flat_eq]; rfl)).tm.c1
    rw [hmany] at this
    simpa using this
  have HA1 := Lib.hid a1
  have HV := Lib.hid hv
  have HKS := Lib.hid (okT_eq.1 ht).2
  have hkl : t.ks.length ≤ 60000 := by
    have h1 := flats_len t.ks
    rw [flat_eq] at hl
    simp at hl
    omega
  have hpos := flat_pos t
  have HDR : Hid (∀ pre post, t.ks = pre ++ post → (flat t).drop (1 + (flats pre).length) = flats post) := Lib.hid (fun pre post h => drop_ks h)
  have HX := Lib.hid hx
  clear hx hv hmany a1
  have HLL := Lib.hid hl
  unfold maxLen at hcm
  generalize hn : (flat t).length = n at *
  have HN := Lib.hid hn
  clear hn
  generalize hq : t.ks.length = q at *
  have HQ := Lib.hid hq
  clear hq
  have HO0 : Hid (Own slc 1 23 w.heap.size (w.alloc (.cells #[] 23)) (.slice (some ⟨w.heap.size, 0, none⟩) 0 0) []) := Lib.hid (Own.lit (l := []) slc_len w #[] (Nat.le_refl _) (Nat.zero_le _) rfl)
  go_enter Tryz.func12, Tryz.ntmps12
  go_wp2_with fail
  go_loopw [3, 4, 5] (fun ov iv kv wr => ∃ (pre post : List (Tr Tm)) (zs : List (Option Addr × Nat × Nat)), t.ks = pre ++ post ∧ kv = .int .i64 pre.length ∧ iv = .int .i64 (1 + (flats pre).length : Nat) ∧ Own slc 1 23 w.heap.size wr ov zs ∧ ElemsF w.heap.size wr zs (pre.map fun k => flat (clrF k)) ∧ Below w.heap.size w wr) (fun _ _ kv _ => q - (intOf kv).toNat)
  case atStart => exact ⟨[], t.ks, [], rfl, rfl, rfl, HO0.out, ⟨rfl, fun k z l h => by simp at h⟩, (Below.refl _ _).alloc (Nat.le_refl _) _⟩
  case round =>
    obtain ⟨pre, post, zs, hpp, rfl, rfl, hown, hels, hb⟩ := hrel
    have a2 := (hb.cell (p := ⟨g, o + 1, none⟩) hg).trans HA1.out
    have HO := Lib.hid hown
    have HE := Lib.hid hels
    have HB := Lib.hid hb
    have HP := Lib.hid hpp
    have hlen : pre.length + post.length = q := by rw [← HQ.out, hpp]; simp
    obtain ⟨Ao, co, rfl, -, -, -⟩ := hown.form
    clear hown hels hb hpp
    cases post with
    | nil =>
      simp only [List.length_nil, Nat.add_zero] at hlen
      have HF : Hid (pre = t.ks) := Lib.hid (by rw [HP.out]; simp)
      have hlt : ¬ (pre.length : Int) < q := by omega
      clear hlen
      go_wp2_with fail
      go_ret
      exact ⟨_, rfl, by have := HE.out; rw [HF.out] at this; exact this.fls (HO.out.row slc_len), HB.out⟩
    | cons u rest =>
      simp only [List.length_cons] at hlen
      have hdr := HDR.out pre (u :: rest) HP.out
      rw [flats_cons] at hdr
      have hoku : okT tmany u := by have := HKS.out; rw [HP.out, okTs_append, okTs_cons] at this; exact this.2.1
      have hnx := nxtF_at hdr hoku
      have hup := flat_pos u
      have hpl : 1 + (flats pre).length + (flat u).length ≤ n := by
        have h1 := congrArg List.length hdr
        rw [List.length_drop, HN.out, List.length_append] at h1
        omega
      have hlt : (pre.length : Int) < q := by omega
      generalize hi : 1 + (flats pre).length = i at *
      generalize hm : (flat u).length = m at *
      rw [HN.out] at hnx
      have HNX := Lib.hid hnx
      have HPC : Hid (∀ W, Below wr.heap.size wr W → Tms W (.slice (some ⟨g, o + i * 11, none⟩) m (c - i)) (flat u)) := Lib.hid (fun W hW => by
        have h0 : Tms W (.slice (some ⟨g, o, none⟩) (flat t).length c) (flat t) := by rw [HN.out]; exact (HV.out.below HB.out).below hW
        have h1 := h0.pc i m (c - i) (by rw [HN.out]; exact hpl) (by omega) (by omega)
        rwa [hdr, ← hm, List.take_left, hm] at h1)
      have HNE := Lib.hid (refNextT_any (.slice (some ⟨g, o, none⟩) n c) (flat t) i wr (HV.out.below HB.out) (by rw [HN.out]; omega) (by rw [HN.out]; omega))
      rw [HN.out, HNX.out] at HNE
      have hlc : i + m ≤ c := by omega
      clear hdr hoku hnx HNX
      go_wp2_with fail
      refine HNE.out.mono ?_
      rintro e w' ⟨rfl, rfl⟩
      have HO4 : Hid (OwnT wr.heap.size (wr.alloc (.cells #[] 47)) (.slice (some ⟨wr.heap.size, 0, none⟩) 0 0) []) := Lib.hid (Own.lit (l := []) tmc_len wr #[] (Nat.le_refl _) (Nat.zero_le _) rfl)
      have HR4 : Hid (Tms (wr.alloc (.cells #[] 47)) (.slice (some ⟨g, o + i * 11, none⟩) (i + m - i) (c - i)) (flat u)) := Lib.hid (by rw [show i + m - i = m by omega]; exact HPC.out _ ((Below.refl _ _).alloc (Nat.le_refl _) _))
      have hic : ¬ (i = c) := by omega
      have HMU := Lib.hid hm
      clear hm
      go_wp2_with (at_builtin; refine wpList_append_row (base := wr.heap.size) elTerm rfl _ _ rfl rfl HO4.out rfl HR4.out ?_ ?_ ?_ ?_)
      · rw [HMU.out]; unfold maxLen; simp only [List.length_nil]; omega
      · rw [HMU.out]; simp only [List.length_nil]; omega
      · simp
      intro A4 c4 w4 hown4 hg4 _
      have HB4 : Hid (Below wr.heap.size wr w4) := Lib.hid (((Below.refl _ _).alloc (Nat.le_refl _) _).trans (HO4.out.kept hg4 (by simp)))
      have HN4 : Hid (OwnT wr.heap.size w4 (.slice A4 m c4) (flat u)) := Lib.hid (by have h := hown4; simp only [HMU.out] at h; exact h)
      try simp only [HMU.out]
      clear hown4 hg4 HO4 HR4
      have HK0 : Hid ((flat u)[0]? = some u.nd) := Lib.hid (by rw [flat_eq]; rfl)
      obtain ⟨g4, rfl, HG4⟩ : ∃ g4, A4 = some ⟨g4, 0, none⟩ ∧ Hid (wr.heap.size ≤ g4 ∧ g4 < w4.heap.size ∧ m ≤ c4) := by
        obtain ⟨g', cap, hv, h1, h2⟩ := HN4.out.opened (by rw [HMU.out]; exact hup)
        injection hv with e1 _ e3
        exact ⟨g', e1, Lib.hid ⟨h1, h2, HN4.out.cap.2.1⟩⟩
      have htm : Tm11 w4 g4 0 u.nd := by
        have h : OwnT wr.heap.size w4 (.slice (some ⟨g4, 0, none⟩) (flat u).length c4) (flat u) := by rw [HMU.out]; exact HN4.out
        have h1 := fun j x (hj : (tmc u.nd)[j]? = some x) => Own.cell tmc_len (k := 0) (j := j) h HK0.out hj
        simp only [Nat.zero_mul, Nat.zero_add] at h1
        exact ⟨h1 0 _ rfl, h1 1 _ rfl, h1 2 _ rfl, h1 3 _ rfl, h1 4 _ rfl, h1 5 _ rfl, h1 6 _ rfl, h1 7 _ rfl, h1 8 _ rfl, h1 9 _ rfl, h1 10 _ rfl⟩
      obtain ⟨y0, y1, y2, y3, y4, y5, y6, y7, y8, y9, y10⟩ := htm
      simp only [Nat.zero_add] at y0 y1 y2 y3 y4 y5 y6 y7 y8 y9 y10
      have HTH4 : Hid (∀ ob : Obj, (w4.alloc ob).there g4 0 11) := Lib.hid (fun ob => by
        have h : OwnT wr.heap.size (w4.alloc ob) (.slice (some ⟨g4, 0, none⟩) (flat u).length c4) (flat u) := by rw [HMU.out]; exact HN4.out.alloc ob
        have := Own.there tmc_len h HK0.out
        simpa using this)
      have HPU4 : Hid (∀ ob : Obj, OwnT wr.heap.size ((w4.alloc ob).setCells g4 0 (tmc (noNm u.nd))) (.slice (some ⟨g4, 0, none⟩) m c4) (flat (clrF u))) := Lib.hid (fun ob => by
        have h : OwnT wr.heap.size (w4.alloc ob) (.slice (some ⟨g4, 0, none⟩) (flat u).length c4) (flat u) := by rw [HMU.out]; exact HN4.out.alloc ob
        have h2 := Own.puts (y := noNm u.nd) tmc_len h HK0.out
        rw [HMU.out, flat_eq u, List.set_cons_zero, ← flat_clrF u] at h2
        simpa using h2)
      have HBU4 : Hid (∀ ob : Obj, Below wr.heap.size wr ((w4.alloc ob).setCells g4 0 (tmc (noNm u.nd)))) := Lib.hid (fun ob => Below.setCells HG4.out.1 _ _ (HB4.out.alloc HB4.out.size ob))
      have hzc4 : 0 < c4 := Nat.lt_of_lt_of_le hup HG4.out.2.2
      go_upto_region 10 with fail
      go_upto_region 11 with (with_reducible refine wpList_store_term rfl _ _ rfl g4 0 (noNm u.nd) ?sx ?sy (HTH4.out _) ?sz)
      case sx => rfl
      case sy => rfl
      case sz =>
        have hn5 := HPU4.out (.cells #[.int .i64 u.nd.op, .int .i64 u.nd.many, .string ⟨#[]⟩, .string ⟨u.nd.s.toArray⟩, .int .i64 u.nd.n, .int .i64 u.nd.c.kind, .int .i64 u.nd.c.many, .string ⟨u.nd.c.name.toArray⟩, .string ⟨u.nd.c.s.toArray⟩, .bool u.nd.c.neg, .int .i64 u.nd.c.e] 47)
        have hb5 := HBU4.out (.cells #[.int .i64 u.nd.op, .int .i64 u.nd.many, .string ⟨#[]⟩, .string ⟨u.nd.s.toArray⟩, .int .i64 u.nd.n, .int .i64 u.nd.c.kind, .int .i64 u.nd.c.many, .string ⟨u.nd.c.name.toArray⟩, .string ⟨u.nd.c.s.toArray⟩, .bool u.nd.c.neg, .int .i64 u.nd.c.e] 47)
        clear y0 y1 y2 y3 y4 y5 y6 y7 y8 y9 y10 HTH4 HPU4 HBU4
        generalize (w4.alloc (.cells #[.int .i64 u.nd.op, .int .i64 u.nd.many, .string ⟨#[]⟩, .string ⟨u.nd.s.toArray⟩, .int .i64 u.nd.n, .int .i64 u.nd.c.kind, .int .i64 u.nd.c.many, .string ⟨u.nd.c.name.toArray⟩, .string ⟨u.nd.c.s.toArray⟩, .bool u.nd.c.neg, .int .i64 u.nd.c.e] 47)).setCells g4 0 (tmc (noNm u.nd)) = w5 at hn5 hb5 ⊢
        have HO5 := Lib.hid (HO.out.below hb5)
        have HE5 := Lib.hid (ElemsF.below HE.out hb5)
        have HN5 := Lib.hid (hn5.mono HB.out.size)
        have HB5 := Lib.hid (HB.out.trans (hb5.mono HB.out.size))
        have HZL : Hid (zs.length + 1 ≤ 60001) := Lib.hid (by have := HE.out.1; rw [List.length_map] at this; omega)
        have HIX : Hid (1 + (flats (pre ++ [u])).length = i + m) := Lib.hid (by rw [flats_append, flats_cons]; simp; rw [HMU.out]; omega)
        clear hn5 hb5 HN4 HB4 HG4 a2
        go_wp2_with (at_builtin; refine wpList_append_row (base := w.heap.size) elFilter rfl _ _ rfl rfl (HO5.out.alloc _) rfl (Row.lit slc_len w5 23 #[.slice (some ⟨g4, 0, none⟩) m c4] [(some ⟨g4, 0, none⟩, m, c4)] (by show 1 ≤ maxLen; decide) rfl) ?_ ?_ ?_ ?_)
        · have := HZL.out; unfold maxLen; simp only [List.length_singleton]; omega
        · have := HZL.out; simp only [List.length_singleton]; omega
        · have := HB5.out.size; simp; omega
        intro A6 c6 w6 hown6 hg6 _
        have ha5 := (Below.refl w5.heap.size w5).alloc (Nat.le_refl _) (.cells #[.slice (some ⟨g4, 0, none⟩) m c4] 23)
        have HB6 : Hid (Below w.heap.size w w6) := Lib.hid ((HB5.out.trans (ha5.mono HB5.out.size)).trans ((HO5.out.alloc _).kept hg6 (by have := HB5.out.size; simp; omega)))
        have HE6 : Hid (ElemsF w.heap.size w6 (zs ++ [(some ⟨g4, 0, none⟩, m, c4)]) ((pre ++ [u]).map fun k => flat (clrF k))) := Lib.hid (by
          rw [List.map_append]
          exact ElemsF.aside (ElemsF.below (HE5.out.snoc (z := (some ⟨g4, 0, none⟩, m, c4)) HN5.out) ha5) (HO5.out.alloc _) hg6)
        have HO6 := Lib.hid hown6
        clear hown6 hg6 ha5
        go_wp2_with fail
        refine ⟨⟨pre ++ [u], rest, zs ++ [(some ⟨g4, 0, none⟩, m, c4)], by rw [HP.out]; simp, by simp, by rw [HIX.out]; rfl, ?_, HE6.out, HB6.out⟩, ?_⟩
        · exact HO6.out
        · simp [intOf]; omega
end Go.Proofs.YtdgcdemihalefaaGreatDoor
namespace Go.Proofs.YtdgcdemihalefaaGreatDoor
open Go.ChangeShapes Go.WideShapes Go.ChangeAt Go.RowKit Tp
theorem ownKn : ownKnob Tryz.prog.godebug = none := by kernel_rfl
theorem laidOut : laidOutB Tryz.prog = true := by kernel_rfl
def seatLaid : List (String × DataW Unit) := [("math/bits.deBruijn32tab", Rows.laid_math_bits_deBruijn32tab), ("math/bits.deBruijn64tab", Rows.laid_math_bits_deBruijn64tab), ("internal/strconv.uint64pow10", Rows.laid_internal_strconv_uint64pow10), ("unicode/utf8.acceptRanges", Rows.laid_unicode_utf8_acceptRanges), ("strconv.ErrRange", Rows.laid_strconv_ErrRange), ("strconv.ErrSyntax", Rows.laid_strconv_ErrSyntax), ("loupe/text.words", Rows.laid_loupe_text_words), ("loupe/term.signs", Rows.laid_loupe_term_signs), ("unicode/utf8.first", Rows.laid_unicode_utf8_first)]
theorem powData : (Rows.laid_internal_strconv_uint64pow10 : DataW Unit) = Lib.tabData .u64 Lib.pow10Tab := by kernel_rfl
theorem powTab_of_laid {W : World} (h : laidMetH Tryz.prog seatLaid W) : PowTab W := by
  rw [MakeChecks.laidMetH_plain _ _ _ (by kernel_rfl)] at h
  have h2 := laidMet.tail (laidMet.tail h)
  rw [powData] at h2
  exact Lib.tabIs_of_head powTab (by kernel_rfl : _ = some 270) Tryz.underlying270 Tryz.underlying210 (by kernel_rfl) (by kernel_rfl) h2
theorem acceptSaid : (Rows.laid_unicode_utf8_acceptRanges : DataW Unit) = Lib.acceptData := by kernel_rfl
theorem tabs_of_laid {W : World} (h : laidMetH Tryz.prog seatLaid W) : Tabs W := by
  rw [MakeChecks.laidMetH_plain _ _ _ (by kernel_rfl)] at h
  refine utf8Tabs_of_readsT (ρ := Tryz.laysValid_ren) (U8Types.of196 Tryz.laysValid) ⟨by kernel_rfl, by kernel_rfl, by kernel_rfl, by kernel_rfl, by kernel_rfl, by kernel_rfl, by kernel_rfl⟩ ?_ ?_
  · have := Lib.laidMet.reads h (.tail _ (.tail _ (.tail _ (.tail _ (.tail _ (.tail _ (.tail _ (.tail _ (.head _)))))))))
    rw [show Rows.laid_unicode_utf8_first = Lib.firstData from Pinned.utf8First_eq] at this
    exact this
  · have := Lib.laidMet.reads h (.tail _ (.tail _ (.tail _ (.head _))))
    rw [acceptSaid] at this
    exact this
theorem er_of_laid {W : World} (h : laidMetH Tryz.prog seatLaid W) : Er W := by
  rw [MakeChecks.laidMetH_plain _ _ _ (by kernel_rfl)] at h
  have h2 := laidMet.tail (laidMet.tail (laidMet.tail (laidMet.tail (laidMet.tail h))))
  obtain ⟨ps, ⟨g0, t0, cs0, f0, p0, q0, hg0, ht0, hv0, hd0, _, e0⟩, _, hrows⟩ := h2
  have hg : Tryz.prog.globalNamed "strconv.ErrSyntax" = some 8 := by kernel_rfl
  obtain rfl := Option.some.inj (hg.symm.trans hg0)
  obtain rfl := Option.some.inj ((show (Tryz.prog.globals[8]?).map (·.type) = some 104 by kernel_rfl).symm.trans ht0)
  obtain ⟨f1, u, v, hc, -⟩ := iface_of_trod Tryz.underlying104 hd0
  obtain ⟨l0⟩ := cs0
  simp only at hc
  subst hc
  exact ⟨.iface u v, by simpa using World.var?_cell hg0 hv0 0, .inr ⟨_, _, rfl⟩⟩
theorem er2_of_laid {W : World} (h : laidMetH Tryz.prog seatLaid W) : ∃ ev, W.cell? ⟨9, 0, none⟩ = some ev ∧ (ev = .nilIface ∨ ∃ te pe, ev = .iface te pe) := by
  rw [MakeChecks.laidMetH_plain _ _ _ (by kernel_rfl)] at h
  have h2 := laidMet.tail (laidMet.tail (laidMet.tail (laidMet.tail h)))
  obtain ⟨ps, ⟨g0, t0, cs0, f0, p0, q0, hg0, ht0, hv0, hd0, _, e0⟩, _, hrows⟩ := h2
  have hg : Tryz.prog.globalNamed "strconv.ErrRange" = some 9 := by kernel_rfl
  obtain rfl := Option.some.inj (hg.symm.trans hg0)
  obtain rfl := Option.some.inj ((show (Tryz.prog.globals[9]?).map (·.type) = some 104 by kernel_rfl).symm.trans ht0)
  obtain ⟨f1, u, v, hc, -⟩ := iface_of_trod Tryz.underlying104 hd0
  obtain ⟨l0⟩ := cs0
  simp only at hc
  subst hc
  exact ⟨.iface u v, by simpa using World.var?_cell hg0 hv0 0, .inr ⟨_, _, rfl⟩⟩
theorem pv_of_laid {W : World} (h : laidMetH Tryz.prog seatLaid W) : Pv W := ⟨powTab_of_laid h, tabs_of_laid h, er_of_laid h, er2_of_laid h⟩
theorem cells_of_texts {H : Type} {enc : TypeId × Value → H} {P : Program} {w : World} {base : Nat} {sp : Nat → Bool} {held : Bool} {fuel : Nat} {t e : TypeId} {n : Nat} {cs : List Value} {zs : List (List UInt8)} {p : List MemPlace}
    (ht : P.underlying t = some (.array n e)) (he : P.underlying e = some .string) (hce : P.cellsOf e = 1) (hct : P.cellsOf t = n)
    (h : DataW.trod enc P w base sp held fuel t cs = some (.agg (zs.map fun z => .lit (.string z)), p)) : cs = zs.map fun z => Value.string ⟨z.toArray⟩ := by
  cases fuel with
  | zero => simp [DataW.trod] at h
  | succ fuel =>
    simp only [DataW.trod, ht, hce, hct, Nat.mul_one] at h
    split at h
    · rename_i hl
      obtain ⟨xs, hm, hx⟩ := Option.map_eq_some_iff.1 h
      have hxs : xs.map (·.1) = zs.map fun z => (DataW.lit (.string z) : DataW H) := by
        have := congrArg Prod.fst hx
        simpa using this
      have hxl : xs.length = n := by simpa using Lib.mapM_length hm
      have hzl : zs.length = n := by
        have := congrArg List.length hxs
        simp at this
        omega
      apply List.ext_getElem?
      intro i
      by_cases hi : i < n
      · obtain ⟨b, hb, hf⟩ := Lib.mapM_at hm i i (by simp [hi])
        obtain ⟨z, hc, rfl, _⟩ := DataW.trod_string he hf
        have h1 : cs[i]? = some (.string z) := by
          have := congrArg (·[0]?) hc
          simpa [List.getElem?_take, List.getElem?_drop] using this
        have h2 : (xs.map (·.1))[i]? = some (DataW.lit (.string z.data.toList) : DataW H) := by simp [hb]
        rw [hxs] at h2
        simp only [List.getElem?_map, Option.map_eq_some_iff, DataW.lit.injEq, Lit.string.injEq] at h2
        obtain ⟨z', hz', rfl⟩ := h2
        simp [h1, hz']
      · rw [List.getElem?_eq_none (by omega), List.getElem?_eq_none (by simp; omega)]
    · cases h
theorem wds_of_laid {W : World} (h : laidMetH Tryz.prog seatLaid W) : Wds W := by
  rw [MakeChecks.laidMetH_plain _ _ _ (by kernel_rfl)] at h
  have h2 := laidMet.tail (laidMet.tail (laidMet.tail (laidMet.tail (laidMet.tail (laidMet.tail h)))))
  obtain ⟨ps, ⟨g0, t0, cs0, f0, p0, q0, hg0, ht0, hv0, hd0, _, e0⟩, _, hrows⟩ := h2
  have hg : Tryz.prog.globalNamed "loupe/text.words" = some 3 := by kernel_rfl
  obtain rfl := Option.some.inj (hg.symm.trans hg0)
  obtain rfl := Option.some.inj ((show (Tryz.prog.globals[3]?).map (·.type) = some 222 by kernel_rfl).symm.trans ht0)
  have hc := cells_of_texts (zs := [wNull, wFalse, wTrue]) Tryz.underlying222 Tryz.underlying9 (by kernel_rfl) (by kernel_rfl) hd0
  obtain ⟨l0⟩ := cs0
  simp only at hc
  subst hc
  exact ⟨by simpa using World.var?_cell hg0 hv0 0, by simpa using World.var?_cell hg0 hv0 1, by simpa using World.var?_cell hg0 hv0 2⟩
theorem sgs_of_laid {W : World} (h : laidMetH Tryz.prog seatLaid W) : Sgs W := by
  rw [MakeChecks.laidMetH_plain _ _ _ (by kernel_rfl)] at h
  have h2 := laidMet.tail (laidMet.tail (laidMet.tail (laidMet.tail (laidMet.tail (laidMet.tail (laidMet.tail h))))))
  obtain ⟨ps, ⟨g0, t0, cs0, f0, p0, q0, hg0, ht0, hv0, hd0, _, e0⟩, _, hrows⟩ := h2
  have hg : Tryz.prog.globalNamed "loupe/term.signs" = some 2 := by kernel_rfl
  obtain rfl := Option.some.inj (hg.symm.trans hg0)
  obtain rfl := Option.some.inj ((show (Tryz.prog.globals[2]?).map (·.type) = some 175 by kernel_rfl).symm.trans ht0)
  have hc := cells_of_texts (zs := [[61, 61], [33, 61], [60], [60, 61], [62], [62, 61]]) Tryz.underlying175 Tryz.underlying9 (by kernel_rfl) (by kernel_rfl) hd0
  obtain ⟨l0⟩ := cs0
  simp only at hc
  subst hc
  exact ⟨by simpa using World.var?_cell hg0 hv0 0, by simpa using World.var?_cell hg0 hv0 1, by simpa using World.var?_cell hg0 hv0 2, by simpa using World.var?_cell hg0 hv0 3, by simpa using World.var?_cell hg0 hv0 4, by simpa using World.var?_cell hg0 hv0 5⟩
theorem fv_of_laid {W : World} (h : laidMetH Tryz.prog seatLaid W) : Fv W := ⟨pv_of_laid h, wds_of_laid h, sgs_of_laid h⟩
theorem laid_met (os : Os) (args : Array Value) : laidMetH Tryz.prog seatLaid ((World.laidAll Tryz.prog os seatLaid).forCall (fun _ _ => 0) ⟨#[], args, []⟩).memory := by
  rw [MakeChecks.laidMetH_plain _ _ _ (by kernel_rfl)]
  exact laidMet_laidAll _ (by kernel_rfl) (by kernel_rfl)
section
variable {H : Type} {enc : TypeId × Value → H} {P : Program} {W W' : World}
theorem trodAll_below (hl : laidOutB P = true) (hb : Below W.heap.size W W') : ∀ {ts : List TypeId} {vs : List Value} {ds : List (DataW H)} {ps : List MemPlace}, (∀ t ∈ ts, P.readableRec t = true ∧ t < P.types.size) →
    DataW.TrodAll enc P W 0 (fun _ => true) true ts vs ds ps → (∀ x ∈ ps, x.block < W.heap.size) → DataW.TrodAll enc P W' 0 (fun b => decide (b < W.heap.size)) true ts vs ds ps
  | [], [], [], _, _, h, _ => h
  | t :: ts, v :: vs, d :: ds, _, ht, h, hlt => by
    obtain ⟨p, q, h1, h2, rfl⟩ := h
    exact ⟨p, q, Below.trod hl (ht t (by simp)).1 (ht t (by simp)).2 h1 hb (fun x hx => hlt x (by simp [hx])), trodAll_below hl hb (fun u hu => ht u (by simp [hu])) h2 (fun x hx => hlt x (by simp [hx])), rfl⟩
  | [], [], _ :: _, _, _, h, _ => h.elim
  | [], _ :: _, _, _, _, h, _ => h.elim
  | _ :: _, [], _, _, _, h, _ => h.elim
  | _ :: _, _ :: _, [], _, _, h, _ => h.elim
theorem law_post {f : Func} {s : ChangeSpec} {args : Array Value} {ds : List (DataW H)} {before : List MemPlace} {tb : TypeId} (hl : laidOutB P = true)
    (hW : DataW.Whole enc P f.params.toList s.vars false W args.toList ds [] before) (hvars : s.vars = []) (htb : P.underlying tb = some .bool) (hres : f.resultTypes = #[tb])
    (hfn : s.fn H ds = { results := [.lit (.bool true)], args := ds }) (hread : ∀ t ∈ f.params.toList, P.readableRec t = true ∧ t < P.types.size) (hb : Below W.heap.size W W') :
    s.post enc P f false true false false W args (.bool true) W' := by
  have hlt : ∀ x ∈ before, x.block < W.heap.size := fun x hx => hW.lt x hx
  have hW2 := hW
  obtain ⟨p, q, hA, hV, rfl, _, _⟩ := hW
  refine ⟨ds, [], p ++ q, [], p, q, hW2, ?_, ?_, ?_, hb.frame _, fun h => by cases h⟩
  · rw [List.append_nil, hfn, hres]
    exact trodAll_mk1 (shut_bool htb _)
  · rw [List.append_nil, hfn]
    exact trodAll_below hl hb hread hA (fun x hx => hlt x (by simp [hx]))
  · rw [hvars] at hV ⊢
    rw [List.append_nil, hfn]
    exact hV
end
end Go.Proofs.YtdgcdemihalefaaGreatDoor
namespace Go.Proofs.YtdgcdemihalefaaGreatDoor
open Go.ChangeShapes Go.WideShapes Go.ChangeAt Go.RowKit Go.ChangeMaps Pw
set_option maxHeartbeats 8000000 in
theorem termTells_joined : joinedFacts Tryz.prog 3 Tryz.f3 Rows.termTellsSpec Rows.termTellsRow = true := by
  simp only [joinedFacts, Bool.and_eq_true]
  repeat' apply And.intro
  all_goals as_aux_lemma => kernel_rfl
end Go.Proofs.YtdgcdemihalefaaGreatDoor
