/-
  What the library's Grow (of nothing) and Concat answer for rows of nodes.
-/
import Derived.Test.YtoomgpbfcpnefaaDoorValW10
import Derived.Test.YtoomgpbfcpnefaaDoorGrow
import Derived.Test.YtoomgpbfcpnefaaDoorValLaw
namespace Go.Proofs.YtoomgpbfcpnefaaDoor
open Go.RowKit Go.Shelf Np Rw Vp

theorem grow_any (n : Nat) (hn : n ≤ 200000) (w : World) : Calls Tryd.prog 67 #[.slice none 0 0, .int .i64 (n : Int)] w (OwnsN w []) := by
  rcases Nat.eq_zero_or_pos n with h0 | h0
  · subst h0
    have h := Any8.slices_Grow_room Tryd.growN none 0 0 0 w (by omega) (by omega) (by omega) (by omega)
    change Calls Tryd.prog 67 _ _ _ at h
    refine h.mono fun e w' ⟨h1, h2⟩ => ?_
    subst h1 h2
    exact ⟨_, rfl, Own.nil _, Below.refl _ _⟩
  · obtain ⟨i, hi, hz0, hz1, hz2⟩ := info_parts node_info
    have h := Any8.slices_Grow_grow Tryd.growN i _ hi hz0 (by rw [hz1]; decide) none 0 0 n [] w (by omega) (by omega) (by rw [hz2]; omega) (by omega) (by simp) (fun _ => rfl) (fun a ha => by cases ha)
    change Calls Tryd.prog 67 _ _ _ at h
    refine h.mono fun e w' ⟨h1, h2⟩ => ?_
    subst h1 h2
    have hge := grownCap_ge w (0 + n) 0 44
    refine ⟨_, rfl, ⟨by simp, .inr ⟨w.heap.size, grownCap w (0 + n) 0 44, _, rfl, Nat.le_refl _, heap_alloc_new w.drew _, Nat.zero_le _, grownCap_le_maxLen w _ _ _ (by unfold maxLen; omega), ?_, by simp⟩⟩, (Below.refl _ _).drew.alloc (by simp) _⟩
    simp only [Array.size_append, size_zeroCells]
    have hz6 : (Value.agg #[.int .i64 0, .int .i64 0, .string ⟨#[]⟩, .string ⟨#[]⟩, .bool false, .int .i64 0]).cells.size = 6 := rfl
    rw [hz6]
    change 0 + (0 + n - 0) * 6 + (grownCap w (0 + n) 0 44 - (0 + n)) * 6 = grownCap w (0 + n) 0 44 * 6
    omega

set_option maxRecDepth 100000 in
set_option maxHeartbeats 2000000 in
theorem concat_any (v : Value) (L : List (List Nd)) (w : World) (hv : Vls w v L) (hb1 : L.length ≤ 65536) (hb2 : (L.map List.length).sum ≤ 131072) :
    Calls Tryd.prog 57 #[v] w (OwnsN w L.flatten) := by
  obtain ⟨us, hul, hu, hur⟩ := hv
  obtain ⟨A, c, rfl, -, -, -, H⟩ := hu
  have HUL := Lib.hid hul
  have HU := Lib.hid hur
  have HH := Lib.hid H
  clear hur H
  rw [← hul] at hb1
  clear hul
  generalize hn : us.length = n at *
  have HN := Lib.hid hn; clear hn
  have HB2 := Lib.hid hb2
  clear hb2
  go_enter Tryd.func57, Tryd.ntmps57
  go_wp2
  go_loopw [3, 11] (fun nn i wr => ∃ k q : Nat, k ≤ n ∧ i = .int .i64 k ∧ nn = .int .i64 (q : Nat) ∧ q = ((L.take k).map List.length).sum ∧ q ≤ 131072 ∧ wr = w) (fun _ i _ => n - (intOf i).toNat)
  case atStart => exact ⟨0, 0, Nat.zero_le _, rfl, rfl, rfl, by omega, rfl⟩
  case round =>
    obtain ⟨k, q, hk, rfl, rfl, hq, hqb, rfl⟩ := hrel
    have HQ := Lib.hid hq
    clear hq
    by_cases hlt : k < n
    · obtain ⟨g, o, rfl, hg, hx⟩ := HH.out (by omega)
      obtain ⟨x, hxk⟩ : ∃ a, us[k]? = some a := ⟨_, List.getElem?_eq_getElem (by rw [HN.out]; exact hlt)⟩
      obtain ⟨a, ha⟩ : ∃ a, L[k]? = some a := ⟨_, List.getElem?_eq_getElem (by rw [← HUL.out]; exact hlt)⟩
      have a0 := (hx k x hxk).one
      have hra : Nds wr x a := HU.out k x a hxk ha
      have HQ2 : Hid (q + a.length = ((L.take (k + 1)).map List.length).sum) := Lib.hid (by rw [sum_take ha, HQ.out])
      have hqa : q + a.length ≤ 131072 := by have := sum_take_le L (k + 1); have := HB2.out; rw [HQ2.out]; omega
      clear ha hxk hx
      obtain ⟨B, c', rfl, -⟩ := hra
      go_wp2_with fail
      go_roundw
      case rel => exact ⟨k + 1, q + a.length, by omega, by go_num, by go_num, HQ2.out, by omega, by simp⟩
      case measure => simp [intOf]; omega
    · obtain ⟨wo, rfl⟩ : ∃ wo : World, wo = wr := ⟨_, rfl⟩
      go_wp2_with (go_at_call 67; refine (grow_any q (by omega) _).mono ?_; rintro e w1 ⟨v1, rfl, ho1, hB1⟩)
      have HO1 := Lib.hid ho1
      have HB1 := Lib.hid hB1
      clear ho1 hB1
      go_loopw [6, 27] (fun vv i wr => ∃ k : Nat, k ≤ n ∧ i = .int .i64 k ∧ OwnN wo.heap.size wr vv (L.take k).flatten ∧ Below wo.heap.size wo wr) (fun _ i _ => n - (intOf i).toNat)
      case atStart => exact ⟨0, Nat.zero_le _, rfl, HO1.out, HB1.out⟩
      case round =>
        obtain ⟨j, hj, rfl, hown, hbw⟩ := hrel
        have HO := Lib.hid hown
        have HBW := Lib.hid hbw
        by_cases hlt2 : j < n
        · obtain ⟨g, o, rfl, hg, hx⟩ := HH.out (by omega)
          obtain ⟨x, hxk⟩ : ∃ a, us[j]? = some a := ⟨_, List.getElem?_eq_getElem (by rw [HN.out]; exact hlt2)⟩
          obtain ⟨a, ha⟩ : ∃ a, L[j]? = some a := ⟨_, List.getElem?_eq_getElem (by rw [← HUL.out]; exact hlt2)⟩
          have a0 := (hbw.cell (p := ⟨g, o + j, none⟩) hg).trans (hx j x hxk).one
          have HRA : Hid (Nds wr x a) := Lib.hid ((HU.out j x a hxk ha).below hbw)
          have HS : Hid ((L.take (j + 1)).flatten = (L.take j).flatten ++ a) := Lib.hid (by rw [List.take_add_one, ha]; simp)
          have HLN : Hid ((L.take j).flatten.length + a.length ≤ 131072) := Lib.hid (by
            have h1 := sum_take ha
            have h2 := sum_take_le L (j + 1)
            have h3 := HB2.out
            rw [List.length_flatten]; omega)
          clear ha hxk hx hown hbw
          go_wp2_with (at_builtin; refine wpList_append_row (base := wo.heap.size) elNode rfl _ _ rfl rfl HO.out rfl HRA.out ?_ ?_ ?_ ?_)
          · have := HLN.out; unfold maxLen; omega
          · have := HLN.out; omega
          · exact HBW.out.size
          · intro A' c' w2 hown2 hg2 _
            have HO2 := Lib.hid hown2
            have HG2 := Lib.hid hg2
            clear hown2 hg2 a0
            generalize ((L.take j).flatten ++ a).length = q2 at HO2 ⊢
            go_wp2_with fail
            go_roundw
            case rel => exact ⟨j + 1, by omega, by go_num, by rw [HS.out]; exact HO2.out, HBW.out.trans (HO.out.kept HG2.out HBW.out.size)⟩
            case measure => simp [intOf]; omega
        · have HE : Hid (L.take j = L) := Lib.hid (List.take_of_length_le (by rw [← HUL.out]; omega))
          clear hown hbw
          go_wp2_with fail
          go_ret
          exact ⟨_, rfl, by have := HO.out; rwa [HE.out] at this, HBW.out⟩
end Go.Proofs.YtoomgpbfcpnefaaDoor
