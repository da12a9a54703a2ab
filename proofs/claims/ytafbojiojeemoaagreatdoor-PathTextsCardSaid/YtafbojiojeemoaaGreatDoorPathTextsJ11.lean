/-
  Joined: Grow, ConcP, Pa5, ConcW.
-/
import Derived.Shelf.Spec.SlicesGrow
import Derived.Test.YtafbojiojeemoaaGreatDoorProg
import Derived.Test.YtafbojiojeemoaaGreatDoorPathTextsJ8
import Derived.Test.YtafbojiojeemoaaGreatDoorRefW6
import Derived.Test.YtafbojiojeemoaaGreatDoorPathTextsJ10
import Derived.Test.YtafbojiojeemoaaGreatDoorPathTextsJ9

/-
  Contracts of library functions, at this translation.
-/
namespace Go.Proofs
open Go.Shelf
def Tryz.growN_ren : Go.Shelf.Ren := ⟨fun | 4 => 113 | n => n, fun | 22 => 24 | 25 => 35 | 3 => 3 | 4 => 4 | 9 => 9 | 20 => 20 | 0 => 0 | n => n, fun | n => n⟩
theorem Tryz.growN : Go.Proofs.Lays8.n4 Tryz.prog Tryz.growN_ren := {
  mixed := by kernel_rfl
  f4 := ⟨Tryz.f113.name, by decide, Tryz.func113.trans (congrArg some (by kernel_rfl))⟩
  t0 := Tryz.underlying0
  a0 := Tryz.isAgg0
  z0 := Tryz.sizeOf0
  v0 := Tryz.zeroValue0
  t3 := Tryz.underlying3
  a3 := Tryz.isAgg3
  z3 := Tryz.sizeOf3
  v3 := Tryz.zeroValue3
  t4 := Tryz.underlying4
  a4 := Tryz.isAgg4
  z4 := Tryz.sizeOf4
  v4 := Tryz.zeroValue4
  t9 := Tryz.underlying9
  a9 := Tryz.isAgg9
  z9 := Tryz.sizeOf9
  v9 := Tryz.zeroValue9
  t20 := Tryz.underlying20
  a20 := Tryz.isAgg20
  z20 := Tryz.sizeOf20
  v20 := Tryz.zeroValue20
  t22 := Tryz.underlying24
  a22 := Tryz.isAgg24
  z22 := Tryz.sizeOf24
  v22 := Tryz.zeroValue24 }
end Go.Proofs

/-
  What the library's Grow (of nothing) and Concat answer for rows of nodes (XConcW, for a seat without package val).
-/
namespace Go.Proofs.YtafbojiojeemoaaGreatDoor
open Go.RowKit Go.Shelf Np Rw Vp

theorem pgrow_any (n : Nat) (hn : n ≤ 200000) (w : World) : Calls Tryz.prog 113 #[.slice none 0 0, .int .i64 (n : Int)] w (OwnsN w []) := by
  rcases Nat.eq_zero_or_pos n with h0 | h0
  · subst h0
    have h := Any8.slices_Grow_room Tryz.growN none 0 0 0 w (by omega) (by omega) (by omega) (by omega)
    change Calls Tryz.prog 113 _ _ _ at h
    refine h.mono fun e w' ⟨h1, h2⟩ => ?_
    subst h1 h2
    exact ⟨_, rfl, Own.nil _, Below.refl _ _⟩
  · obtain ⟨i, hi, hz0, hz1, hz2⟩ := info_parts node_info
    have h := Any8.slices_Grow_grow Tryz.growN i _ hi hz0 (by rw [hz1]; decide) none 0 0 n [] w (by omega) (by omega) (by rw [hz2]; omega) (by omega) (by simp) (fun _ => rfl) (fun a ha => by cases ha)
    change Calls Tryz.prog 113 _ _ _ at h
    refine h.mono fun e w' ⟨h1, h2⟩ => ?_
    subst h1 h2
    have hge := grownCap_ge w (0 + n) 0 35
    refine ⟨_, rfl, ⟨by simp, .inr ⟨w.heap.size, grownCap w (0 + n) 0 35, _, rfl, Nat.le_refl _, heap_alloc_new w.drew _, Nat.zero_le _, grownCap_le_maxLen w _ _ _ (by unfold maxLen; omega), ?_, by simp⟩⟩, (Below.refl _ _).drew.alloc (by simp) _⟩
    simp only [Array.size_append, size_zeroCells]
    have hz6 : (Value.agg #[.int .i64 0, .int .i64 0, .string ⟨#[]⟩, .string ⟨#[]⟩, .bool false, .int .i64 0]).cells.size = 6 := rfl
    rw [hz6]
    change 0 + (0 + n - 0) * 6 + (grownCap w (0 + n) 0 35 - (0 + n)) * 6 = grownCap w (0 + n) 0 35 * 6
    omega

set_option maxRecDepth 100000 in
set_option maxHeartbeats 2000000 in
theorem pconcat_any (v : Value) (L : List (List Nd)) (w : World) (hv : Vls w v L) (hb1 : L.length ≤ 65536) (hb2 : (L.map List.length).sum ≤ 131072) :
    Calls Tryz.prog 80 #[v] w (OwnsN w L.flatten) := by
  obtain ⟨us, hul, hu, hur⟩ := hv
  obtain ⟨A, c, rfl, -, -, -, H⟩ := hu
  have HUL := Lib.hid hul
  have HU := Lib.hid hur
  have HH := Lib.hid H
  clear hur H
  rw [← hul] at hb1
  clear hul
  generalize hn : us.length = n at *
  have HN := Lib.hid hn; clear hn
  have HB2 := Lib.hid hb2
  clear hb2
  go_enter Tryz.func80, Tryz.ntmps80
  go_wp2
  go_loopw [3, 11] (fun nn i wr => ∃ k q : Nat, k ≤ n ∧ i = .int .i64 k ∧ nn = .int .i64 (q : Nat) ∧ q = ((L.take k).map List.length).sum ∧ q ≤ 131072 ∧ wr = w) (fun _ i _ => n - (intOf i).toNat)
  case atStart => exact ⟨0, 0, Nat.zero_le _, rfl, rfl, rfl, by omega, rfl⟩
  case round =>
    obtain ⟨k, q, hk, rfl, rfl, hq, hqb, rfl⟩ := hrel
    have HQ := Lib.hid hq
    clear hq
    by_cases hlt : k < n
    · obtain ⟨g, o, rfl, hg, hx⟩ := HH.out (by omega)
      obtain ⟨x, hxk⟩ : ∃ a, us[k]? = some a := ⟨_, List.getElem?_eq_getElem (by rw [HN.out]; exact hlt)⟩
      obtain ⟨a, ha⟩ : ∃ a, L[k]? = some a := ⟨_, List.getElem?_eq_getElem (by rw [← HUL.out]; exact hlt)⟩
      have a0 := (hx k x hxk).one
      have hra : Nds wr x a := HU.out k x a hxk ha
      have HQ2 : Hid (q + a.length = ((L.take (k + 1)).map List.length).sum) := Lib.hid (by rw [sum_take ha, HQ.out])
      have hqa : q + a.length ≤ 131072 := by have := sum_take_le L (k + 1); have := HB2.out; rw [HQ2.out]; omega
      clear ha hxk hx
      obtain ⟨B, c', rfl, -⟩ := hra
      go_wp2_with fail
      go_roundw
      case rel => exact ⟨k + 1, q + a.length, by omega, by go_num, by go_num, HQ2.out, by omega, by simp⟩
      case measure => simp [intOf]; omega
    · obtain ⟨wo, rfl⟩ : ∃ wo : World, wo = wr := ⟨_, rfl⟩
      go_wp2_with (go_at_call 113; refine (pgrow_any q (by omega) _).mono ?_; rintro e w1 ⟨v1, rfl, ho1, hB1⟩)
      have HO1 := Lib.hid ho1
      have HB1 := Lib.hid hB1
      clear ho1 hB1
      go_loopw [6, 27] (fun vv i wr => ∃ k : Nat, k ≤ n ∧ i = .int .i64 k ∧ OwnN wo.heap.size wr vv (L.take k).flatten ∧ Below wo.heap.size wo wr) (fun _ i _ => n - (intOf i).toNat)
      case atStart => exact ⟨0, Nat.zero_le _, rfl, HO1.out, HB1.out⟩
      case round =>
        obtain ⟨j, hj, rfl, hown, hbw⟩ := hrel
        have HO := Lib.hid hown
        have HBW := Lib.hid hbw
        by_cases hlt2 : j < n
        · obtain ⟨g, o, rfl, hg, hx⟩ := HH.out (by omega)
          obtain ⟨x, hxk⟩ : ∃ a, us[j]? = some a := ⟨_, List.getElem?_eq_getElem (by rw [HN.out]; exact hlt2)⟩
          obtain ⟨a, ha⟩ : ∃ a, L[j]? = some a := ⟨_, List.getElem?_eq_getElem (by rw [← HUL.out]; exact hlt2)⟩
          have a0 := (hbw.cell (p := ⟨g, o + j, none⟩) hg).trans (hx j x hxk).one
          have HRA : Hid (Nds wr x a) := Lib.hid ((HU.out j x a hxk ha).below hbw)
          have HS : Hid ((L.take (j + 1)).flatten = (L.take j).flatten ++ a) := Lib.hid (by rw [List.take_add_one, ha]; simp)
          have HLN : Hid ((L.take j).flatten.length + a.length ≤ 131072) := Lib.hid (by
            have h1 := sum_take ha
            have h2 := sum_take_le L (j + 1)
            have h3 := HB2.out
            rw [List.length_flatten]; omega)
          clear ha hxk hx hown hbw
          go_wp2_with (at_builtin; refine wpList_append_row (base := wo.heap.size) elNode rfl _ _ rfl rfl HO.out rfl HRA.out ?_ ?_ ?_ ?_)
          · have := HLN.out; unfold maxLen; omega
          · have := HLN.out; omega
          · exact HBW.out.size
          · intro A' c' w2 hown2 hg2 _
            have HO2 := Lib.hid hown2
            have HG2 := Lib.hid hg2
            clear hown2 hg2 a0
            generalize ((L.take j).flatten ++ a).length = q2 at HO2 ⊢
            go_wp2_with fail
            go_roundw
            case rel => exact ⟨j + 1, by omega, by go_num, by rw [HS.out]; exact HO2.out, HBW.out.trans (HO.out.kept HG2.out HBW.out.size)⟩
            case measure => simp [intOf]; omega
        · have HE : Hid (L.take j = L) := Lib.hid (List.take_of_length_le (by rw [← HUL.out]; omega))
          clear hown hbw
          go_wp2_with fail
          go_ret
          exact ⟨_, rfl, by have := HO.out; rwa [HE.out] at this, HBW.out⟩
end Go.Proofs.YtafbojiojeemoaaGreatDoor

/-
  What path's Set answers.
-/
namespace Go.Proofs.YtafbojiojeemoaaGreatDoor
open Go.RowKit Np Rw Vp Pw

theorem vls_three (W : World) (n : Nat) (hn : W.heap.size = n) (E : TypeId) (a b c : Value) (l1 l2 l3 : List Nd) (h1 : Nds W a l1) (h2 : Nds W b l2) (h3 : Nds W c l3) : Vls (W.alloc (.cells #[a, b, c] E)) (.slice (some ⟨n, 0, none⟩) 3 3) [l1, l2, l3] := by
  subst hn
  have hb : Below W.heap.size W (W.alloc (.cells #[a, b, c] E)) := (Below.refl _ _).alloc (Nat.le_refl _) _
  refine ⟨[a, b, c], rfl, Row.lit vac_len W E _ [a, b, c] (by unfold maxLen; simp) rfl, fun k x l hx hk => ?_⟩
  match k, hx, hk with
  | 0, hx, hk => simp at hx hk; subst hx hk; exact h1.below hb
  | 1, hx, hk => simp at hx hk; subst hx hk; exact h2.below hb
  | 2, hx, hk => simp at hx hk; subst hx hk; exact h3.below hb
  | k + 3, hx, hk => simp at hx
/-- What comes of setting: the value; nothing, where nothing stands. -/
def putP (p : List St) (t x : Tr Nd) : List Nd := if errP p t = 0 then flat (setP p t x) else []
set_option maxRecDepth 100000 in
set_option maxHeartbeats 4000000 in
theorem pset_any (pv v xv : Value) (p : List St) (t x : Tr Nd) (w : World) (hp : Sps w pv p) (hv : Nds w v (flat t)) (hxv : Nds w xv (flat x)) (ht : okT many t) (hl : (flat t).length ≤ 60000) (hlx : (flat x).length ≤ 60000) (hpl : p.length ≤ 1000) :
    Calls Tryz.prog 42 #[pv, v, xv] w fun e w' => ∃ (A : Option Addr) (n c : Nat), e = .returned (.tuple #[.slice A n c, .int .i64 (errP p t)]) ∧ Nds w' (.slice A n c) (putP p t x) ∧ Below w.heap.size w w' := by
  have HPL := Lib.hid (place_any pv v p t w hp hv ht (by omega) hpl)
  obtain ⟨P, pc, rfl, -⟩ := hp
  by_cases he : errP p t = 0
  · obtain ⟨u, hu⟩ := Option.isSome_iff_exists.1 ((errP_iff p t).1 he)
    obtain ⟨pre, post, hf, hpre, hput⟩ := row_at p t u hu
    have hou : okT many u := sub_ok p t u hu ht
    obtain ⟨g, o, c, rfl, hc, hcm, hg, hx⟩ := hv.opened (flat_pos t)
    have hup := flat_pos u
    have hxp := flat_pos x
    have hlen : pre.length + (flat u).length + post.length = (flat t).length := by rw [hf]; simp; omega
    have hdrop : (flat t).drop pre.length = flat u ++ post := by rw [hf, List.append_assoc, List.drop_left]
    have hs : skip many ((flat t).drop pre.length) 1 = some post := by rw [hdrop, skip_flat _ _ 0 hou, skip_zero]
    have hfr := hv.front pre.length (by omega) (by omega) hcm
    have htk : (flat t).take pre.length = pre := by rw [hf, List.append_assoc, List.take_left]
    rw [htk] at hfr
    have hbk := hv.back (pre.length + (flat u).length) (by omega) (by omega) hcm
    have hdp : (flat t).drop (pre.length + (flat u).length) = post := by
      rw [← List.drop_drop, hdrop, List.drop_left]
    rw [hdp] at hbk
    have hax : (flat t)[pre.length]? = some u.nd := by
      have h1 : ((flat t).drop pre.length)[0]? = some u.nd := by rw [hdrop, flat_eq]; rfl
      rwa [List.getElem?_drop, Nat.add_zero] at h1
    have y2 := (hx pre.length u.nd hax).nd.c2
    have HPS : Hid (∀ W, Below w.heap.size w W → Calls Tryz.prog 79 #[.slice (some ⟨g, o, none⟩) (flat t).length c, .int .i64 (pre.length : Nat)] W fun e w' => e = .returned (.int .i64 ((pre.length + (flat u).length : Nat) : Int)) ∧ w' = W) := Lib.hid fun W hb => ppast_any _ _ _ _ post W (hv.below hb) (by omega) hs (by omega) hlen
    have hPUT : putP p t x = pre ++ flat (nmd u.nd.name x) ++ post := by rw [putP, if_pos he, hput x]
    have hset : (pre ++ flat x ++ post).set pre.length (nmN u.nd.name x.nd) = pre ++ flat (nmd u.nd.name x) ++ post := by
      rw [List.append_assoc, List.set_append_right _ _ (Nat.le_refl _), Nat.sub_self, flat_eq x, nmd, flat_mk]
      simp
    have hk0 : (pre ++ flat x ++ post)[pre.length]? = some x.nd := by
      rw [List.append_assoc, List.getElem?_append_right (Nat.le_refl _), Nat.sub_self, flat_eq x]; rfl
    have HPUT := Lib.hid hPUT
    have HSET := Lib.hid hset
    have HK0 := Lib.hid hk0
    have HXV := Lib.hid hxv
    have HFR := Lib.hid hfr
    have HBK := Lib.hid hbk
    have HY2 := Lib.hid y2
    have HLN : Hid ((pre ++ flat x ++ post).length = pre.length + (flat x).length + post.length) := Lib.hid (by simp; omega)
    rw [he] at HPL ⊢
    rw [if_pos rfl, ← hpre] at HPL
    obtain ⟨xA, xc, rfl, -⟩ := hxv
    have hb1 : pre.length < (flat t).length := by omega
    have hb2 : pre.length + (flat u).length ≤ (flat t).length := by omega
    have hpo : post.length = (flat t).length - (pre.length + (flat u).length) := by omega
    have HPO := Lib.hid hpo
    have HSUM : Hid (([pre, flat x, post].map List.length).sum ≤ 131072) := Lib.hid (by simp only [List.map_cons, List.map_nil, List.sum_cons, List.sum_nil]; omega)
    have HLX : Hid ((flat x).length ≤ 60000 ∧ (flat t).length ≤ 60000) := Lib.hid ⟨hlx, hl⟩
    have hxp2 : ((flat x).length : Int) > 0 := by omega
    clear hf hou hx hlen hdrop hs hfr htk hbk hdp hax y2 hpre hu he hv hput hPUT hset hk0 hpo
    generalize hN : (flat t).length = N at *
    generalize hX : (flat x).length = X at *
    generalize hAA : pre.length = a at *
    generalize hM : (flat u).length = M at *
    have HMM := Lib.hid hM
    have HAA := Lib.hid hAA
    clear hN hM hX hAA
    have hMi : ((a + M : Nat) : Int) = (a : Int) + (M : Int) := by omega
    go_enter Tryz.func42, Tryz.ntmps42
    go_wp2_with fail
    refine HPL.out.mono ?_
    rintro e w1 ⟨rfl, hb3⟩
    have HB1 := Lib.hid hb3
    clear hb3
    go_wp2_with fail
    refine (HPS.out _ HB1.out).mono ?_
    rintro e w2 ⟨rfl, rfl⟩
    have hcase : a + M = c ∨ a + M ≠ c := by omega
    rcases hcase with hce | hce
    · rw [if_pos hce] at HBK
      have hNe : N = a + M := by omega
      subst hce
      subst hNe
      simp only [Nat.sub_self] at HBK
      have HWD : Hid (Below w.heap.size w w2.drew) := Lib.hid HB1.out.drew
      go_upto_region 5 with fail
      go_cut [11] (fun s11 wx => ∃ gb cb, s11 = .slice (some ⟨gb, 0, none⟩) (a + X + post.length) cb ∧ Hid (OwnN w.heap.size wx (.slice (some ⟨gb, 0, none⟩) (a + X + post.length) cb) (pre ++ flat x ++ post) ∧ Below w.heap.size w wx))
      case first =>
        go_region_with (first | (go_at_call 80; refine (pconcat_any _ [pre, flat x, post] _ (vls_three _ _ rfl 24 _ _ _ _ _ _ (HFR.out.below HWD.out) (HXV.out.below HWD.out) (HBK.out.below HWD.out)) (by simp) HSUM.out).mono ?_; rintro e w3 ⟨v3, rfl, ho, hb4⟩))
        all_goals
          have hfl : [pre, flat x, post].flatten = pre ++ flat x ++ post := by simp
          rw [hfl] at ho
          have ho2 : OwnN w.heap.size w3 v3 (pre ++ flat x ++ post) := ho.mono (by have := HB1.out.size; simp; omega)
          obtain ⟨gb, cb, rfl, -, -⟩ := Own.opened ho2 (by rw [HLN.out]; omega)
          rw [HLN.out] at ho2 ⊢
          have hbb : Below w.heap.size w w3 := (HWD.out.alloc HWD.out.size _).trans (hb4.mono (by have := HB1.out.size; simp; omega))
          have HO2 := Lib.hid ho2
          have HBB := Lib.hid hbb
          clear ho ho2 hb4 hbb hfl
        all_goals go_wp2_with fail
        all_goals go_meet
        all_goals exact ⟨gb, cb, rfl, Lib.hid ⟨HO2.out, HBB.out⟩⟩
      case rest =>
        obtain ⟨gb, cb, rfl, HC⟩ := hcut
        have ho : OwnN w.heap.size wc (.slice (some ⟨gb, 0, none⟩) (pre ++ flat x ++ post).length cb) (pre ++ flat x ++ post) := by rw [HLN.out]; exact HC.out.1
        have s1 := Own.cell ndc_len (k := a) (j := 2) (u := .string ⟨x.nd.name.toArray⟩) ho HK0.out rfl
        have s2 := ho.free (a * 6 + 2)
        have s3 := Own.put ndc_len (k := a) (j := 2) (y := nmN u.nd.name x.nd) (u := .string ⟨u.nd.name.toArray⟩) ho HK0.out (by decide) rfl
        have hlo := (Own.lt ho).1
        have HR : Hid (Nds (wc.setCell ⟨gb, a * 6 + 2, none⟩ (.string ⟨u.nd.name.toArray⟩)) (.slice (some ⟨gb, 0, none⟩) (a + X + post.length) cb) (putP p t x)) := Lib.hid (by
          rw [HPUT.out, ← HSET.out]
          have h9 := s3.row ndc_len
          rwa [HLN.out] at h9)
        have HB5 : Hid (Below w.heap.size w (wc.setCell ⟨gb, a * 6 + 2, none⟩ (.string ⟨u.nd.name.toArray⟩))) := Lib.hid (HC.out.2.setCell hlo _)
        have y3 := (HC.out.2.cell (p := ⟨g, o + a * 6 + 2, none⟩) hg).trans HY2.out
        have haL : (a : Int) < ((a + X + post.length : Nat) : Int) := by omega
        have haL2 : a < a + X + post.length := by omega
        have hM0 : (a : Int) < (a : Int) + (M : Int) := by omega
        clear s3 hlo ho
        generalize a + X + post.length = T at *
        go_wp2_with fail
        exact bodyPost_ret (v := .tuple #[.slice (some ⟨gb, 0, none⟩) T cb, .int .i64 0]) (by simp [results, Tryz.results42, go_sem]) rfl ⟨_, _, _, rfl, HR.out, HB5.out⟩
    · rw [if_neg hce] at HBK
      have HWD : Hid (Below w.heap.size w w2.drew) := Lib.hid HB1.out.drew
      go_upto_region 5 with fail
      go_cut [11] (fun s11 wx => ∃ gb cb, s11 = .slice (some ⟨gb, 0, none⟩) (a + X + post.length) cb ∧ Hid (OwnN w.heap.size wx (.slice (some ⟨gb, 0, none⟩) (a + X + post.length) cb) (pre ++ flat x ++ post) ∧ Below w.heap.size w wx))
      case first =>
        go_region_with (first | (go_at_call 80; refine (pconcat_any _ [pre, flat x, post] _ (vls_three _ _ rfl 24 _ _ _ _ _ _ (HFR.out.below HWD.out) (HXV.out.below HWD.out) (HBK.out.below HWD.out)) (by simp) HSUM.out).mono ?_; rintro e w3 ⟨v3, rfl, ho, hb4⟩))
        all_goals
          have hfl : [pre, flat x, post].flatten = pre ++ flat x ++ post := by simp
          rw [hfl] at ho
          have ho2 : OwnN w.heap.size w3 v3 (pre ++ flat x ++ post) := ho.mono (by have := HB1.out.size; simp; omega)
          obtain ⟨gb, cb, rfl, -, -⟩ := Own.opened ho2 (by rw [HLN.out]; omega)
          rw [HLN.out] at ho2 ⊢
          have hbb : Below w.heap.size w w3 := (HWD.out.alloc HWD.out.size _).trans (hb4.mono (by have := HB1.out.size; simp; omega))
          have HO2 := Lib.hid ho2
          have HBB := Lib.hid hbb
          clear ho ho2 hb4 hbb hfl
        all_goals go_wp2_with fail
        all_goals go_meet
        all_goals exact ⟨gb, cb, rfl, Lib.hid ⟨HO2.out, HBB.out⟩⟩
      case rest =>
        obtain ⟨gb, cb, rfl, HC⟩ := hcut
        have ho : OwnN w.heap.size wc (.slice (some ⟨gb, 0, none⟩) (pre ++ flat x ++ post).length cb) (pre ++ flat x ++ post) := by rw [HLN.out]; exact HC.out.1
        have s1 := Own.cell ndc_len (k := a) (j := 2) (u := .string ⟨x.nd.name.toArray⟩) ho HK0.out rfl
        have s2 := ho.free (a * 6 + 2)
        have s3 := Own.put ndc_len (k := a) (j := 2) (y := nmN u.nd.name x.nd) (u := .string ⟨u.nd.name.toArray⟩) ho HK0.out (by decide) rfl
        have hlo := (Own.lt ho).1
        have HR : Hid (Nds (wc.setCell ⟨gb, a * 6 + 2, none⟩ (.string ⟨u.nd.name.toArray⟩)) (.slice (some ⟨gb, 0, none⟩) (a + X + post.length) cb) (putP p t x)) := Lib.hid (by
          rw [HPUT.out, ← HSET.out]
          have h9 := s3.row ndc_len
          rwa [HLN.out] at h9)
        have HB5 : Hid (Below w.heap.size w (wc.setCell ⟨gb, a * 6 + 2, none⟩ (.string ⟨u.nd.name.toArray⟩))) := Lib.hid (HC.out.2.setCell hlo _)
        have y3 := (HC.out.2.cell (p := ⟨g, o + a * 6 + 2, none⟩) hg).trans HY2.out
        have haL : (a : Int) < ((a + X + post.length : Nat) : Int) := by omega
        have haL2 : a < a + X + post.length := by omega
        have hM0 : (a : Int) < (a : Int) + (M : Int) := by omega
        clear s3 hlo ho
        generalize a + X + post.length = T at *
        go_wp2_with fail
        exact bodyPost_ret (v := .tuple #[.slice (some ⟨gb, 0, none⟩) T cb, .int .i64 0]) (by simp [results, Tryz.results42, go_sem]) rfl ⟨_, _, _, rfl, HR.out, HB5.out⟩
  · have HPUT : Hid (putP p t x = []) := Lib.hid (by rw [putP, if_neg he])
    obtain ⟨B, c, rfl, -⟩ := hv
    obtain ⟨xA, xc, rfl, -⟩ := hxv
    rw [if_neg he] at HPL
    generalize errP p t = E at *
    have he2 : (!E == 0) = true := by simpa using he
    go_enter Tryz.func42, Tryz.ntmps42
    go_wp2_with fail
    refine HPL.out.mono ?_
    rintro e w1 ⟨rfl, hb3⟩
    have HB1 := Lib.hid hb3
    clear hb3
    go_wp2_with fail
    exact bodyPost_ret (v := .tuple #[.slice none 0 0, .int .i64 E]) (by simp [results, Tryz.results42, go_sem]) rfl ⟨_, _, _, rfl, by rw [HPUT.out]; exact Row.nil _, HB1.out⟩
end Go.Proofs.YtafbojiojeemoaaGreatDoor

/-
  What the library's Grow (of nothing) and Concat answer for rows of nodes.
-/
namespace Go.Proofs.YtafbojiojeemoaaGreatDoor
open Go.RowKit Go.Shelf Np Rw Vp

theorem grow_any (n : Nat) (hn : n ≤ 400000) (w : World) : Calls Tryz.prog 113 #[.slice none 0 0, .int .i64 (n : Int)] w (OwnsN w []) := by
  rcases Nat.eq_zero_or_pos n with h0 | h0
  · subst h0
    have h := Any8.slices_Grow_room Tryz.growN none 0 0 0 w (by omega) (by omega) (by omega) (by omega)
    change Calls Tryz.prog 113 _ _ _ at h
    refine h.mono fun e w' ⟨h1, h2⟩ => ?_
    subst h1 h2
    exact ⟨_, rfl, Own.nil _, Below.refl _ _⟩
  · obtain ⟨i, hi, hz0, hz1, hz2⟩ := info_parts node_info
    have h := Any8.slices_Grow_grow Tryz.growN i _ hi hz0 (by rw [hz1]; decide) none 0 0 n [] w (by omega) (by omega) (by rw [hz2]; omega) (by omega) (by simp) (fun _ => rfl) (fun a ha => by cases ha)
    change Calls Tryz.prog 113 _ _ _ at h
    refine h.mono fun e w' ⟨h1, h2⟩ => ?_
    subst h1 h2
    have hge := grownCap_ge w (0 + n) 0 35
    refine ⟨_, rfl, ⟨by simp, .inr ⟨w.heap.size, grownCap w (0 + n) 0 35, _, rfl, Nat.le_refl _, heap_alloc_new w.drew _, Nat.zero_le _, grownCap_le_maxLen w _ _ _ (by unfold maxLen; omega), ?_, by simp⟩⟩, (Below.refl _ _).drew.alloc (by simp) _⟩
    simp only [Array.size_append, size_zeroCells]
    have hz6 : (Value.agg #[.int .i64 0, .int .i64 0, .string ⟨#[]⟩, .string ⟨#[]⟩, .bool false, .int .i64 0]).cells.size = 6 := rfl
    rw [hz6]
    change 0 + (0 + n - 0) * 6 + (grownCap w (0 + n) 0 35 - (0 + n)) * 6 = grownCap w (0 + n) 0 35 * 6
    omega

set_option maxRecDepth 100000 in
set_option maxHeartbeats 2000000 in
theorem concat_any (v : Value) (L : List (List Nd)) (w : World) (hv : Vls w v L) (hb1 : L.length ≤ 131072) (hb2 : (L.map List.length).sum ≤ 262144) :
    Calls Tryz.prog 80 #[v] w (OwnsN w L.flatten) := by
  obtain ⟨us, hul, hu, hur⟩ := hv
  obtain ⟨A, c, rfl, -, -, -, H⟩ := hu
  have HUL := Lib.hid hul
  have HU := Lib.hid hur
  have HH := Lib.hid H
  clear hur H
  rw [← hul] at hb1
  clear hul
  generalize hn : us.length = n at *
  have HN := Lib.hid hn; clear hn
  have HB2 := Lib.hid hb2
  clear hb2
  go_enter Tryz.func80, Tryz.ntmps80
  go_wp2
  go_loopw [3, 11] (fun nn i wr => ∃ k q : Nat, k ≤ n ∧ i = .int .i64 k ∧ nn = .int .i64 (q : Nat) ∧ q = ((L.take k).map List.length).sum ∧ q ≤ 262144 ∧ wr = w) (fun _ i _ => n - (intOf i).toNat)
  case atStart => exact ⟨0, 0, Nat.zero_le _, rfl, rfl, rfl, by omega, rfl⟩
  case round =>
    obtain ⟨k, q, hk, rfl, rfl, hq, hqb, rfl⟩ := hrel
    have HQ := Lib.hid hq
    clear hq
    by_cases hlt : k < n
    · obtain ⟨g, o, rfl, hg, hx⟩ := HH.out (by omega)
      obtain ⟨x, hxk⟩ : ∃ a, us[k]? = some a := ⟨_, List.getElem?_eq_getElem (by rw [HN.out]; exact hlt)⟩
      obtain ⟨a, ha⟩ : ∃ a, L[k]? = some a := ⟨_, List.getElem?_eq_getElem (by rw [← HUL.out]; exact hlt)⟩
      have a0 := (hx k x hxk).one
      have hra : Nds wr x a := HU.out k x a hxk ha
      have HQ2 : Hid (q + a.length = ((L.take (k + 1)).map List.length).sum) := Lib.hid (by rw [sum_take ha, HQ.out])
      have hqa : q + a.length ≤ 262144 := by have := sum_take_le L (k + 1); have := HB2.out; rw [HQ2.out]; omega
      clear ha hxk hx
      obtain ⟨B, c', rfl, -⟩ := hra
      go_wp2_with fail
      go_roundw
      case rel => exact ⟨k + 1, q + a.length, by omega, by go_num, by go_num, HQ2.out, by omega, by simp⟩
      case measure => simp [intOf]; omega
    · obtain ⟨wo, rfl⟩ : ∃ wo : World, wo = wr := ⟨_, rfl⟩
      go_wp2_with (go_at_call 113; refine (grow_any q (by omega) _).mono ?_; rintro e w1 ⟨v1, rfl, ho1, hB1⟩)
      have HO1 := Lib.hid ho1
      have HB1 := Lib.hid hB1
      clear ho1 hB1
      go_loopw [6, 27] (fun vv i wr => ∃ k : Nat, k ≤ n ∧ i = .int .i64 k ∧ OwnN wo.heap.size wr vv (L.take k).flatten ∧ Below wo.heap.size wo wr) (fun _ i _ => n - (intOf i).toNat)
      case atStart => exact ⟨0, Nat.zero_le _, rfl, HO1.out, HB1.out⟩
      case round =>
        obtain ⟨j, hj, rfl, hown, hbw⟩ := hrel
        have HO := Lib.hid hown
        have HBW := Lib.hid hbw
        by_cases hlt2 : j < n
        · obtain ⟨g, o, rfl, hg, hx⟩ := HH.out (by omega)
          obtain ⟨x, hxk⟩ : ∃ a, us[j]? = some a := ⟨_, List.getElem?_eq_getElem (by rw [HN.out]; exact hlt2)⟩
          obtain ⟨a, ha⟩ : ∃ a, L[j]? = some a := ⟨_, List.getElem?_eq_getElem (by rw [← HUL.out]; exact hlt2)⟩
          have a0 := (hbw.cell (p := ⟨g, o + j, none⟩) hg).trans (hx j x hxk).one
          have HRA : Hid (Nds wr x a) := Lib.hid ((HU.out j x a hxk ha).below hbw)
          have HS : Hid ((L.take (j + 1)).flatten = (L.take j).flatten ++ a) := Lib.hid (by rw [List.take_add_one, ha]; simp)
          have HLN : Hid ((L.take j).flatten.length + a.length ≤ 262144) := Lib.hid (by
            have h1 := sum_take ha
            have h2 := sum_take_le L (j + 1)
            have h3 := HB2.out
            rw [List.length_flatten]; omega)
          clear ha hxk hx hown hbw
          go_wp2_with (at_builtin; refine wpList_append_row (base := wo.heap.size) elNode rfl _ _ rfl rfl HO.out rfl HRA.out ?_ ?_ ?_ ?_)
          · have := HLN.out; unfold maxLen; omega
          · have := HLN.out; omega
          · exact HBW.out.size
          · intro A' c' w2 hown2 hg2 _
            have HO2 := Lib.hid hown2
            have HG2 := Lib.hid hg2
            clear hown2 hg2 a0
            generalize ((L.take j).flatten ++ a).length = q2 at HO2 ⊢
            go_wp2_with fail
            go_roundw
            case rel => exact ⟨j + 1, by omega, by go_num, by rw [HS.out]; exact HO2.out, HBW.out.trans (HO.out.kept HG2.out HBW.out.size)⟩
            case measure => simp [intOf]; omega
        · have HE : Hid (L.take j = L) := Lib.hid (List.take_of_length_le (by rw [← HUL.out]; omega))
          clear hown hbw
          go_wp2_with fail
          go_ret
          exact ⟨_, rfl, by have := HO.out; rwa [HE.out] at this, HBW.out⟩
end Go.Proofs.YtafbojiojeemoaaGreatDoor
