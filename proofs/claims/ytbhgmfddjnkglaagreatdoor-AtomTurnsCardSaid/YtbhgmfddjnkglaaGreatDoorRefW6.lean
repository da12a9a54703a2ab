/-
  What the document's own answers are: Right, Few, All.
-/
import Derived.Test.YtbhgmfddjnkglaaGreatDoorRefW5
namespace Go.Proofs.YtbhgmfddjnkglaaGreatDoor
open Go.RowKit Np Rw Vp

theorem rightL_all {t : Tr Nd} (h : okT many t) (hn : t.nd.name = []) : rightL (flat t) = (subs t).all nodeOk := by
  rw [rightL_flat h, hn, rightT_subs t h]; simp
theorem all_snoc {α : Type} {p : α → Bool} {l : List α} {k : Nat} {x : α} (h : (l.take k).all p = true) (hx : l[k]? = some x) (hp : p x = true) : (l.take (k + 1)).all p = true := by
  rw [List.take_add_one, List.all_append, h, hx]; simp [hp]
theorem all_bad {α : Type} {p : α → Bool} {l : List α} {k : Nat} {x : α} (hx : l[k]? = some x) (hp : p x = false) : l.all p = false := by
  rw [List.all_eq_false]
  exact ⟨x, List.mem_of_getElem? hx, by simp [hp]⟩

set_option maxHeartbeats 4000000 in
theorem refRightV_any (v : Value) (l : List Nd) (w : World) (hv : Nds w v l) (hl : l.length ≤ 65536) (hsh : Short l) :
    Calls Tryz.prog 32 #[v] w fun e w' => e = .returned (.bool (rightL l)) ∧ Below w.heap.size w w' := by
  have hB : Below w.heap.size w w := Below.refl _ _
  have HSH := Lib.hid hsh; clear hsh
  cases l with
  | nil =>
    obtain ⟨A, c, rfl, -⟩ := hv
    simp only [List.length_nil]
    go_enter Tryz.func32, Tryz.ntmps32
    go_wp2_with fail
    go_ret
    exact ⟨ret_bool rightL_empty.symm, hB⟩
  | cons n l' =>
    have hvH := Lib.hid hv
    obtain ⟨g, o, c, rfl, hc, hcm, hg, hx⟩ := hv.opened (by simp)
    obtain ⟨-, -, a2, -, -, -⟩ := (hx 0 n rfl).nd
    simp only [Nat.zero_mul, Nat.add_zero] at a2
    have HX := Lib.hid hx; clear hx
    by_cases hnm : n.name = []
    · rw [hnm] at a2
      by_cases hnx : nxtL (n :: l').length (n :: l') 1 0 = (n :: l').length
      · obtain ⟨t, ht, hfl⟩ := skip_one (nxt_whole.1 hnx)
        have hnd : t.nd = n := by rw [flat_eq] at hfl; exact ((List.cons.inj hfl).1).symm
        have HV : Hid (rightL (n :: l') = (subs t).all nodeOk) := Lib.hid (by rw [hfl]; exact rightL_all ht (by rw [hnd]; exact hnm))
        have HFL := Lib.hid hfl
        have HT := Lib.hid ht
        have HNX := Lib.hid hnx
        have hsl : (subs t).length = (n :: l').length := by rw [subs_length, ← hfl]
        have hpos : 0 < (n :: l').length := by simp
        clear ht hfl hnd hnx hnm
        generalize n :: l' = l at *
        generalize hn : l.length = N at *
        have HN := Lib.hid hn; clear hn
        have HSL := Lib.hid hsl; clear hsl
        have e0 : ((N : Int) == 0) = false := by simp; omega
        have hvS := hvH.out
        go_enter Tryz.func32, Tryz.ntmps32
        go_wp2_with (go_at_call 55; refine (refNext_any _ l 0 _ hvH.out (by rw [HN.out]; exact hl) (Nat.zero_le _)).mono ?_; rintro e w' ⟨rfl, rfl⟩; rw [HN.out, List.drop_zero, HNX.out])
        go_loopw [3] (fun i wr => ∃ k : Nat, k ≤ N ∧ i = .int .i64 k ∧ Below w.heap.size w wr ∧ ((subs t).take k).all nodeOk = true) (fun i _ => N - (intOf i).toNat)
        case atStart => exact ⟨0, Nat.zero_le _, rfl, Below.refl _ _, rfl⟩
        case round =>
          obtain ⟨k, hk, rfl, hbw, hal⟩ := hrel
          have HAL := Lib.hid hal; clear hal
          by_cases hlt : k < N
          · obtain ⟨s, hs⟩ : ∃ s, (subs t)[k]? = some s := ⟨_, List.getElem?_eq_getElem (by rw [HSL.out]; exact hlt)⟩
            obtain ⟨q, hq⟩ := subs_drop t [] k s hs
            rw [List.append_nil, ← HFL.out] at hq
            have hat := head_at hq
            have hok : okT many s := subs_ok t HT.out s (List.mem_of_getElem? hs)
            obtain ⟨a0, a1, a2, a3, a4, a5⟩ := (HX.out k _ hat).nd.below hg hbw
            have HS := Lib.hid hs
            have HSN : Hid (s.nd.s.length ≤ maxLen) := Lib.hid (HSH.out _ (List.mem_of_getElem? hat)).2
            have HND : Hid (nodeOk s = (plainN s.nd && rising s.nd.kind s.ks)) := Lib.hid rfl
            have HQ := Lib.hid hq
            have HO := Lib.hid hok
            clear hs hq hat hok
            cases hp : plainN s.nd
            · have HP := Lib.hid hp
              have HE : Hid ((subs t).all nodeOk = false) := Lib.hid (all_bad HS.out (by rw [HND.out, hp]; rfl))
              clear hp
              go_wp2_with fail
              refine (refPlain_any s.nd _ HSN.out).mono ?_
              rintro e w1 ⟨rfl, hb1⟩
              rw [HP.out]
              go_wp2_with fail
              go_ret
              exact ⟨ret_bool (by rw [HV.out, HE.out]), Below.after hbw hb1⟩
            · have HP := Lib.hid hp
              clear hp
              cases hr : rising s.nd.kind s.ks
              · have HR := Lib.hid hr
                have HE : Hid ((subs t).all nodeOk = false) := Lib.hid (all_bad HS.out (by rw [HND.out, HP.out, hr]; rfl))
                clear hr
                go_wp2_with fail
                refine (refPlain_any s.nd _ HSN.out).mono ?_
                rintro e w1 ⟨rfl, hb1⟩
                rw [HP.out]
                go_wp2_with fail
                refine (refRising_any _ l k s q _ (hvH.out.below (Below.after hbw hb1)) (by rw [HN.out]; exact hl) HSH.out HQ.out HO.out).mono ?_
                rintro e w2 ⟨rfl, hq2⟩
                rw [HR.out]
                go_wp2_with fail
                go_ret
                exact ⟨ret_bool (by rw [HV.out, HE.out]), Below.after (Below.after hbw hb1) (below_quiet hq2)⟩
              · have HR := Lib.hid hr
                have HE : Hid (((subs t).take (k + 1)).all nodeOk = true) := Lib.hid (all_snoc HAL.out HS.out (by rw [HND.out, HP.out, hr]; rfl))
                clear hr
                go_wp2_with fail
                refine (refPlain_any s.nd _ HSN.out).mono ?_
                rintro e w1 ⟨rfl, hb1⟩
                rw [HP.out]
                go_wp2_with fail
                refine (refRising_any _ l k s q _ (hvH.out.below (Below.after hbw hb1)) (by rw [HN.out]; exact hl) HSH.out HQ.out HO.out).mono ?_
                rintro e w2 ⟨rfl, hq2⟩
                rw [HR.out]
                go_wp2_with fail
                go_roundw
                case rel => exact ⟨k + 1, by omega, by go_num, Below.after (Below.after hbw hb1) (below_quiet hq2), HE.out⟩
                case measure => simp [intOf]; omega
          · have HE : Hid ((subs t).all nodeOk = true) := Lib.hid (by have := HAL.out; rwa [List.take_of_length_le (by rw [HSL.out]; omega)] at this)
            go_wp2
            go_ret
            exact ⟨ret_bool (by rw [HV.out, HE.out]), hbw⟩
      · have HV := Lib.hid (rightL_next hnx)
        have hpos : 0 < (n :: l').length := by simp
        generalize n :: l' = l at *
        generalize hn : l.length = N at *
        have HN := Lib.hid hn; clear hn
        have e0 : ((N : Int) == 0) = false := by simp; omega
        obtain ⟨x, hx⟩ : ∃ x, nxtL N l 1 0 = x := ⟨_, rfl⟩
        rw [hx] at hnx
        have HNX := Lib.hid hx
        have hne : (x == (N : Int)) = false := by simp [hnx]
        have hne' : (x != (N : Int)) = true := by simp [hnx]
        clear hx hnx hnm
        go_enter Tryz.func32, Tryz.ntmps32
        go_wp2_with (go_at_call 55; refine (refNext_any _ l 0 _ hvH.out (by rw [HN.out]; exact hl) (Nat.zero_le _)).mono ?_; rintro e w' ⟨rfl, rfl⟩; rw [HN.out, List.drop_zero, HNX.out])
        go_ret
        exact ⟨ret_bool HV.out.symm, hB⟩
    · have HV := Lib.hid (rightL_name (l := l') hnm)
      have hpos : 0 < (n :: l').length := by simp
      have hne1 : n.name.isEmpty = false := by cases h : n.name <;> simp_all
      have hne2 : (!n.name.isEmpty) = true := by simp [hne1]
      generalize hn : (n :: l').length = N at *
      have HN := Lib.hid hn; clear hn
      have e0 : ((N : Int) == 0) = false := by simp; omega
      go_enter Tryz.func32, Tryz.ntmps32
      go_wp2_with fail
      go_ret
      exact ⟨ret_bool HV.out.symm, hB⟩

/-- Is a row a right value, of few nodes, with short texts? -/
def shortN (n : Nd) : Bool := decide (n.s.length ≤ 200) && decide (n.name.length ≤ 200)
def few (m : Nat) (l : List Nd) : Bool := decide (l.length ≤ m) && l.all shortN && rightL l
theorem few_short {l : List Nd} (h : l.all shortN = true) : Short l := by
  intro n hn
  have := List.all_eq_true.1 h n hn
  simp [shortN] at this
  unfold maxLen
  omega


/-- Are all right, together of few nodes? -/
def sumL (L : List (List Nd)) : Nat := L.length + (L.map List.length).sum
def allFew (m : Nat) (L : List (List Nd)) : Bool := decide (sumL L ≤ m) && L.all (few m)
theorem sum_take {L : List (List Nd)} {k : Nat} {x : List Nd} (hx : L[k]? = some x) : ((L.take (k + 1)).map List.length).sum = ((L.take k).map List.length).sum + x.length := by
  rw [List.take_add_one, hx]; simp
theorem sum_take_le (L : List (List Nd)) (k : Nat) : ((L.take k).map List.length).sum ≤ (L.map List.length).sum := by
  conv => rhs; rw [← List.take_append_drop k L, List.map_append, List.sum_append]
  omega

end Go.Proofs.YtbhgmfddjnkglaaGreatDoor
