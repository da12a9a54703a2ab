/-
  The walk of the statement ValMakes: it returns true.
-/
import Derived.Test.YtoomgpbfcpnefaaDoorRefW10
import Derived.Test.YtoomgpbfcpnefaaDoorRefW6
import Derived.Test.YtoomgpbfcpnefaaDoorBackP
import Derived.Test.YtoomgpbfcpnefaaDoorValW10
import Derived.Test.YtoomgpbfcpnefaaDoorAlive
namespace Go.Proofs.YtoomgpbfcpnefaaDoor
open Go.RowKit Np Rw Vp

theorem refSame_self (va vb : Value) (l : List Nd) (w : World) (ha : Nds w va l) (hb : Nds w vb l) :
    Calls Tryd.prog 14 #[va, vb] w fun e w' => e = .returned (.bool true) ∧ Below w.heap.size w w' :=
  (refSame_any va vb l l w ha hb).mono fun _ _ h => ⟨by rw [h.1]; simp, h.2⟩
theorem laid_right : ∀ L : List (List Nd), (∀ l ∈ L, rightL l = true) → laid (L.map fun l => (([], l) : Pr)) = L.flatten
  | [], _ => rfl
  | l :: L, h => by
    obtain ⟨t, ht, rfl⟩ := val_of_rightL (h l (by simp))
    rw [List.map_cons, laid_cons, laid_right L (fun x hx => h x (by simp [hx])), setNm_val ht, List.flatten_cons]

set_option maxRecDepth 100000 in
set_option maxHeartbeats 4000000 in
theorem valMakes_any (v u : Value) (names : List (List UInt8)) (L : List (List Nd)) (w : World) (hv : Sts w v names) (hu : Vls w u L) (hT : Tabs w) (hb1 : L.length ≤ 140737488355328) (hb2 : ∀ l ∈ L, l.length ≤ 140737488355328) (hs : ∀ s ∈ names, s.length ≤ maxLen) :
    Calls Tryd.prog 4 #[v, u] w fun e w' => e = .returned (.bool true) ∧ Below w.heap.size w w' := by
  have HT := Lib.hid hT
  have HS := Lib.hid hs
  have HAL := Lib.hid (fun (W : World) (hb : Below w.heap.size w W) => (alive_any W (HT.out.below hb)).mono fun (e : Ending) w' (h : e = .returned (.bool true) ∧ Below W.heap.size W w') => (⟨h.1, Below.after hb h.2⟩ : e = .returned (.bool true) ∧ Below w.heap.size w w'))
  have HALL := Lib.hid (refAll_any u L 60 w hu (by decide) hb1 hb2)
  have HV := Lib.hid hv
  have HU := Lib.hid hu
  obtain ⟨A, c, rfl, -⟩ := hv
  clear hT hs hb1 hb2 hu
  by_cases hbig : 60 < names.length
  · have hd : decide ((60 : Int) < names.length) = true := by simp; omega
    generalize names.length = n at *
    go_enter Tryd.func4, Tryd.ntmps4
    go_wp2_with (go_at_call 10; refine (HAL.out _ (Below.refl _ _)).mono ?_; rintro e w1 ⟨rfl, hb1⟩)
    go_ret
    exact ⟨rfl, hb1⟩
  · have hd : decide ((60 : Int) < names.length) = false := by simp; omega
    cases hall : allFew 60 L with
    | false =>
      have HF := Lib.hid hall
      clear hall
      generalize names.length = n at *
      go_enter Tryd.func4, Tryd.ntmps4
      go_wp2_with (first | (go_at_call 23; refine HALL.out.mono ?_; rintro e w1 ⟨rfl, hb0⟩; rw [HF.out]) | (go_at_call 10; refine (HAL.out _ hb0).mono ?_; rintro e w2 ⟨rfl, hb1⟩))
      go_ret
      exact ⟨rfl, hb1⟩
    | true =>
      have HF := Lib.hid hall
      rw [allFew, Bool.and_eq_true, decide_eq_true_eq, List.all_eq_true] at hall
      obtain ⟨hsum, hfew⟩ := hall
      have hr : ∀ l ∈ L, rightL l = true := fun l hl => by
        have := hfew l hl
        rw [few, Bool.and_eq_true] at this
        exact this.2
      have HNE : Hid (∀ l ∈ L, l ≠ []) := Lib.hid (fun l hl e => by
        obtain ⟨t, ht, h⟩ := val_of_rightL (hr l hl)
        have h2 := flat_pos t
        rw [← h, e] at h2
        exact absurd h2 (by simp))
      have HLR := Lib.hid (laid_right L hr)
      clear hfew hr
      have hL60 : L.length ≤ 60 := by unfold sumL at hsum; omega
      have hS60 : (L.map List.length).sum ≤ 60 := by unfold sumL at hsum; omega
      obtain ⟨N, HN⟩ : ∃ N, Hid ((objV names L).length = N) := ⟨_, Lib.hid rfl⟩
      obtain ⟨M, HM⟩ : ∃ M, Hid ((hdN 5 L.length :: L.flatten).length = M) := ⟨_, Lib.hid rfl⟩
      have HO := Lib.hid (fun (W : World) (hb : Below w.heap.size w W) => (object_any _ _ names L W (HV.out.below hb) (HU.out.below hb) (by omega) (by omega) HS.out (HT.out.below hb)).mono fun _ _ h => h.is HN.out)
      have HRO := Lib.hid (fun (W : World) (hb : Below w.heap.size w W) => (refObject_any _ _ names L W (HV.out.below hb) (HU.out.below hb) (by omega) (by omega) HS.out HNE.out).mono fun _ _ h => h.is HN.out)
      have HLI := Lib.hid (fun (W : World) (hb : Below w.heap.size w W) => (list_any _ L W (HU.out.below hb) (by omega) (by omega)).mono fun _ _ h => (by rw [HLR.out] at h; exact h : OwnsN W (hdN 5 L.length :: L.flatten) _ _).is HM.out)
      have HRL := Lib.hid (fun (W : World) (hb : Below w.heap.size w W) => (refList_any _ L W (HU.out.below hb) (by omega) (by omega)).mono fun _ _ h => h.is HM.out)
      clear hsum hL60 hS60 hbig
      generalize objE names L = oe at HO HRO
      generalize names.length = n at *
      go_enter Tryd.func4, Tryd.ntmps4
      go_wp2_with fail
      refine HALL.out.mono ?_
      rintro e w1 ⟨rfl, hb1⟩
      rw [HF.out]
      have HB1 := Lib.hid hb1
      clear hb1
      go_wp2_with fail
      refine (HO.out _ HB1.out).mono ?_
      rintro e w2 ⟨A2, c2, rfl, hx2, hb2⟩
      have HB2 := Lib.hid (Below.after HB1.out hb2)
      have HX2 := Lib.hid hx2
      clear hb2 hx2
      go_wp2_with fail
      refine (HRO.out _ HB2.out).mono ?_
      rintro e w3 ⟨A3, c3, rfl, hx3, hb3⟩
      have HB3 := Lib.hid (Below.after HB2.out hb3)
      have HX3 := Lib.hid hx3
      have HX2' := Lib.hid (HX2.out.below hb3)
      clear hb3 hx3 HX2
      go_wp2_with fail
      refine (alive_any _ (HT.out.below HB3.out)).mono ?_
      rintro e w4 ⟨rfl, hb4⟩
      have HB4 := Lib.hid (Below.after HB3.out hb4)
      have HX24 := Lib.hid (HX2'.out.below hb4)
      have HX34 := Lib.hid (HX3.out.below hb4)
      clear hb4 HX3 HX2'
      go_wp2_with fail
      refine (HLI.out _ HB4.out).mono ?_
      rintro e w5 ⟨A5, c5, rfl, hx5, hb5⟩
      have HB5 := Lib.hid (Below.after HB4.out hb5)
      have HX5 := Lib.hid hx5
      have HX25 := Lib.hid (HX24.out.below hb5)
      have HX35 := Lib.hid (HX34.out.below hb5)
      clear hb5 hx5 HX24 HX34
      go_wp2_with fail
      refine (HRL.out _ HB5.out).mono ?_
      rintro e w6 ⟨A6, c6, rfl, hx6, hb6⟩
      have HB6 := Lib.hid (Below.after HB5.out hb6)
      have HX6 := Lib.hid hx6
      have HX56 := Lib.hid (HX5.out.below hb6)
      have HX26 := Lib.hid (HX25.out.below hb6)
      have HX36 := Lib.hid (HX35.out.below hb6)
      clear hb6 hx6 HX5 HX25 HX35
      go_wp2_with fail
      refine (refSame_self _ _ _ w6 HX56.out HX6.out).mono ?_
      rintro e w7 ⟨rfl, hb7⟩
      have HB7 := Lib.hid (Below.after HB6.out hb7)
      have HX27 := Lib.hid (HX26.out.below hb7)
      have HX37 := Lib.hid (HX36.out.below hb7)
      clear hb7 HX26 HX36
      go_wp2_with fail
      refine (refSame_self _ _ _ w7 HX27.out HX37.out).mono ?_
      rintro e w8 ⟨rfl, hb8⟩
      have HB8 := Lib.hid (Below.after HB7.out hb8)
      clear hb8
      go_wp2_with fail
      go_ret
      exact ⟨rfl, HB8.out⟩
end Go.Proofs.YtoomgpbfcpnefaaDoor
