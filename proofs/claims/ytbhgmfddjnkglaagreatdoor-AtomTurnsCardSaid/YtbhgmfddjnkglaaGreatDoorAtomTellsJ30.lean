/-
  Joined: AtL6.
-/
import Derived.Test.YtbhgmfddjnkglaaGreatDoorAtomTellsJ27

/-
  The iterator of candidates, of atoms that compare with the number one.
-/
namespace Go.Proofs.YtbhgmfddjnkglaaGreatDoor
open Go.RowKit Go.Shelf Np Rw Vp Ov Ap
attribute [local go_sem] Oper.semAt_some

def firstC : List Cnd := [c0N, c1N, c2N, c3N]
def numsC (k : Nat) : List Cnd := firstC ++ (List.replicate k threeC).flatten
def candC (k : Nat) : List Cnd := numsC k ++ [c4N]
theorem firstC_at (k : Nat) (h : k < 4) : (firstC[k]'h).1 = kindN k := by
  have : k = 0 ∨ k = 1 ∨ k = 2 ∨ k = 3 := by omega
  rcases this with rfl | rfl | rfl | rfl <;> rfl
theorem numsC_succ (k : Nat) : numsC (k + 1) = numsC k ++ threeC := by
  simp [numsC, List.replicate_succ']
theorem numsC_len (k : Nat) : (numsC k).length = 4 + k * 3 := by
  have : firstC.length = 4 := rfl
  have h3 : threeC.length = 3 := rfl
  simp [numsC, this, h3]
theorem numsC_prefix {k m : Nat} (h : k ≤ m) : numsC k <+: candC m := by
  obtain ⟨d, rfl⟩ := Nat.exists_eq_add_of_le h
  refine ⟨(List.replicate d threeC).flatten ++ [c4N], ?_⟩
  rw [candC, numsC, numsC, ← List.replicate_append_replicate, List.flatten_append]
  simp only [List.append_assoc]
theorem firstC_take_prefix (k m : Nat) : firstC.take k <+: candC m := (List.take_prefix _ _).trans ((List.prefix_append _ _).trans (List.prefix_append _ _))
set_option maxRecDepth 100000 in
set_option maxHeartbeats 4000000 in
theorem cands1_in (n l Bn : Nat) (lv : Value) (L : List Atm) (J Jx : List Cnd → World → Prop) (hones : ∀ a ∈ L, a.c = oneN) (hlen : L.length ≤ 100) (W : World) (hJ : AbidesFrom W.heap.size J) (hY : ∀ m, Rnd l (candC L.length).length m J Jx)
    (hBx : W.cell? ⟨Bn, 0, none⟩ = some lv) (hL : Ats W lv L) (h0 : J [] W) :
    CallsIn Fence.wide n Tryz.prog 47 #[.func (.yield l) #[] #[], .pointer (some ⟨Bn, 0, none⟩)] W fun e W' => (∃ v, e = .returned v) ∧
      ((∃ ys, ys = candC L.length ∧ J ys W') ∨ (∃ pre, pre <+: candC L.length ∧ Jx pre W')) := by
  have HXP : Hid (∀ k a, L[k]? = some a → ∃ g o c, lv = .slice (some ⟨g, o, none⟩) L.length c ∧ g < W.heap.size ∧ At7 W g (o + k * 7) a) := Lib.hid fun k s hs => by
    obtain ⟨g, o, c, hv, -, -, hg, hx⟩ := hL.opened (by have := (List.getElem?_eq_some_iff.1 hs).1; omega)
    exact ⟨g, o, c, hv, hg, (hx k s hs).atm⟩
  obtain ⟨P, pc, rfl, -⟩ := hL
  have HJ := Lib.hid hJ
  have HY := Lib.hid hY
  have HON := Lib.hid hones
  have HBX := Lib.hid hBx
  have hcl : (candC L.length).length = 5 + L.length * 3 := by simp [candC, numsC_len]; omega
  rw [hcl] at HY
  clear hJ hY hones hcl hBx
  generalize hm : L.length = m at *
  have HM := Lib.hid hm
  clear hm
  refine callsIn_of_wp Tryz.func47 rfl trivial ?_ rfl
  simp only [Tryz.ntmps47, List.size_toArray, List.length_cons, List.length_nil, Nat.reduceAdd, Nat.reduceSub, Array.replicate_succ, Array.replicate_zero, List.push_toArray, List.append_toArray, List.nil_append, List.cons_append]
  gi_wp2_with fail
  gi_loopw [3] (fun iv wr => ∃ k : Nat, k ≤ 4 ∧ iv = .int .i64 k ∧ J (firstC.take k) wr ∧ Kc W wr) (fun iv _ => 4 - (intOf iv).toNat)
  case atStart => exact ⟨0, by omega, rfl, h0, Kc.refl _⟩
  case round =>
    obtain ⟨k, hk, rfl, hJs, hkc⟩ := hrel
    by_cases hlt : k < 4
    · have HJS := Lib.hid hJs
      have HKC := Lib.hid hkc
      have hle : (k : Int) ≤ 3 := by omega
      obtain ⟨fn, tmps, assign, body, hy, hR⟩ := HY.out (n - 1) (firstC.take k) (firstC[k]'hlt) _ hJs (by rw [List.length_take]; simp [firstC]; omega)
      rw [firstC_at k hlt] at hy
      simp only [kindN] at hy
      have HR := Lib.hid hR
      clear hR hJs hkc
      gi_wp2_with fail
      refine ⟨fun h => (by cases h), ?_⟩
      refine HR.out.mono ?_
      clear hy
      have HTK : Hid (firstC.take k ++ [firstC[k]'hlt] = firstC.take (k + 1)) := Lib.hid (List.take_succ_eq_append_getElem (l := firstC) hlt).symm
      rintro e W3 (⟨rfl, hJ3, hk3⟩ | ⟨rfl, hJx3⟩)
      · rw [HTK.out] at hJ3
        have HJ3 := Lib.hid hJ3
        have HK3 := Lib.hid (HKC.out.trans hk3)
        clear hJ3 hk3
        gi_wp2_with fail
        go_roundw
        case rel => exact ⟨k + 1, by omega, by go_num, HJ3.out, HK3.out⟩
        case measure => simp [intOf]; omega
      · rw [HTK.out] at hJx3
        gi_wp2_with fail
        refine bodyPost_ret (results_none rfl _ _ _) rfl ?_
        exact ⟨⟨_, rfl⟩, .inr ⟨_, firstC_take_prefix _ _, hJx3⟩⟩
    · obtain rfl : k = 4 := by omega
      rw [show ((4 : Nat) : Int) = 4 from rfl]
      have HJS : Hid (J (numsC 0) wr) := Lib.hid hJs
      have HKC := Lib.hid hkc
      have hcb := hkc.cell HBX.out
      clear hJs hkc
      gi_wp2_with fail
      gi_loopw [19] (fun iv wr => ∃ k : Nat, k ≤ m ∧ iv = .int .i64 k ∧ J (numsC k) wr ∧ Kc W wr) (fun iv _ => m - (intOf iv).toNat)
      case atStart => exact ⟨0, by omega, rfl, HJS.out, HKC.out⟩
      case round =>
        clear hcb HJS HKC
        obtain ⟨k, hk, rfl, hJs, hkc⟩ := hrel
        by_cases hlt : k < m
        · have hkp : k < L.length := by rw [HM.out]; exact hlt
          obtain ⟨gp, op, cp, e1, hgp, hs7⟩ := HXP.out k _ (List.getElem?_eq_getElem hkp)
          have hc1 : L[k].c = oneN := HON.out _ (List.getElem_mem hkp)
          injection e1 with e1 e2 e3
          subst e1 e3
          obtain ⟨q0, q1, q2, q3, q4, q5, q6⟩ := hs7
          have y0 := hkc.cell q0
          have y1 := hkc.cell q1
          have y2 := hkc.cell q2
          have y3 := hkc.cell q3
          have y4 := hkc.cell q4
          have y5 := hkc.cell q5
          have y6 := hkc.cell q6
          have hcb' := hkc.cell HBX.out
          clear e2 q0 q1 q2 q3 q4 q5 q6
          obtain ⟨an, ac⟩ : ∃ an, L[k].n = an := ⟨_, rfl⟩
          rw [hc1] at y1 y2 y3 y4 y5 y6
          rw [ac] at y0
          unfold oneN at y1 y2 y3 y4 y5 y6
          simp only at y1 y2 y3 y4 y5 y6
          clear hc1 ac
          have hAl : Below wr.heap.size wr (wr.alloc (.cells #[.int .i64 an, .int .i64 3, .int .i64 0, .string ⟨#[]⟩, .string ⟨#[49]⟩, .bool false, .int .i64 0] 27)) := (Below.refl _ _).alloc (Nat.le_refl _) _
          have HYO := Lib.hid (yieldOne_in (n - 1) l (5 + m * 3) W.heap.size J Jx HJ.out HY.out (numsC k) _ (J_below HJ.out hJs hAl) (by rw [numsC_len]; omega))
          have HKC := Lib.hid (hkc.trans (Kc.of_below hAl))
          clear hJs hkc hAl
          gi_wp2_with fail
          refine ⟨trivial, fun h => (by cases h), ?_⟩
          have HYO2 := HYO.out
          unfold oneN at HYO2
          refine HYO2.mono ?_
          clear HYO2 HYO
          rintro e W3 (⟨rfl, hJ3, hk3⟩ | ⟨rfl, q, hq, hJx3⟩)
          · rw [← numsC_succ] at hJ3
            have HJ3 := Lib.hid hJ3
            have HK3 := Lib.hid (HKC.out.trans hk3)
            clear hJ3 hk3 y0 y1 y2 y3 y4 y5 y6
            gi_wp2_with fail
            go_roundw
            case rel => exact ⟨k + 1, by omega, by go_num, HJ3.out, HK3.out⟩
            case measure => simp [intOf]; omega
          · have HQ : Hid (∃ pre, pre <+: candC m ∧ Jx pre W3) := Lib.hid ⟨numsC k ++ q, ((List.prefix_append_right_inj _).2 hq).trans (by rw [← numsC_succ]; exact numsC_prefix hlt), hJx3⟩
            clear hJx3 hq y0 y1 y2 y3 y4 y5 y6
            gi_wp2_with fail
            refine bodyPost_ret (results_none rfl _ _ _) rfl ?_
            exact ⟨⟨_, rfl⟩, .inr HQ.out⟩
        · obtain rfl : k = m := by omega
          have HJS := Lib.hid hJs
          have HKC := Lib.hid hkc
          have hcb := hkc.cell HBX.out
          have hnl : (numsC k).length < 5 + k * 3 := by rw [numsC_len]; omega
          obtain ⟨fn, tmps, assign, body, hy, hR⟩ := HY.out (n - 1) (numsC k) c4N _ hJs hnl
          simp only [c4N, kindN] at hy
          have HR := Lib.hid hR
          clear hJs hkc hR
          gi_wp2_with fail
          refine ⟨fun h => (by cases h), ?_⟩
          refine HR.out.mono ?_
          clear hy HR
          rintro e W3 (⟨rfl, hJ3, hk3⟩ | ⟨rfl, hJx3⟩)
          · have HJ3 : Hid (J (candC k) W3) := Lib.hid hJ3
            have HK3 := Lib.hid (HKC.out.trans hk3)
            have hcb3 := HK3.out.cell HBX.out
            clear hJ3 hk3 hcb HJS HKC
            gi_wp2_with fail
            gi_loopw [41] (fun iv wr => ∃ i : Nat, i ≤ k ∧ iv = .int .i64 i ∧ J (candC k) wr ∧ Kc W wr) (fun iv _ => k - (intOf iv).toNat)
            case atStart => exact ⟨0, by omega, rfl, HJ3.out, HK3.out⟩
            case round =>
              clear hcb3 HJ3 HK3
              obtain ⟨i, hi, rfl, hJs, hkc⟩ := hrel
              by_cases hlt3 : i < k
              · have hkp : i < L.length := by rw [HM.out]; exact hlt3
                obtain ⟨gp, op, cp, e1, hgp, hs7⟩ := HXP.out i _ (List.getElem?_eq_getElem hkp)
                have hc1 : L[i].c = oneN := HON.out _ (List.getElem_mem hkp)
                injection e1 with e1 e2 e3
                subst e1 e3
                obtain ⟨q0, q1, q2, q3, q4, q5, q6⟩ := hs7
                have y0 := hkc.cell q0
                have y1 := hkc.cell q1
                have y2 := hkc.cell q2
                have y3 := hkc.cell q3
                have y4 := hkc.cell q4
                have y5 := hkc.cell q5
                have y6 := hkc.cell q6
                have hcb' := hkc.cell HBX.out
                clear e2 q0 q1 q2 q3 q4 q5 q6
                obtain ⟨an, ac⟩ : ∃ an, L[i].n = an := ⟨_, rfl⟩
                rw [hc1] at y1 y2 y3 y4 y5 y6
                rw [ac] at y0
                unfold oneN at y1 y2 y3 y4 y5 y6
                simp only at y1 y2 y3 y4 y5 y6
                clear hc1 ac
                have hAl : Below wr.heap.size wr (wr.alloc (.cells #[.int .i64 an, .int .i64 3, .int .i64 0, .string ⟨#[]⟩, .string ⟨#[49]⟩, .bool false, .int .i64 0] 27)) := (Below.refl _ _).alloc (Nat.le_refl _) _
                have HJA := Lib.hid (J_below HJ.out hJs hAl)
                have HKA := Lib.hid (hkc.trans (Kc.of_below hAl))
                clear hJs hkc hAl
                gi_wp2_with fail
                refine ⟨trivial, ?_⟩
                gi_wp2_with fail
                go_roundw
                case rel => exact ⟨i + 1, by omega, by go_num, HJA.out, HKA.out⟩
                case measure => simp [intOf]; omega
              · have HJF := Lib.hid hJs
                clear hJs hkc
                obtain rfl : i = k := by omega
                gi_wp2_with fail
                go_end0
                exact ⟨⟨_, rfl⟩, .inl ⟨_, rfl, HJF.out⟩⟩
          · have HQ : Hid (∃ pre, pre <+: candC k ∧ Jx pre W3) := Lib.hid ⟨_, List.prefix_refl _, hJx3⟩
            clear hJx3
            gi_wp2_with fail
            refine bodyPost_ret (results_none rfl _ _ _) rfl ?_
            exact ⟨⟨_, rfl⟩, .inr HQ.out⟩
end Go.Proofs.YtbhgmfddjnkglaaGreatDoor
