/-
  What val.Depth answers.
-/
import Derived.Test.YtoomgpbfcpnefaaDoorValW3
namespace Go.Proofs.YtoomgpbfcpnefaaDoor
open Go.RowKit Np Rw Vp

theorem fits_val {t : Tr Nd} (h : okT many t) (hl : (flat t).length ≤ 65536) : Fits (flat t) := by
  intro n hn
  rw [← subs_nd, List.mem_map] at hn
  obtain ⟨s, hs, rfl⟩ := hn
  have ho := subs_ok t h s hs
  have h1 : s.nd.many = s.ks.length := (okT_eq.1 ho).1
  obtain ⟨i, hi⟩ := List.getElem?_of_mem hs
  obtain ⟨q, hq⟩ := subs_drop t [] i s hi
  have h2 := congrArg List.length hq
  rw [List.append_nil, List.length_drop, List.length_append] at h2
  have h3 : (flat s).length = 1 + (flats s.ks).length := by rw [flat_eq]; simp; omega
  have h4 := flats_len s.ks
  omega

set_option maxHeartbeats 4000000 in
theorem depthV_any (v : Value) (t : Tr Nd) (w : World) (hv : Nds w v (flat t)) (hl : (flat t).length ≤ 65536) (ht : Val t) :
    Calls Tryd.prog 15 #[v] w fun e w' => e = .returned (.int .i64 (depth t : Nat)) ∧ Below w.heap.size w w' := by
  have hans := deepG_val ht
  have hrun : run Vp.start (flat t) = true := rightL_val ht
  have HFT := Lib.hid (fits_val ht.ok hl)
  have hpos := flat_pos t
  generalize depth t = ans at hans ⊢
  generalize flat t = l at *
  have HANS := Lib.hid hans
  have HRUN := Lib.hid hrun
  clear hans hrun ht
  obtain ⟨gv, o, c, rfl, hc, hcm, hgv, hx⟩ := hv.opened hpos
  have HX := Lib.hid hx; clear hx hv
  generalize hn : l.length = n at *
  have HN := Lib.hid hn; clear hn
  go_enter Tryd.func15, Tryd.ntmps15
  go_wp2_with fail
  refine (begin_any _).mono ?_
  rintro e w1 ⟨v1, rfl, ho1, hb1⟩
  obtain ⟨g, cap, rfl, hg, hglt⟩ := ho1.opened (by decide)
  have HO := Lib.hid ho1; clear ho1
  simp only [Vp.start, List.length_singleton] at HO ⊢
  go_wp2_with fail
  go_loopw [3, 4, 10] (fun a dd b wr => ∃ (k d : Nat) (st : List Hd) (A : Option Addr) (cc : Nat), k ≤ n ∧ b = .int .i64 k ∧ dd = .int .i64 d ∧ d ≤ k + 1 ∧ a = .slice A st.length cc ∧ OwnH w.heap.size wr (.slice A st.length cc) st ∧ Below w.heap.size w wr ∧ run st.reverse (l.drop k) = true ∧ deepG st.reverse d (l.drop k) = ans ∧ Fit st.reverse ∧ (∀ x ∈ st, x.left ≤ 9223372036854775807) ∧ st.length ≤ k + 1) (fun _ _ b _ => n - (intOf b).toNat)
  case atStart => exact ⟨0, 0, Vp.start, some ⟨g, 0, none⟩, cap, Nat.zero_le _, rfl, rfl, by omega, rfl, HO.out, hb1, HRUN.out, HANS.out, ⟨by decide, by simp⟩, by simp [Vp.start], by simp [Vp.start]⟩
  case round =>
    obtain ⟨k, d, st, A, cc, hk, rfl, rfl, hd, rfl, hos, hbw, hrun, hdp, hfit, hlf, hsl⟩ := hrel
    have HOS := Lib.hid hos
    have HR := Lib.hid hrun
    have HDP := Lib.hid hdp
    have HF := Lib.hid hfit
    have HLF := Lib.hid hlf
    clear hos hrun hdp hfit hlf
    by_cases hlt : k < n
    · obtain ⟨x, hx⟩ : ∃ a, l[k]? = some a := ⟨_, List.getElem?_eq_getElem (by rw [HN.out]; exact hlt)⟩
      obtain ⟨a0, a1, a2, a3, a4, a5⟩ := (HX.out k x hx).nd.below hgv hbw
      have HD : Hid (l.drop k = x :: l.drop (k + 1)) := Lib.hid (drop_at hx)
      have HFN : Hid (x.many ≤ 9223372036854775807) := Lib.hid (HFT.out x (List.mem_of_getElem? hx))
      clear hx
      rcases List.eq_nil_or_concat st with rfl | ⟨pre, h, rfl⟩
      · have := HR.out
        rw [HD.out] at this
        simp [run] at this
      · rw [List.concat_eq_append] at *
        have hrv : (pre ++ [h]).reverse = h :: pre.reverse := by simp
        rw [hrv] at HR HF HDP
        have hrr := HR.out
        rw [HD.out, run_cons, Bool.and_eq_true] at hrr
        have HR5 := Lib.hid hrr.2
        have HD5 : Hid (deepG (passH (h :: pre.reverse) x) (if cont x.kind = true then max d (pre.length + 1) else d) (l.drop (k + 1)) = ans) := Lib.hid (by rw [← HDP.out, HD.out, deepG_cons]; simp)
        clear hrr hrv
        have hh1 : 1 ≤ h.left := HF.out.1
        have hh2 : h.left ≤ 9223372036854775807 := HLF.out h (by simp)
        have hpl : (pre ++ [h]).length = pre.length + 1 := by simp
        rw [hpl] at hsl HOS ⊢
        clear hpl
        have HO0 : Hid (OwnH w.heap.size (wr.alloc (.cells #[.int .i64 x.kind, .int .i64 x.many, .string ⟨x.name.toArray⟩, .string ⟨x.s.toArray⟩, .bool x.neg, .int .i64 x.e] 44)) (.slice A (pre.length + 1) cc) (pre ++ [h])) := Lib.hid (HOS.out.alloc _)
        have HB0 : Hid (Below w.heap.size w (wr.alloc (.cells #[.int .i64 x.kind, .int .i64 x.many, .string ⟨x.name.toArray⟩, .string ⟨x.s.toArray⟩, .bool x.neg, .int .i64 x.e] 44))) := Lib.hid (hbw.alloc hbw.size _)
        have HFT5 : Hid (Fit (passH (h :: pre.reverse) x)) := Lib.hid (passH_fit HF.out)
        have HLF5 : Hid (∀ y ∈ (passH (h :: pre.reverse) x).reverse, y.left ≤ 9223372036854775807) := Lib.hid (fun y hy => passH_left (st := pre.reverse) (fun z hz => HLF.out z (by simpa [or_comm] using hz)) HFN.out y (List.mem_reverse.1 hy))
        have hln5 := passH_len (h :: pre.reverse) x
        simp only [List.length_cons, List.length_reverse] at hln5
        cases hcn : cont x.kind
        · have HCN := Lib.hid hcn
          rw [hcn] at HD5
          simp only [Bool.false_eq_true, if_false] at HD5
          clear hcn
          go_wp2_with fail
          refine (holdsParts_any _ _).mono ?_
          rintro e w' ⟨rfl, rfl⟩
          rw [HCN.out]
          go_wp2_with fail
          refine (pass_any _ pre h x _ w.heap.size HO0.out HB0.out.size (by omega) hh1 hh2).mono ?_
          rintro e5 w5 ⟨v5, rfl, ho5, hb5⟩
          obtain ⟨A5, c5, rfl, -, -, -⟩ := ho5.form
          have HO5 := Lib.hid ho5
          have HB5 := Lib.hid (HB0.out.trans hb5)
          clear ho5 hb5 a0 a1 a2 a3 a4 a5
          go_wp2_with fail
          go_roundw
          case rel => exact ⟨k + 1, d, (passH (h :: pre.reverse) x).reverse, A5, c5, by omega, by go_num, rfl, by omega, by rw [List.length_reverse], HO5.out, HB5.out, by rw [List.reverse_reverse, HR5.out], by rw [List.reverse_reverse, HD5.out], by rw [List.reverse_reverse]; exact HFT5.out, HLF5.out, by rw [List.length_reverse]; omega⟩
          case measure => simp [intOf]; omega
        · have HCN := Lib.hid hcn
          rw [hcn] at HD5
          simp only [if_true] at HD5
          clear hcn
          go_wp2_with fail
          refine (holdsParts_any _ _).mono ?_
          rintro e w' ⟨rfl, rfl⟩
          rw [HCN.out]
          go_wp2_with fail
          refine (pass_any _ pre h x _ w.heap.size HO0.out HB0.out.size (by omega) hh1 hh2).mono ?_
          rintro e5 w5 ⟨v5, rfl, ho5, hb5⟩
          obtain ⟨A5, c5, rfl, -, -, -⟩ := ho5.form
          have HO5 := Lib.hid ho5
          have HB5 := Lib.hid (HB0.out.trans hb5)
          clear ho5 hb5 a0 a1 a2 a3 a4 a5
          go_wp2_with fail
          go_roundw
          case rel => exact ⟨k + 1, max d (pre.length + 1), (passH (h :: pre.reverse) x).reverse, A5, c5, by omega, by go_num, by go_num, by omega, by rw [List.length_reverse], HO5.out, HB5.out, by rw [List.reverse_reverse, HR5.out], by rw [List.reverse_reverse, HD5.out], by rw [List.reverse_reverse]; exact HFT5.out, HLF5.out, by rw [List.length_reverse]; omega⟩
          case measure => simp [intOf]; omega
    · have HE : Hid (d = ans) := Lib.hid (by rw [← HDP.out, List.drop_of_length_le (by rw [HN.out]; omega), deepG])
      go_wp2
      go_ret
      exact ⟨ret_i64 (by rw [HE.out]), hbw⟩
end Go.Proofs.YtoomgpbfcpnefaaDoor
