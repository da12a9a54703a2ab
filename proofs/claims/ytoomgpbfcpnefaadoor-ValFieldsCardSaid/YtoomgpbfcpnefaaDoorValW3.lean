/-
  What val.Right answers.
-/
import Derived.Test.YtoomgpbfcpnefaaDoorValW2
import Derived.StillTailTactics
namespace Go.Proofs.YtoomgpbfcpnefaaDoor
open Go.RowKit Np Rw Vp

/-- Numbers that memory can hold. -/
def Fits (l : List Nd) : Prop := ∀ n ∈ l, n.many ≤ 9223372036854775807

/-- What the walk along a row rests on, at a node. -/
def Rg (g p B : Nat) (h : Hd) (x : Nd) (W0 w' : World) : Prop :=
  w'.cell? ⟨g, p * 4, none⟩ = some (.int .i64 h.kind) ∧ w'.cell? ⟨g, p * 4 + 1, none⟩ = some (.int .i64 h.left) ∧ w'.cell? ⟨g, p * 4 + 2, none⟩ = some (.bool h.begun) ∧ w'.cell? ⟨g, p * 4 + 3, none⟩ = some (.string ⟨h.ahead.toArray⟩) ∧
  w'.cell? ⟨B, 0, none⟩ = some (.int .i64 x.kind) ∧ w'.cell? ⟨B, 1, none⟩ = some (.int .i64 x.many) ∧ w'.cell? ⟨B, 2, none⟩ = some (.string ⟨x.name.toArray⟩) ∧ w'.cell? ⟨B, 3, none⟩ = some (.string ⟨x.s.toArray⟩) ∧ w'.cell? ⟨B, 4, none⟩ = some (.bool x.neg) ∧ w'.cell? ⟨B, 5, none⟩ = some (.int .i64 x.e) ∧
  g < w'.heap.size ∧ B < w'.heap.size ∧ Tabs w' ∧ Below W0.heap.size W0 w'
theorem Rg.step {g p B : Nat} {h : Hd} {x : Nd} {W0 W W' : World} (hr : Rg g p B h x W0 W) (hb : Below W.heap.size W W') : Rg g p B h x W0 W' := by
  obtain ⟨a0, a1, a2, a3, b0, b1, b2, b3, b4, b5, hg, hB, hT, hl⟩ := hr
  exact ⟨(hb.cell hg).trans a0, (hb.cell hg).trans a1, (hb.cell hg).trans a2, (hb.cell hg).trans a3, (hb.cell hB).trans b0, (hb.cell hB).trans b1, (hb.cell hB).trans b2, (hb.cell hB).trans b3, (hb.cell hB).trans b4, (hb.cell hB).trans b5,
    Nat.lt_of_lt_of_le hg hb.size, Nat.lt_of_lt_of_le hB hb.size, hT.below hb, Below.after hl hb⟩
theorem Rg.tabs {g p B : Nat} {h : Hd} {x : Nd} {W0 W : World} (hr : Rg g p B h x W0 W) : Tabs W := hr.2.2.2.2.2.2.2.2.2.2.2.2.1
theorem Rg.low {g p B : Nat} {h : Hd} {x : Nd} {W0 W : World} (hr : Rg g p B h x W0 W) : Below W0.heap.size W0 W := hr.2.2.2.2.2.2.2.2.2.2.2.2.2

theorem pop_mem : ∀ {st : List Hd} {y : Hd}, y ∈ pop st → y ∈ st
  | h :: st, y, hy => by
    unfold pop at hy
    split at hy
    · exact List.mem_cons_of_mem _ (pop_mem hy)
    · exact hy
theorem passH_left {h : Hd} {st : List Hd} {n : Nd} {B : Int} (hst : ∀ x ∈ h :: st, x.left ≤ B) (hn : n.many ≤ B) : ∀ y ∈ passH (h :: st) n, y.left ≤ B := by
  have hs : ∀ y ∈ stepH h n :: st, y.left ≤ B := by
    intro y hy
    rcases List.mem_cons.1 hy with rfl | hy
    · have := hst h (by simp); simp [stepH]; omega
    · exact hst y (by simp [hy])
  intro y hy
  rw [passH_cons] at hy
  split at hy
  · rcases List.mem_cons.1 hy with rfl | hy
    · exact hn
    · exact hs y hy
  · exact hs y (pop_mem hy)

set_option maxRecDepth 100000 in
set_option maxHeartbeats 4000000 in
theorem rightV_any (v : Value) (l : List Nd) (w : World) (hv : Nds w v l) (hl : l.length ≤ 65536) (hsh : Short l) (hft : Fits l) (hT : Tabs w) :
    Calls Tryd.prog 12 #[v] w fun e w' => e = .returned (.bool (rightL l)) ∧ Below w.heap.size w w' := by
  generalize hans : rightL l = ans
  have HANS := Lib.hid hans; clear hans
  have HSH := Lib.hid hsh
  have HFT := Lib.hid hft
  clear hsh hft
  rcases Nat.eq_zero_or_pos l.length with h0 | h0
  · have e1 := List.eq_nil_of_length_eq_zero h0
    subst e1
    obtain ⟨A, c, rfl, -⟩ := hv
    have HE : Hid (ans = false) := Lib.hid (by rw [← HANS.out]; rfl)
    clear h0 hl
    simp only [List.length_nil]
    go_enter Tryd.func12, Tryd.ntmps12
    go_wp2_with fail
    refine (begin_any _).mono ?_
    rintro e w1 ⟨v1, rfl, ho1, hb1⟩
    obtain ⟨g, cap, rfl, hg, hglt⟩ := ho1.opened (by decide)
    have HO := Lib.hid ho1; clear ho1
    simp only [Vp.start, List.length_singleton]
    go_wp2_with fail
    go_loopw [3, 9] (fun a b wr => a = .slice (some ⟨g, 0, none⟩) 1 cap ∧ b = .int .i64 0 ∧ wr = w1) (fun _ _ _ => 0)
    case atStart => exact ⟨rfl, rfl, rfl⟩
    case round =>
      obtain ⟨rfl, rfl, rfl⟩ := hrel
      go_wp2
      go_ret
      exact ⟨ret_bool HE.out.symm, hb1⟩
  · obtain ⟨gv, o, c, rfl, hc, hcm, hgv, hx⟩ := hv.opened h0
    have HX := Lib.hid hx; clear hx
    generalize hn : l.length = n at *
    have HN := Lib.hid hn; clear hn
    go_enter Tryd.func12, Tryd.ntmps12
    go_wp2_with fail
    refine (begin_any _).mono ?_
    rintro e w1 ⟨v1, rfl, ho1, hb1⟩
    obtain ⟨g, cap, rfl, hg, hglt⟩ := ho1.opened (by decide)
    have HO := Lib.hid ho1; clear ho1
    simp only [Vp.start, List.length_singleton] at HO ⊢
    go_wp2_with fail
    go_loopw [3, 9] (fun a b wr => ∃ (k : Nat) (st : List Hd) (A : Option Addr) (cc : Nat), k ≤ n ∧ b = .int .i64 k ∧ a = .slice A st.length cc ∧ OwnH w.heap.size wr (.slice A st.length cc) st ∧ Below w.heap.size w wr ∧ run st.reverse (l.drop k) = ans ∧ Fit st.reverse ∧ (∀ x ∈ st, x.left ≤ 9223372036854775807) ∧ st.length ≤ k + 1) (fun _ b _ => n - (intOf b).toNat)
    case atStart => exact ⟨0, Vp.start, some ⟨g, 0, none⟩, cap, Nat.zero_le _, rfl, rfl, HO.out, hb1, HANS.out, ⟨by decide, by simp⟩, by simp [Vp.start], by simp [Vp.start]⟩
    case round =>
      obtain ⟨k, st, A, cc, hk, rfl, rfl, hos, hbw, hrun, hfit, hlf, hsl⟩ := hrel
      have HOS := Lib.hid hos
      have HR := Lib.hid hrun
      have HF := Lib.hid hfit
      have HLF := Lib.hid hlf
      clear hos hrun hfit hlf
      by_cases hlt : k < n
      · obtain ⟨x, hx⟩ : ∃ a, l[k]? = some a := ⟨_, List.getElem?_eq_getElem (by rw [HN.out]; exact hlt)⟩
        obtain ⟨a0, a1, a2, a3, a4, a5⟩ := (HX.out k x hx).nd.below hgv hbw
        have HD : Hid (l.drop k = x :: l.drop (k + 1)) := Lib.hid (drop_at hx)
        have HSN : Hid (x.name.length ≤ maxLen ∧ x.s.length ≤ maxLen) := Lib.hid (HSH.out x (List.mem_of_getElem? hx))
        have HFN : Hid (x.many ≤ 9223372036854775807) := Lib.hid (HFT.out x (List.mem_of_getElem? hx))
        clear hx
        rcases List.eq_nil_or_concat st with rfl | ⟨pre, h, rfl⟩
        · have HE : Hid (ans = false) := Lib.hid (by rw [← HR.out, HD.out]; rfl)
          simp only [List.length_nil]
          go_wp2
          go_quiet (fail)
          go_wp2
          go_ret
          exact ⟨ret_bool HE.out.symm, drewN_below (hbw.alloc hbw.size _) _⟩
        · rw [List.concat_eq_append] at *
          have hrv : (pre ++ [h]).reverse = h :: pre.reverse := by simp
          rw [hrv] at HR HF
          have HRC : Hid (ans = (lets h.kind h.begun h.ahead x.name && plainN x && run (passH (h :: pre.reverse) x) (l.drop (k + 1)))) := Lib.hid (by rw [← HR.out, HD.out, run_cons])
          have hh1 : 1 ≤ h.left := HF.out.1
          have hh2 : h.left ≤ 9223372036854775807 := HLF.out h (by simp)
          obtain ⟨g', cap', hA, hg', hglt'⟩ := HOS.out.opened (by simp)
          injection hA with hA _ hcc
          subst hA hcc
          have hW0 : ∃ W0, W0 = wr.alloc (.cells #[.int .i64 x.kind, .int .i64 x.many, .string ⟨x.name.toArray⟩, .string ⟨x.s.toArray⟩, .bool x.neg, .int .i64 x.e] 44) := ⟨_, rfl⟩
          obtain ⟨W0, hW0⟩ := hW0
          have hpl : (pre ++ [h]).length = pre.length + 1 := by simp
          have hp0 : ∃ p, p = pre.length := ⟨_, rfl⟩
          obtain ⟨p, hp⟩ := hp0
          have hbW : Below w.heap.size w W0 := by rw [hW0]; exact hbw.alloc hbw.size _
          have HOW : Hid (OwnH w.heap.size W0 (.slice (some ⟨g', 0, none⟩) (pre ++ [h]).length cc) (pre ++ [h])) := Lib.hid (by rw [hW0]; exact HOS.out.alloc _)
          have hat : (pre ++ [h])[pre.length]? = some h := by simp
          have hStart : Rg g' p wr.heap.size h x W0 W0 := by
            subst hp
            refine ⟨Own.cell hdc_len (j := 0) HOW.out hat rfl, Own.cell hdc_len (j := 1) HOW.out hat rfl, Own.cell hdc_len (j := 2) HOW.out hat rfl, Own.cell hdc_len (j := 3) HOW.out hat rfl, ?_, ?_, ?_, ?_, ?_, ?_, ?_, ?_, hT.below hbW, Below.refl _ _⟩
            all_goals (rw [hW0]; simp)
            omega
          clear hat
          rw [hpl, ← hp] at HOW hsl ⊢
          have HP := Lib.hid hp
          clear hp hpl hrv HOS
          have e0 : ((p : Int) + 1 == 0) = false := by simp; omega
          have hsz0 : W0.heap.size = wr.heap.size + 1 := by rw [hW0]; simp
          go_upto_region 5 with fail
          rw [← hW0]
          have HW0 := Lib.hid hW0
          have HSZ := Lib.hid hsz0
          clear hW0 hsz0 a0 a1 a2 a3 a4 a5
          have w1 : IntKind.i64.wrap ((p : Int) + 1 - 1) = (p : Int) := by rw [Int.add_sub_cancel]; exact IntWalk.i64_in _ (by omega)
          have w2 : IntKind.i64.wrap (p : Int) = (p : Int) := IntWalk.i64_in _ (by omega)
          have w3 : (0 : Int) ≤ (p : Int) := by omega
          have w4 : (p : Int) < (p : Int) + 1 := by omega
          have w5 : (p : Int).toNat = p := by omega
          have HS2 : Hid (Rg g' p wr.heap.size h x W0 W0.drew) := Lib.hid (hStart.step (Below.refl _ _).drew)
          cases hle : lets h.kind h.begun h.ahead x.name
          · have HLE := Lib.hid hle
            have HE : Hid (ans = false) := Lib.hid (by rw [HRC.out, hle]; rfl)
            clear hle
            go_cut [32] (fun s32 wx => s32 = .bool true ∧ Below W0.heap.size W0 wx)
            case first =>
              obtain ⟨a0, a1, a2, a3, b0, b1, b2, b3, b4, b5, -, -, -, -⟩ := hStart
              go_still_tail 12, (by kernel_rfl)
              change wpList _ _ _ _ _ W0.drew
              generalize W0.drew = w2 at HS2 ⊢
              clear a0 a1 a2 a3 b0 b1 b2 b3 b4 b5
              go_wp2_with fail
              refine (lets_any h x.name _ HSN.out.1 HS2.out.tabs).mono ?_
              rintro e3 w3 ⟨rfl, hb3⟩
              rw [HLE.out]
              go_wp2_with fail
              go_meet
              exact ⟨by simp, Below.after HS2.out.low hb3⟩
            case rest =>
              obtain ⟨rfl, hBx⟩ := hcut
              go_wp2_with fail
              go_ret
              exact ⟨ret_bool HE.out.symm, Below.after hbW hBx⟩
          · have HLE := Lib.hid hle
            cases hpn : plainN x
            · have HPL := Lib.hid hpn
              have HE : Hid (ans = false) := Lib.hid (by rw [HRC.out, hle, hpn]; rfl)
              clear hle hpn
              go_cut [32] (fun s32 wx => s32 = .bool true ∧ Below W0.heap.size W0 wx)
              case first =>
                obtain ⟨a0, a1, a2, a3, b0, b1, b2, b3, b4, b5, -, -, -, -⟩ := hStart
                go_still_tail 12, (by kernel_rfl)
                change wpList _ _ _ _ _ W0.drew
                generalize W0.drew = w2 at HS2 ⊢
                clear a0 a1 a2 a3 b0 b1 b2 b3 b4 b5
                go_wp2_with fail
                refine (lets_any h x.name _ HSN.out.1 HS2.out.tabs).mono ?_
                rintro e3 w3 ⟨rfl, hb3⟩
                rw [HLE.out]
                have HS3 := Lib.hid (HS2.out.step hb3)
                obtain ⟨-, -, -, -, b0, b1, b2, b3, b4, b5, -, -, -, -⟩ := HS3.out
                clear hb3
                go_wp2_with fail
                refine (rightNode_any x _ HSN.out.2 HS3.out.tabs).mono ?_
                rintro e4 w4 ⟨rfl, hb4⟩
                rw [HPL.out]
                clear b0 b1 b2 b3 b4 b5
                go_wp2_with fail
                go_meet
                exact ⟨by simp, Below.after HS3.out.low hb4⟩
              case rest =>
                obtain ⟨rfl, hBx⟩ := hcut
                go_wp2_with fail
                go_ret
                exact ⟨ret_bool HE.out.symm, Below.after hbW hBx⟩
            · have HPL := Lib.hid hpn
              have HE : Hid (ans = run (passH (h :: pre.reverse) x) (l.drop (k + 1))) := Lib.hid (by rw [HRC.out, hle, hpn]; rfl)
              clear hle hpn
              go_cut [32] (fun s32 wx => s32 = .bool false ∧ Below W0.heap.size W0 wx)
              case first =>
                obtain ⟨a0, a1, a2, a3, b0, b1, b2, b3, b4, b5, -, -, -, -⟩ := hStart
                go_still_tail 12, (by kernel_rfl)
                change wpList _ _ _ _ _ W0.drew
                generalize W0.drew = w2 at HS2 ⊢
                clear a0 a1 a2 a3 b0 b1 b2 b3 b4 b5
                go_wp2_with fail
                refine (lets_any h x.name _ HSN.out.1 HS2.out.tabs).mono ?_
                rintro e3 w3 ⟨rfl, hb3⟩
                rw [HLE.out]
                have HS3 := Lib.hid (HS2.out.step hb3)
                obtain ⟨-, -, -, -, b0, b1, b2, b3, b4, b5, -, -, -, -⟩ := HS3.out
                clear hb3
                go_wp2_with fail
                refine (rightNode_any x _ HSN.out.2 HS3.out.tabs).mono ?_
                rintro e4 w4 ⟨rfl, hb4⟩
                rw [HPL.out]
                clear b0 b1 b2 b3 b4 b5
                go_wp2_with fail
                go_meet
                exact ⟨by simp, Below.after HS3.out.low hb4⟩
              case rest =>
                obtain ⟨rfl, hBx⟩ := hcut
                have HSX := Lib.hid (hStart.step hBx)
                obtain ⟨-, -, -, -, b0, b1, b2, b3, b4, b5, -, -, -, -⟩ := HSX.out
                have HOX := Lib.hid (HOW.out.below hBx)
                have HBX := Lib.hid (Below.after hbW hBx)
                clear hBx hStart HS2
                go_wp2_with fail
                refine (pass_any _ pre h x _ w.heap.size HOX.out HBX.out.size (by rw [← HP.out]; omega) hh1 hh2).mono ?_
                rintro e5 w5 ⟨v5, rfl, ho5, hb5⟩
                obtain ⟨A5, c5, rfl, -, -, -⟩ := ho5.form
                have HO5 := Lib.hid ho5
                have HB5 := Lib.hid (HBX.out.trans hb5)
                have HFT5 : Hid (Fit (passH (h :: pre.reverse) x)) := Lib.hid (passH_fit HF.out)
                have HLF5 : Hid (∀ y ∈ (passH (h :: pre.reverse) x).reverse, y.left ≤ 9223372036854775807) := Lib.hid (fun y hy => passH_left (st := pre.reverse) (fun z hz => HLF.out z (by simpa [or_comm] using hz)) HFN.out y (List.mem_reverse.1 hy))
                have hln5 := passH_len (h :: pre.reverse) x
                have hpp := HP.out
                simp only [List.length_cons, List.length_reverse] at hln5
                clear ho5 hb5 b0 b1 b2 b3 b4 b5
                go_wp2_with fail
                go_roundw
                case rel => exact ⟨k + 1, (passH (h :: pre.reverse) x).reverse, A5, c5, by omega, by go_num, by rw [List.length_reverse], HO5.out, HB5.out, by rw [List.reverse_reverse, HE.out], by rw [List.reverse_reverse]; exact HFT5.out, HLF5.out, by rw [List.length_reverse]; omega⟩
                case measure => simp [intOf]; omega
      · have HE : Hid (ans = st.isEmpty) := Lib.hid (by rw [← HR.out, List.drop_of_length_le (by rw [HN.out]; omega), run_nil]; simp)
        go_wp2
        go_ret
        refine ⟨ret_bool ?_, hbw⟩
        rw [HE.out]
        cases st with
        | nil => rfl
        | cons a t => simp; omega
end Go.Proofs.YtoomgpbfcpnefaaDoor
