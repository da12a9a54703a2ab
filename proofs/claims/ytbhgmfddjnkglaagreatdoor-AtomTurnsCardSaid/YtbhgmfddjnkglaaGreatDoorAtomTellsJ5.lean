/-
  Joined: ValW3, AtW2, AtOp.
-/
import Derived.Test.YtbhgmfddjnkglaaGreatDoorAtomTellsJ1
import Derived.StillTailTactics
import Derived.Test.YtbhgmfddjnkglaaGreatDoorAtomTellsJ2
import Derived.Test.YtbhgmfddjnkglaaGreatDoorRefW6
import Derived.Test.YtbhgmfddjnkglaaGreatDoorAtomTellsJ8
import Derived.Test.YtbhgmfddjnkglaaGreatDoorAtomTellsJ19
import Derived.SizedLaws

/-
  What val.Right answers.
-/
namespace Go.Proofs.YtbhgmfddjnkglaaGreatDoor
open Go.RowKit Np Rw Vp

/-- Numbers that memory can hold. -/
def Fits (l : List Nd) : Prop := ∀ n ∈ l, n.many ≤ 9223372036854775807

/-- What the walk along a row rests on, at a node. -/
def Rg (g p B : Nat) (h : Hd) (x : Nd) (W0 w' : World) : Prop :=
  w'.cell? ⟨g, p * 4, none⟩ = some (.int .i64 h.kind) ∧ w'.cell? ⟨g, p * 4 + 1, none⟩ = some (.int .i64 h.left) ∧ w'.cell? ⟨g, p * 4 + 2, none⟩ = some (.bool h.begun) ∧ w'.cell? ⟨g, p * 4 + 3, none⟩ = some (.string ⟨h.ahead.toArray⟩) ∧
  w'.cell? ⟨B, 0, none⟩ = some (.int .i64 x.kind) ∧ w'.cell? ⟨B, 1, none⟩ = some (.int .i64 x.many) ∧ w'.cell? ⟨B, 2, none⟩ = some (.string ⟨x.name.toArray⟩) ∧ w'.cell? ⟨B, 3, none⟩ = some (.string ⟨x.s.toArray⟩) ∧ w'.cell? ⟨B, 4, none⟩ = some (.bool x.neg) ∧ w'.cell? ⟨B, 5, none⟩ = some (.int .i64 x.e) ∧
  g < w'.heap.size ∧ B < w'.heap.size ∧ Tabs w' ∧ Below W0.heap.size W0 w'
theorem Rg.step {g p B : Nat} {h : Hd} {x : Nd} {W0 W W' : World} (hr : Rg g p B h x W0 W) (hb : Below W.heap.size W W') : Rg g p B h x W0 W' := by
  obtain ⟨a0, a1, a2, a3, b0, b1, b2, b3, b4, b5, hg, hB, hT, hl⟩ := hr
  exact ⟨(hb.cell hg).trans a0, (hb.cell hg).trans a1, (hb.cell hg).trans a2, (hb.cell hg).trans a3, (hb.cell hB).trans b0, (hb.cell hB).trans b1, (hb.cell hB).trans b2, (hb.cell hB).trans b3, (hb.cell hB).trans b4, (hb.cell hB).trans b5,
    Nat.lt_of_lt_of_le hg hb.size, Nat.lt_of_lt_of_le hB hb.size, hT.below hb, Below.after hl hb⟩
theorem Rg.tabs {g p B : Nat} {h : Hd} {x : Nd} {W0 W : World} (hr : Rg g p B h x W0 W) : Tabs W := hr.2.2.2.2.2.2.2.2.2.2.2.2.1
theorem Rg.low {g p B : Nat} {h : Hd} {x : Nd} {W0 W : World} (hr : Rg g p B h x W0 W) : Below W0.heap.size W0 W := hr.2.2.2.2.2.2.2.2.2.2.2.2.2

theorem pop_mem : ∀ {st : List Hd} {y : Hd}, y ∈ pop st → y ∈ st
  | h :: st, y, hy => by
    unfold pop at hy
    split at hy
    · exact List.mem_cons_of_mem _ (pop_mem hy)
    · exact hy
theorem passH_left {h : Hd} {st : List Hd} {n : Nd} {B : Int} (hst : ∀ x ∈ h :: st, x.left ≤ B) (hn : n.many ≤ B) : ∀ y ∈ passH (h :: st) n, y.left ≤ B := by
  have hs : ∀ y ∈ stepH h n :: st, y.left ≤ B := by
    intro y hy
    rcases List.mem_cons.1 hy with rfl | hy
    · have := hst h (by simp); simp [stepH]; omega
    · exact hst y (by simp [hy])
  intro y hy
  rw [passH_cons] at hy
  split at hy
  · rcases List.mem_cons.1 hy with rfl | hy
    · exact hn
    · exact hs y hy
  · exact hs y (pop_mem hy)

set_option maxRecDepth 100000 in
set_option maxHeartbeats 4000000 in
theorem rightV_any (v : Value) (l : List Nd) (w : World) (hv : Nds w v l) (hl : l.length ≤ 65536) (hsh : Short l) (hft : Fits l) (hT : Tabs w) :
    Calls Tryz.prog 31 #[v] w fun e w' => e = .returned (.bool (rightL l)) ∧ Below w.heap.size w w' := by
  generalize hans : rightL l = ans
  have HANS := Lib.hid hans; clear hans
  have HSH := Lib.hid hsh
  have HFT := Lib.hid hft
  clear hsh hft
  rcases Nat.eq_zero_or_pos l.length with h0 | h0
  · have e1 := List.eq_nil_of_length_eq_zero h0
    subst e1
    obtain ⟨A, c, rfl, -⟩ := hv
    have HE : Hid (ans = false) := Lib.hid (by rw [← HANS.out]; rfl)
    clear h0 hl
    simp only [List.length_nil]
    go_enter Tryz.func31, Tryz.ntmps31
    go_wp2_with fail
    refine (begin_any _).mono ?_
    rintro e w1 ⟨v1, rfl, ho1, hb1⟩
    obtain ⟨g, cap, rfl, hg, hglt⟩ := ho1.opened (by decide)
    have HO := Lib.hid ho1; clear ho1
    simp only [Vp.start, List.length_singleton]
    go_wp2_with fail
    go_loopw [3, 9] (fun a b wr => a = .slice (some ⟨g, 0, none⟩) 1 cap ∧ b = .int .i64 0 ∧ wr = w1) (fun _ _ _ => 0)
    case atStart => exact ⟨rfl, rfl, rfl⟩
    case round =>
      obtain ⟨rfl, rfl, rfl⟩ := hrel
      go_wp2
      go_ret
      exact ⟨ret_bool HE.out.symm, hb1⟩
  · obtain ⟨gv, o, c, rfl, hc, hcm, hgv, hx⟩ := hv.opened h0
    have HX := Lib.hid hx; clear hx
    generalize hn : l.length = n at *
    have HN := Lib.hid hn; clear hn
    go_enter Tryz.func31, Tryz.ntmps31
    go_wp2_with fail
    refine (begin_any _).mono ?_
    rintro e w1 ⟨v1, rfl, ho1, hb1⟩
    obtain ⟨g, cap, rfl, hg, hglt⟩ := ho1.opened (by decide)
    have HO := Lib.hid ho1; clear ho1
    simp only [Vp.start, List.length_singleton] at HO ⊢
    go_wp2_with fail
    go_loopw [3, 9] (fun a b wr => ∃ (k : Nat) (st : List Hd) (A : Option Addr) (cc : Nat), k ≤ n ∧ b = .int .i64 k ∧ a = .slice A st.length cc ∧ OwnH w.heap.size wr (.slice A st.length cc) st ∧ Below w.heap.size w wr ∧ run st.reverse (l.drop k) = ans ∧ Fit st.reverse ∧ (∀ x ∈ st, x.left ≤ 9223372036854775807) ∧ st.length ≤ k + 1) (fun _ b _ => n - (intOf b).toNat)
    case atStart => exact ⟨0, Vp.start, some ⟨g, 0, none⟩, cap, Nat.zero_le _, rfl, rfl, HO.out, hb1, HANS.out, ⟨by decide, by simp⟩, by simp [Vp.start], by simp [Vp.start]⟩
    case round =>
      obtain ⟨k, st, A, cc, hk, rfl, rfl, hos, hbw, hrun, hfit, hlf, hsl⟩ := hrel
      have HOS := Lib.hid hos
      have HR := Lib.hid hrun
      have HF := Lib.hid hfit
      have HLF := Lib.hid hlf
      clear hos hrun hfit hlf
      by_cases hlt : k < n
      · obtain ⟨x, hx⟩ : ∃ a, l[k]? = some a := ⟨_, List.getElem?_eq_getElem (by rw [HN.out]; exact hlt)⟩
        obtain ⟨a0, a1, a2, a3, a4, a5⟩ := (HX.out k x hx).nd.below hgv hbw
        have HD : Hid (l.drop k = x :: l.drop (k + 1)) := Lib.hid (drop_at hx)
        have HSN : Hid (x.name.length ≤ maxLen ∧ x.s.length ≤ maxLen) := Lib.hid (HSH.out x (List.mem_of_getElem? hx))
        have HFN : Hid (x.many ≤ 9223372036854775807) := Lib.hid (HFT.out x (List.mem_of_getElem? hx))
        clear hx
        rcases List.eq_nil_or_concat st with rfl | ⟨pre, h, rfl⟩
        · have HE : Hid (ans = false) := Lib.hid (by rw [← HR.out, HD.out]; rfl)
          simp only [List.length_nil]
          go_wp2
          go_quiet (fail)
          go_wp2
          go_ret
          exact ⟨ret_bool HE.out.symm, drewN_below (hbw.alloc hbw.size _) _⟩
        · rw [List.concat_eq_append] at *
          have hrv : (pre ++ [h]).reverse = h :: pre.reverse := by simp
          rw [hrv] at HR HF
          have HRC : Hid (ans = (lets h.kind h.begun h.ahead x.name && plainN x && run (passH (h :: pre.reverse) x) (l.drop (k + 1)))) := Lib.hid (by rw [← HR.out, HD.out, run_cons])
          have hh1 : 1 ≤ h.left := HF.out.1
          have hh2 : h.left ≤ 9223372036854775807 := HLF.out h (by simp)
          obtain ⟨g', cap', hA, hg', hglt'⟩ := HOS.out.opened (by simp)
          injection hA with hA _ hcc
          subst hA hcc
          have hW0 : ∃ W0, W0 = wr.alloc (.cells #[.int .i64 x.kind, .int .i64 x.many, .string ⟨x.name.toArray⟩, .string ⟨x.s.toArray⟩, .bool x.neg, .int .i64 x.e] 24) := ⟨_, rfl⟩
          obtain ⟨W0, hW0⟩ := hW0
          have hpl : (pre ++ [h]).length = pre.length + 1 := by simp
          have hp0 : ∃ p, p = pre.length := ⟨_, rfl⟩
          obtain ⟨p, hp⟩ := hp0
          have hbW : Below w.heap.size w W0 := by rw [hW0]; exact hbw.alloc hbw.size _
          have HOW : Hid (OwnH w.heap.size W0 (.slice (some ⟨g', 0, none⟩) (pre ++ [h]).length cc) (pre ++ [h])) := Lib.hid (by rw [hW0]; exact HOS.out.alloc _)
          have hat : (pre ++ [h])[pre.length]? = some h := by simp
          have hStart : Rg g' p wr.heap.size h x W0 W0 := by
            subst hp
            refine ⟨Own.cell hdc_len (j := 0) HOW.out hat rfl, Own.cell hdc_len (j := 1) HOW.out hat rfl, Own.cell hdc_len (j := 2) HOW.out hat rfl, Own.cell hdc_len (j := 3) HOW.out hat rfl, ?_, ?_, ?_, ?_, ?_, ?_, ?_, ?_, hT.below hbW, Below.refl _ _⟩
            all_goals (rw [hW0]; simp)
            omega
          clear hat
          rw [hpl, ← hp] at HOW hsl ⊢
          have HP := Lib.hid hp
          clear hp hpl hrv HOS
          have e0 : ((p : Int) + 1 == 0) = false := by simp; omega
          have hsz0 : W0.heap.size = wr.heap.size + 1 := by rw [hW0]; simp
          go_upto_region 5 with fail
          rw [← hW0]
          have HW0 := Lib.hid hW0
          have HSZ := Lib.hid hsz0
          clear hW0 hsz0 a0 a1 a2 a3 a4 a5
          have w1 : IntKind.i64.wrap ((p : Int) + 1 - 1) = (p : Int) := by rw [Int.add_sub_cancel]; exact IntWalk.i64_in _ (by omega)
          have w2 : IntKind.i64.wrap (p : Int) = (p : Int) := IntWalk.i64_in _ (by omega)
          have w3 : (0 : Int) ≤ (p : Int) := by omega
          have w4 : (p : Int) < (p : Int) + 1 := by omega
          have w5 : (p : Int).toNat = p := by omega
          have HS2 : Hid (Rg g' p wr.heap.size h x W0 W0.drew) := Lib.hid (hStart.step (Below.refl _ _).drew)
          cases hle : lets h.kind h.begun h.ahead x.name
          · have HLE := Lib.hid hle
            have HE : Hid (ans = false) := Lib.hid (by rw [HRC.out, hle]; rfl)
            clear hle
            go_cut [32] (fun s32 wx => s32 = .bool true ∧ Below W0.heap.size W0 wx)
            case first =>
              obtain ⟨a0, a1, a2, a3, b0, b1, b2, b3, b4, b5, -, -, -, -⟩ := hStart
              go_still_tail 12, (by kernel_rfl)
              change wpList _ _ _ _ _ W0.drew
              generalize W0.drew = w2 at HS2 ⊢
              clear a0 a1 a2 a3 b0 b1 b2 b3 b4 b5
              go_wp2_with fail
              refine (lets_any h x.name _ HSN.out.1 HS2.out.tabs).mono ?_
              rintro e3 w3 ⟨rfl, hb3⟩
              rw [HLE.out]
              go_wp2_with fail
              go_meet
              exact ⟨by simp, Below.after HS2.out.low hb3⟩
            case rest =>
              obtain ⟨rfl, hBx⟩ := hcut
              go_wp2_with fail
              go_ret
              exact ⟨ret_bool HE.out.symm, Below.after hbW hBx⟩
          · have HLE := Lib.hid hle
            cases hpn : plainN x
            · have HPL := Lib.hid hpn
              have HE : Hid (ans = false) := Lib.hid (by rw [HRC.out, hle, hpn]; rfl)
              clear hle hpn
              go_cut [32] (fun s32 wx => s32 = .bool true ∧ Below W0.heap.size W0 wx)
              case first =>
                obtain ⟨a0, a1, a2, a3, b0, b1, b2, b3, b4, b5, -, -, -, -⟩ := hStart
                go_still_tail 12, (by kernel_rfl)
                change wpList _ _ _ _ _ W0.drew
                generalize W0.drew = w2 at HS2 ⊢
                clear a0 a1 a2 a3 b0 b1 b2 b3 b4 b5
                go_wp2_with fail
                refine (lets_any h x.name _ HSN.out.1 HS2.out.tabs).mono ?_
                rintro e3 w3 ⟨rfl, hb3⟩
                rw [HLE.out]
                have HS3 := Lib.hid (HS2.out.step hb3)
                obtain ⟨-, -, -, -, b0, b1, b2, b3, b4, b5, -, -, -, -⟩ := HS3.out
                clear hb3
                go_wp2_with fail
                refine (rightNode_any x _ HSN.out.2 HS3.out.tabs).mono ?_
                rintro e4 w4 ⟨rfl, hb4⟩
                rw [HPL.out]
                clear b0 b1 b2 b3 b4 b5
                go_wp2_with fail
                go_meet
                exact ⟨by simp, Below.after HS3.out.low hb4⟩
              case rest =>
                obtain ⟨rfl, hBx⟩ := hcut
                go_wp2_with fail
                go_ret
                exact ⟨ret_bool HE.out.symm, Below.after hbW hBx⟩
            · have HPL := Lib.hid hpn
              have HE : Hid (ans = run (passH (h :: pre.reverse) x) (l.drop (k + 1))) := Lib.hid (by rw [HRC.out, hle, hpn]; rfl)
              clear hle hpn
              go_cut [32] (fun s32 wx => s32 = .bool false ∧ Below W0.heap.size W0 wx)
              case first =>
                obtain ⟨a0, a1, a2, a3, b0, b1, b2, b3, b4, b5, -, -, -, -⟩ := hStart
                go_still_tail 12, (by kernel_rfl)
                change wpList _ _ _ _ _ W0.drew
                generalize W0.drew = w2 at HS2 ⊢
                clear a0 a1 a2 a3 b0 b1 b2 b3 b4 b5
                go_wp2_with fail
                refine (lets_any h x.name _ HSN.out.1 HS2.out.tabs).mono ?_
                rintro e3 w3 ⟨rfl, hb3⟩
                rw [HLE.out]
                have HS3 := Lib.hid (HS2.out.step hb3)
                obtain ⟨-, -, -, -, b0, b1, b2, b3, b4, b5, -, -, -, -⟩ := HS3.out
                clear hb3
                go_wp2_with fail
                refine (rightNode_any x _ HSN.out.2 HS3.out.tabs).mono ?_
                rintro e4 w4 ⟨rfl, hb4⟩
                rw [HPL.out]
                clear b0 b1 b2 b3 b4 b5
                go_wp2_with fail
                go_meet
                exact ⟨by simp, Below.after HS3.out.low hb4⟩
              case rest =>
                obtain ⟨rfl, hBx⟩ := hcut
                have HSX := Lib.hid (hStart.step hBx)
                obtain ⟨-, -, -, -, b0, b1, b2, b3, b4, b5, -, -, -, -⟩ := HSX.out
                have HOX := Lib.hid (HOW.out.below hBx)
                have HBX := Lib.hid (Below.after hbW hBx)
                clear hBx hStart HS2
                go_wp2_with fail
                refine (pass_any _ pre h x _ w.heap.size HOX.out HBX.out.size (by rw [← HP.out]; omega) hh1 hh2).mono ?_
                rintro e5 w5 ⟨v5, rfl, ho5, hb5⟩
                obtain ⟨A5, c5, rfl, -, -, -⟩ := ho5.form
                have HO5 := Lib.hid ho5
                have HB5 := Lib.hid (HBX.out.trans hb5)
                have HFT5 : Hid (Fit (passH (h :: pre.reverse) x)) := Lib.hid (passH_fit HF.out)
                have HLF5 : Hid (∀ y ∈ (passH (h :: pre.reverse) x).reverse, y.left ≤ 9223372036854775807) := Lib.hid (fun y hy => passH_left (st := pre.reverse) (fun z hz => HLF.out z (by simpa [or_comm] using hz)) HFN.out y (List.mem_reverse.1 hy))
                have hln5 := passH_len (h :: pre.reverse) x
                have hpp := HP.out
                simp only [List.length_cons, List.length_reverse] at hln5
                clear ho5 hb5 b0 b1 b2 b3 b4 b5
                go_wp2_with fail
                go_roundw
                case rel => exact ⟨k + 1, (passH (h :: pre.reverse) x).reverse, A5, c5, by omega, by go_num, by rw [List.length_reverse], HO5.out, HB5.out, by rw [List.reverse_reverse, HE.out], by rw [List.reverse_reverse]; exact HFT5.out, HLF5.out, by rw [List.length_reverse]; omega⟩
                case measure => simp [intOf]; omega
      · have HE : Hid (ans = st.isEmpty) := Lib.hid (by rw [← HR.out, List.drop_of_length_le (by rw [HN.out]; omega), run_nil]; simp)
        go_wp2
        go_ret
        refine ⟨ret_bool ?_, hbw⟩
        rw [HE.out]
        cases st with
        | nil => rfl
        | cons a t => simp; omega
end Go.Proofs.YtbhgmfddjnkglaaGreatDoor

/-
  Which nodes are of values without parts, without name, and right: the program's and the document's; which atoms are right.
-/
namespace Go.Proofs.YtbhgmfddjnkglaaGreatDoor
open Go.RowKit Np Rw Vp Ap

/-- A node's sizes, as it comes. -/
structure NdH (n : Nd) : Prop where
  nm : n.name.length ≤ maxLen
  s : n.s.length ≤ maxLen
  m : n.many ≤ 9223372036854775807
theorem NdH.short {n : Nd} (h : NdH n) : Short [n] := fun x hx => by simp at hx; subst hx; exact ⟨h.nm, h.s⟩
theorem NdH.fits {n : Nd} (h : NdH n) : Fits [n] := fun x hx => by simp at hx; subst hx; exact h.m
abbrev nds (n : Nd) : Array Value := #[.int .i64 n.kind, .int .i64 n.many, .string ⟨n.name.toArray⟩, .string ⟨n.s.toArray⟩, .bool n.neg, .int .i64 n.e]
theorem hN7 (w : World) (a : Atm) : At7 (w.alloc (.cells (atc a).toArray 27)) w.heap.size 0 a := by
  constructor <;> simp [atc]
theorem one_row (n : Nd) (W : World) : Nds (W.alloc (.cells (nds n) 24)) (.slice (some ⟨W.heap.size, 0, none⟩) 1 1) [n] := row_one ndc_len W _ rfl _ _ n rfl

set_option maxRecDepth 100000 in
set_option maxHeartbeats 1000000 in
theorem isPlain_any (n : Nd) (w : World) (hn : NdH n) (hT : Tabs w) : Calls Tryz.prog 18 #[nda n] w fun e w' => e = .returned (.bool (pln n)) ∧ Below w.heap.size w w' := by
  have HR : Hid (∀ W B, W.heap.size = B → Below w.heap.size w W → Calls Tryz.prog 31 #[.slice (some ⟨B, 0, none⟩) 1 1] (W.alloc (.cells (nds n) 24)) fun e w' => e = .returned (.bool (rightL [n])) ∧ Below W.heap.size W w') := Lib.hid fun W B hB hW => by
    subst hB
    have ha : Below W.heap.size W (W.alloc (.cells (nds n) 24)) := (Below.refl _ _).alloc (Nat.le_refl _) _
    refine (rightV_any _ [n] _ (one_row n W) (by simp) hn.short hn.fits (hT.below (hW.trans (ha.mono hW.size)))).mono ?_
    rintro e w' ⟨rfl, hb⟩
    exact ⟨rfl, ha.trans (hb.mono (by simp))⟩
  have HP : Hid (pln n = (decide (n.kind < 5) && rightL [n])) := Lib.hid rfl
  clear hn hT
  generalize rightL [n] = R at *
  generalize pln n = Q at *
  obtain ⟨k, m, nm, s, g, x⟩ := n
  simp only at HR HP ⊢
  have hB0 : Below w.heap.size w (w.alloc (.cells (nds ⟨k, m, nm, s, g, x⟩) 24)) := (Below.refl _ _).alloc (Nat.le_refl _) _
  by_cases hk : k ≤ 4
  · have HQ : Hid (Q = R) := Lib.hid (by rw [HP.out, decide_eq_true (by omega : k < 5)]; rfl)
    clear HP
    go_enter Tryz.func18, Tryz.ntmps18
    go_wp2_with fail
    refine (HR.out _ _ (by simp) hB0).mono ?_
    rintro e w1 ⟨rfl, hb1⟩
    have HB1 := Lib.hid (hB0.trans (hb1.mono hB0.size))
    clear hb1 HR hB0
    go_wp2_with fail
    go_ret
    exact ⟨ret_bool HQ.out.symm, HB1.out⟩
  · have HQ : Hid (Q = false) := Lib.hid (by rw [HP.out, decide_eq_false (by omega)]; rfl)
    go_enter Tryz.func18, Tryz.ntmps18
    go_wp2_with fail
    go_ret
    exact ⟨ret_bool HQ.out.symm, hB0⟩
set_option maxRecDepth 100000 in
set_option maxHeartbeats 1000000 in
theorem refPlainA_any (n : Nd) (w : World) (hn : NdH n) : Calls Tryz.prog 19 #[nda n] w fun e w' => e = .returned (.bool (pln n)) ∧ Below w.heap.size w w' := by
  have HR : Hid (∀ W B, W.heap.size = B → Calls Tryz.prog 32 #[.slice (some ⟨B, 0, none⟩) 1 1] (W.alloc (.cells (nds n) 24)) fun e w' => e = .returned (.bool (rightL [n])) ∧ Below W.heap.size W w') := Lib.hid fun W B hB => by
    subst hB
    have ha : Below W.heap.size W (W.alloc (.cells (nds n) 24)) := (Below.refl _ _).alloc (Nat.le_refl _) _
    refine (refRightV_any _ [n] _ (one_row n W) (by simp) hn.short).mono ?_
    rintro e w' ⟨rfl, hb⟩
    exact ⟨rfl, ha.trans (hb.mono (by simp))⟩
  have HP : Hid (pln n = (decide (n.kind < 5) && rightL [n])) := Lib.hid rfl
  clear hn
  generalize rightL [n] = R at *
  generalize pln n = Q at *
  obtain ⟨k, m, nm, s, g, x⟩ := n
  simp only at HR HP ⊢
  have hB0 : Below w.heap.size w (w.alloc (.cells (nds ⟨k, m, nm, s, g, x⟩) 24)) := (Below.refl _ _).alloc (Nat.le_refl _) _
  by_cases hk : k < 5
  · have HQ : Hid (Q = R) := Lib.hid (by rw [HP.out, decide_eq_true hk]; rfl)
    clear HP
    go_enter Tryz.func19, Tryz.ntmps19
    go_wp2_with fail
    refine (HR.out _ _ (by simp)).mono ?_
    rintro e w1 ⟨rfl, hb1⟩
    have HB1 := Lib.hid (hB0.trans (hb1.mono hB0.size))
    clear hb1 HR hB0
    go_wp2_with fail
    go_ret
    exact ⟨ret_bool HQ.out.symm, HB1.out⟩
  · have HQ : Hid (Q = false) := Lib.hid (by rw [HP.out, decide_eq_false hk]; rfl)
    go_enter Tryz.func19, Tryz.ntmps19
    go_wp2_with fail
    go_ret
    exact ⟨ret_bool HQ.out.symm, hB0⟩
set_option maxRecDepth 100000 in
set_option maxHeartbeats 1000000 in

theorem rightA_any (a : Atm) (w : World) (hn : NdH a.c) (hT : Tabs w) : Calls Tryz.prog 6 #[ata a] w fun e w' => e = .returned (.bool (rightA a)) ∧ Below w.heap.size w w' := by
  have HW : Hid (∀ W, Calls Tryz.prog 17 #[.int .i64 a.n] W fun e w' => e = .returned (.bool (wayP a.n)) ∧ Below W.heap.size W w') := Lib.hid fun W => isWay_any a.n W
  have HP : Hid (∀ W, Below w.heap.size w W → Calls Tryz.prog 18 #[nda a.c] W fun e w' => e = .returned (.bool (pln a.c)) ∧ Below W.heap.size W w') := Lib.hid fun W hW => isPlain_any a.c W hn (hT.below hW)
  have HR : Hid (rightA a = (wayP a.n && pln a.c)) := Lib.hid rfl
  clear hn hT
  generalize rightA a = R at *
  generalize wayP a.n = x1 at *
  generalize pln a.c = x2 at *
  obtain ⟨n, k, m, nm, s, g, x⟩ := a
  simp only at HW HP
  have hB0 : Below w.heap.size w (w.alloc (.cells (atc ⟨n, k, m, nm, s, g, x⟩).toArray 27)) := (Below.refl _ _).alloc (Nat.le_refl _) _
  go_enter Tryz.func6, Tryz.ntmps6
  go_wp2_with fail
  have hA := hN7 w ⟨n, k, m, nm, s, g, x⟩
  simp only [atc] at hA hB0
  generalize w.alloc _ = W0 at hA hB0 ⊢
  refine (HW.out W0).mono ?_
  rintro e w1 ⟨rfl, hb1⟩
  have hA1 := hA.below (World.block_lt_of_cell? _ _ hA.c0) hb1
  have HB1 := Lib.hid (hB0.trans (hb1.mono hB0.size))
  clear hA hb1 hB0 HW
  obtain ⟨y0, y1, y2, y3, y4, y5, y6⟩ := hA1
  simp only [Nat.zero_add] at y1 y2 y3 y4 y5 y6
  cases x1 with
  | false =>
    have HQ : Hid (R = false) := Lib.hid (by rw [HR.out]; rfl)
    go_wp2_with fail
    go_ret
    exact ⟨ret_bool HQ.out.symm, HB1.out⟩
  | true =>
    have HQ : Hid (R = x2) := Lib.hid (by rw [HR.out]; rfl)
    clear HR
    go_wp2_with fail
    refine (HP.out _ HB1.out).mono ?_
    rintro e w2 ⟨rfl, hb2⟩
    have HB2 := Lib.hid (HB1.out.trans (hb2.mono HB1.out.size))
    clear hb2 HP y0 y1 y2 y3 y4 y5 y6
    go_wp2_with fail
    go_ret
    exact ⟨ret_bool HQ.out.symm, HB2.out⟩
set_option maxRecDepth 100000 in
set_option maxHeartbeats 1000000 in
theorem refRightA_any (a : Atm) (w : World) (hn : NdH a.c) : Calls Tryz.prog 7 #[ata a] w fun e w' => e = .returned (.bool (rightA a)) ∧ Below w.heap.size w w' := by
  have HP : Hid (∀ W, Calls Tryz.prog 19 #[nda a.c] W fun e w' => e = .returned (.bool (pln a.c)) ∧ Below W.heap.size W w') := Lib.hid fun W => refPlainA_any a.c W hn
  have HR : Hid (rightA a = (wayP a.n && pln a.c)) := Lib.hid rfl
  clear hn
  generalize rightA a = R at *
  generalize pln a.c = x2 at *
  obtain ⟨n, k, m, nm, s, g, x⟩ := a
  simp only at HP HR
  have hB0 : Below w.heap.size w (w.alloc (.cells (atc ⟨n, k, m, nm, s, g, x⟩).toArray 27)) := (Below.refl _ _).alloc (Nat.le_refl _) _
  have HW : Hid (0 ≤ n → n ≤ 5 → R = x2) := Lib.hid fun h1 h2 => by rw [HR.out]; simp [wayP, h1, h2]
  have HN : Hid (n < 0 ∨ 5 < n → R = false) := Lib.hid fun h => by
    rw [HR.out]
    have : wayP n = false := by rcases h with h | h <;> simp [wayP] <;> omega
    rw [this]; rfl
  clear HR
  simp only [atc] at hB0
  go_enter Tryz.func7, Tryz.ntmps7
  go_wp2_with fail
  · rename_i h1 h2
    refine (HP.out _).mono ?_
    rintro e w2 ⟨rfl, hb2⟩
    have HB2 := Lib.hid (hB0.trans (hb2.mono hB0.size))
    have HQ := Lib.hid (HW.out (by assumption) (by assumption))
    clear hb2 HP hB0
    go_wp2_with fail
    go_ret
    exact ⟨ret_bool HQ.out.symm, HB2.out⟩
  · go_ret
    exact ⟨ret_bool (HN.out (.inr (by assumption))).symm, hB0⟩
  · go_ret
    exact ⟨ret_bool (HN.out (.inl (by assumption))).symm, hB0⟩
end Go.Proofs.YtbhgmfddjnkglaaGreatDoor

/-
  A card's arguments that are atoms, one node, or two numbers.
-/
namespace Go.Proofs.YtbhgmfddjnkglaaGreatDoor
open Go.ChangeShapes Go.WideShapes Go.ChangeAt Go.RowKit Go.Deep Np Rw Vp Ap

structure HeldA (a : Atm) : Prop where
  c : NdH a.c
  n0 : -9223372036854775808 ≤ a.n
  n1 : a.n ≤ 9223372036854775807
section
variable {H : Type} {enc : TypeId × Value → H} {w : World} {base : Nat} {sp : Nat → Bool} {held : Bool}
theorem int_rangeA {x : Int} (h : (Lit.int .i64 x).wf = true) : -9223372036854775808 ≤ x ∧ x ≤ 9223372036854775807 := by
  simp only [Lit.wf, IntKind.min, IntKind.max, IntKind.signed, IntKind.bits, Bool.and_eq_true, decide_eq_true_eq, if_true] at h
  omega
theorem cells_atom : Tryz.prog.cellsOf 27 = 7 := by kernel_rfl
set_option maxRecDepth 100000 in
theorem rd_nodeA : ∀ n cs (d : DataW H × List MemPlace), DataW.trod enc Tryz.prog w base sp held n 24 cs = some d → ∃ y : Nd, cs = ndc y ∧ NdH y := by
  intro fuel l d hf
  obtain ⟨xs, n, -, -, hl, hx, hg⟩ := DataW.trod_struct Tryz.underlying24 hf
  rw [show Tryz.prog.cellsOf 24 = 6 by kernel_rfl] at hl
  have c3 : Tryz.prog.cellsOf 3 = 1 := by kernel_rfl
  have c9 : Tryz.prog.cellsOf 9 = 1 := by kernel_rfl
  have c4 : Tryz.prog.cellsOf 4 = 1 := by kernel_rfl
  have at' : ∀ i, (h : i < xs.length) → xs[i]? = some (xs[i]'h) := fun i h => List.getElem?_eq_getElem h
  have hx6 : xs.length = 6 := hx
  match l, hl with
  | [v0, v1, v2, v3, v4, v5], _ =>
    have g0 := (hg 0 _ rfl).trans (at' 0 (by omega))
    have g1 := (hg 1 _ rfl).trans (at' 1 (by omega))
    have g2 := (hg 2 _ rfl).trans (at' 2 (by omega))
    have g3 := (hg 3 _ rfl).trans (at' 3 (by omega))
    have g4 := (hg 4 _ rfl).trans (at' 4 (by omega))
    have g5 := (hg 5 _ rfl).trans (at' 5 (by omega))
    simp only [List.getElem_toArray, List.getElem_cons_zero, List.getElem_cons_succ, c3, c9, c4] at g0 g1 g2 g3 g4 g5
    obtain ⟨k, e0, -, -⟩ := DataW.trod_int Tryz.underlying3 g0
    obtain ⟨m, e1, -, hm⟩ := DataW.trod_int Tryz.underlying3 g1
    obtain ⟨nm, e2, -, hnm⟩ := DataW.trod_string Tryz.underlying9 g2
    obtain ⟨s, e3, -, hs⟩ := DataW.trod_string Tryz.underlying9 g3
    obtain ⟨b, e4, -⟩ := DataW.trod_bool Tryz.underlying4 g4
    obtain ⟨x, e5, -, hxw⟩ := DataW.trod_int Tryz.underlying3 g5
    simp at e0 e1 e2 e3 e4 e5
    subst e0 e1 e2 e3 e4 e5
    exact ⟨⟨k, m, nm.data.toList, s.data.toList, b, x⟩, rfl, ⟨by simpa using hnm, by simpa using hs, (int_rangeA hm).2⟩⟩
set_option maxRecDepth 100000 in
theorem rd_atom : ∀ n cs (d : DataW H × List MemPlace), DataW.trod enc Tryz.prog w base sp held n 27 cs = some d → ∃ y : Atm, cs = atc y ∧ HeldA y := by
  intro fuel l d hf
  obtain ⟨xs, n, -, -, hl, hx, hg⟩ := DataW.trod_struct Tryz.underlying27 hf
  rw [cells_atom] at hl
  have c3 : Tryz.prog.cellsOf 3 = 1 := by kernel_rfl
  have c6 : Tryz.prog.cellsOf 24 = 6 := by kernel_rfl
  have at' : ∀ i, (h : i < xs.length) → xs[i]? = some (xs[i]'h) := fun i h => List.getElem?_eq_getElem h
  have hx6 : xs.length = 2 := hx
  match l, hl with
  | [v0, v1, v2, v3, v4, v5, v6], _ =>
    have g0 := (hg 0 _ rfl).trans (at' 0 (by omega))
    have g1 := (hg 1 _ rfl).trans (at' 1 (by omega))
    simp only [List.getElem_toArray, List.getElem_cons_zero, List.getElem_cons_succ, c3, c6] at g0 g1
    obtain ⟨k, e0, -, hk⟩ := DataW.trod_int Tryz.underlying3 g0
    obtain ⟨y, e1, hy⟩ := rd_nodeA _ _ _ g1
    simp [ndc] at e0 e1
    obtain ⟨f0, f1, f2, f3, f4, f5⟩ := e1
    subst e0 f0 f1 f2 f3 f4 f5
    exact ⟨⟨k, y⟩, rfl, ⟨hy, (int_rangeA hk).1, (int_rangeA hk).2⟩⟩
set_option maxRecDepth 100000 in
/-- Atoms. -/
theorem open_atoms {r : Reach} {b0 : Nat} {v : Value} {d : DataW H} {ps : List MemPlace} (hv : Value.okWide Tryz.prog w r b0 22 v) (h : DataW.Trod enc Tryz.prog w base sp held 22 v d ps) : ∃ p : List Atm, Ats w v p ∧ ∀ a ∈ p, HeldA a := by
  obtain ⟨a, len, cap, rfl⟩ := okWide_slice Tryz.underlying22 hv
  obtain ⟨fuel, hf⟩ := h
  obtain ⟨l, h1, h2⟩ := open_rows (Q := fun (y : Atm) _ => HeldA y) Tryz.underlying22 cells_atom (by decide) atc_len (fun n cs d h => rd_atom n cs d h) hf
  refine ⟨l, h1, fun s hs => ?_⟩
  rcases h2 with ⟨-, rfl⟩ | ⟨ds, sp', -, -, h3⟩
  · cases hs
  · obtain ⟨i, hi, rfl⟩ := List.getElem_of_mem hs
    obtain ⟨d, -, hq⟩ := h3 i _ (List.getElem?_eq_getElem hi)
    exact hq
set_option maxRecDepth 100000 in
/-- A node. -/
theorem open_nodeA {r : Reach} {b0 : Nat} {v : Value} {d : DataW H} {ps : List MemPlace} (hv : Value.okWide Tryz.prog w r b0 24 v) (h : DataW.Trod enc Tryz.prog w base sp held 24 v d ps) : ∃ t : Nd, v = nda t ∧ NdH t := by
  simp only [Value.okWide, Tryz.underlying24] at hv
  obtain ⟨⟨l⟩, rfl, hl, -⟩ := hv
  obtain ⟨fuel, hf⟩ := h
  obtain ⟨y, e, hy⟩ := rd_nodeA _ _ _ hf
  have e2 : l = ndc y := e
  subst e2
  exact ⟨y, rfl, hy⟩
set_option maxRecDepth 100000 in
/-- Two numbers. -/
theorem open_twoA {r : Reach} {b0 : Nat} {v : Value} {d : DataW H} {ps : List MemPlace} (hv : Value.okWide Tryz.prog w r b0 33 v) (h : DataW.Trod enc Tryz.prog w base sp held 33 v d ps) :
    ∃ x y : Int, v = .agg #[.int .i64 x, .int .i64 y] ∧ (-9223372036854775808 ≤ x ∧ x ≤ 9223372036854775807) ∧ (-9223372036854775808 ≤ y ∧ y ≤ 9223372036854775807) := by
  simp only [Value.okWide, Tryz.underlying33] at hv
  obtain ⟨⟨l⟩, rfl, hl, -⟩ := hv
  rw [show Tryz.prog.cellsOf 33 = 2 by kernel_rfl] at hl
  have c5 : Tryz.prog.cellsOf 3 = 1 := by kernel_rfl
  obtain ⟨fuel, hf⟩ := h
  obtain ⟨xs, n, -, -, -, hx, hg⟩ := DataW.trod_array Tryz.underlying33 hf
  match l, hl with
  | [v0, v1], _ =>
    have g0 := (hg 0 (by decide)).trans (List.getElem?_eq_getElem (by rw [hx]; decide))
    have g1 := (hg 1 (by decide)).trans (List.getElem?_eq_getElem (by rw [hx]; decide))
    simp only [c5] at g0 g1
    obtain ⟨k, e0, -, w0⟩ := DataW.trod_int Tryz.underlying3 g0
    obtain ⟨m, e1, -, w1⟩ := DataW.trod_int Tryz.underlying3 g1
    simp [Value.cells] at e0 e1
    subst e0 e1
    exact ⟨k, m, rfl, int_rangeA w0, int_rangeA w1⟩
end
end Go.Proofs.YtbhgmfddjnkglaaGreatDoor
