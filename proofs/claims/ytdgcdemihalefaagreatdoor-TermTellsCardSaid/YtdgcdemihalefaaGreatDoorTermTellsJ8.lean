/-
  Joined: LenP, ValW2, ValW3, ValW4, FwF, FwG, FwH, FwJ.
-/
import Derived.Test.YtdgcdemihalefaaGreatDoorBase
import Derived.Test.YtdgcdemihalefaaGreatDoorTermTellsJ4
import Derived.Test.YtdgcdemihalefaaGreatDoorTermTellsJ1
import Derived.StillTailTactics
import Derived.Test.YtdgcdemihalefaaGreatDoorTermTellsJ2
import Derived.Test.YtdgcdemihalefaaGreatDoorTermTellsJ7
import Derived.Test.YtdgcdemihalefaaGreatDoorTermTellsJ5
import Derived.Lib.FrozenHead
import Derived.Test.YtdgcdemihalefaaGreatDoorTermTellsJ9
namespace Go.Proofs.YtdgcdemihalefaaGreatDoor
open Go.RowKit
def lenOf : Value → Nat
  | .slice _ n _ => n
  | _ => 0
end Go.Proofs.YtdgcdemihalefaaGreatDoor
namespace Go.Proofs.YtdgcdemihalefaaGreatDoor
open Go.RowKit Np Rw Vp
abbrev OwnH (base : Nat) (w : World) (v : Value) (l : List Hd) : Prop := Own hdc 4 217 base w v l
theorem hdc_len (h : Hd) : (hdc h).length = 4 := rfl
theorem holder_info : (Tryz.prog.info? 217).map (fun i => (i.zero, i.size, i.bytes)) = some (some (.agg #[.int .i64 0, .int .i64 0, .bool false, .string ⟨#[]⟩]), 4, 40) := by kernel_rfl
theorem elHolder : Elem Tryz.prog 214 217 hdc 4 40 := by
  obtain ⟨i, hi, hz0, hz1, hz2⟩ := info_parts holder_info
  refine ⟨Tryz.underlying214, ⟨i, _, hi, hz0, hz1, hz2, rfl⟩, by decide, hdc_len, fun n u hu => ?_⟩
  simp only [hdc, List.mem_cons, List.not_mem_nil, or_false] at hu
  rcases hu with rfl | rfl | rfl | rfl <;> rfl
def OwnsH (base : Nat) (w : World) (st : List Hd) (e : Ending) (w' : World) : Prop := ∃ v', e = .returned v' ∧ OwnH base w' v' st ∧ Below base w w'
theorem begin_any (w : World) : Calls Tryz.prog 188 #[] w (OwnsH w.heap.size w Vp.start) := by
  go_enter Tryz.func188, Tryz.ntmps188
  go_wp2
  go_ret
  exact ⟨_, rfl, Own.lit hdc_len w #[.int .i64 5, .int .i64 1, .bool false, .string ⟨#[]⟩] Vp.start (Nat.le_refl _) (by decide) rfl, (Below.refl _ _).alloc (Nat.le_refl _) _⟩
theorem own_stepped {w : World} {base g cap : Nat} {pre : List Hd} {h : Hd} {n : Nd} (hown : OwnH base w (.slice (some ⟨g, 0, none⟩) (pre ++ [h]).length cap) (pre ++ [h])) :
    OwnH base (((w.setCell ⟨g, pre.length * 4 + 1, none⟩ (.int .i64 (h.left - 1))).setCell ⟨g, pre.length * 4 + 2, none⟩ (.bool true)).setCell ⟨g, pre.length * 4 + 3, none⟩ (.string ⟨n.name.toArray⟩)) (.slice (some ⟨g, 0, none⟩) (pre.length + 1) cap) (pre ++ [stepH h n]) := by
  have hs : ∀ x y : Hd, (pre ++ [x]).set pre.length y = pre ++ [y] := fun x y => by simp [List.set_append_right]
  have hg : ∀ x : Hd, (pre ++ [x])[pre.length]? = some x := fun x => by simp
  have h1 := Own.put hdc_len (y := ⟨h.kind, h.left - 1, h.begun, h.ahead⟩) (u := .int .i64 (h.left - 1)) hown (hg h) (by decide : 1 < 4) rfl
  rw [hs, show (pre ++ [h]).length = (pre ++ [(⟨h.kind, h.left - 1, h.begun, h.ahead⟩ : Hd)]).length by simp] at h1
  have h2 := Own.put hdc_len (y := ⟨h.kind, h.left - 1, true, h.ahead⟩) (u := .bool true) h1 (hg _) (by decide : 2 < 4) rfl
  rw [hs, show (pre ++ [(⟨h.kind, h.left - 1, h.begun, h.ahead⟩ : Hd)]).length = (pre ++ [(⟨h.kind, h.left - 1, true, h.ahead⟩ : Hd)]).length by simp] at h2
  have h3 := Own.put hdc_len (y := stepH h n) (u := .string ⟨n.name.toArray⟩) h2 (hg _) (by decide : 3 < 4) rfl
  rw [hs] at h3
  simpa using h3
theorem pop_snoc (st : List Hd) (h : Hd) (h0 : h.left = 0) : (pop (h :: st.reverse)).reverse = (pop st.reverse).reverse := by rw [pop, if_pos h0]
theorem pop_stop (st : List Hd) (h : Hd) (h0 : h.left ≠ 0) : (pop (h :: st.reverse)).reverse = st ++ [h] := by rw [pop, if_neg h0]; simp
set_option maxHeartbeats 2000000 in
theorem pass_any (v : Value) (pre : List Hd) (h : Hd) (n : Nd) (w : World) (base : Nat) (hown : OwnH base w v (pre ++ [h])) (hb : base ≤ w.heap.size) (hlen : pre.length ≤ 65536) (hl1 : 1 ≤ h.left) (hl2 : h.left ≤ 9223372036854775807) :
    Calls Tryz.prog 191 #[v, nda n] w (OwnsH base w (passH (h :: pre.reverse) n).reverse) := by
  obtain ⟨g, cap, hv, hg, hglt⟩ := hown.opened (by simp)
  subst hv
  have HO := Lib.hid hown; clear hown
  have hat : (pre ++ [h])[pre.length]? = some h := by simp
  have k1 := Own.cell hdc_len (j := 1) HO.out hat rfl
  have k2 := Own.cell hdc_len (j := 2) HO.out hat rfl
  have k3 := Own.cell hdc_len (j := 3) HO.out hat rfl
  have f1 := HO.out.free (pre.length * 4 + 1)
  have f2 := HO.out.free (pre.length * 4 + 2)
  have f3 := HO.out.free (pre.length * 4 + 3)
  clear hat
  have hpl : (pre ++ [h]).length = pre.length + 1 := by simp
  rw [hpl]
  generalize hp : pre.length = p at *
  have HP := Lib.hid hp; clear hp hpl
  have hgne : g ≠ w.heap.size := by omega
  have e0 : ((p : Int) + 1 == 0) = false := by simp; omega
  go_enter Tryz.func191, Tryz.ntmps191
  go_wp2_with fail
  go_cut [] (fun wx => OwnH base wx (.slice (some ⟨g, 0, none⟩) (p + 1) cap) (pre ++ [stepH h n]) ∧ Below base w wx ∧ wx.cell? ⟨w.heap.size, 0, none⟩ = some (.int .i64 n.kind) ∧ wx.cell? ⟨w.heap.size, 1, none⟩ = some (.int .i64 n.many) ∧ w.heap.size < wx.heap.size)
  case first =>
    go_region
    go_wp2_with fail
    go_meet
    have hst := own_stepped (n := n) HO.out
    rw [HP.out] at hst
    refine ⟨(hst.alloc _).drew, ?_, ?_, ?_, ?_⟩
    · exact ((((Below.refl base w).setCell (p := ⟨g, p * 4 + 1, none⟩) hg _).setCell (p := ⟨g, p * 4 + 2, none⟩) hg _).setCell (p := ⟨g, p * 4 + 3, none⟩) hg _).alloc (by simpa using hb) _ |>.drew
    · simp [go_sem]
    · simp [go_sem]
    · simp
  case rest =>
    obtain ⟨ho, hB, c0, c1, hz⟩ := hcut
    have HO2 := Lib.hid ho
    clear ho HO k1 k2 k3 f1 f2 f3 e0 hgne
    by_cases hm : 0 < n.many
    · have HV : Hid ((passH (h :: pre.reverse) n).reverse = pre ++ [stepH h n, ⟨n.kind, n.many, false, []⟩]) := Lib.hid (by rw [passH_cons, if_pos hm]; simp)
      have hlen2 : (pre ++ [stepH h n]).length = p + 1 := by rw [← HP.out]; simp
      have HR : Hid (∀ W : World, Row hdc 4 (W.alloc (.cells #[.int .i64 n.kind, .int .i64 n.many, .bool false, .string ⟨#[]⟩] 217)) (.slice (some ⟨W.heap.size, 0, none⟩) 1 1) [⟨n.kind, n.many, false, []⟩]) := Lib.hid (fun W => Row.lit hdc_len W 217 _ [⟨n.kind, n.many, false, []⟩] (by show 1 ≤ maxLen; decide) rfl)
      go_wp2_with (at_builtin; refine wpList_append_row (base := base) elHolder rfl _ _ rfl rfl (HO2.out.alloc _) rfl (HR.out _) ?_ ?_ ?_ ?_)
      · rw [hlen2]; simp only [List.length_singleton]; unfold maxLen; omega
      · rw [hlen2]; simp only [List.length_singleton]; omega
      · have := hB.size; simp; omega
      · intro A c w2 hown2 hg2 hat2
        have HOW := Lib.hid hown2
        have HB2 : Hid (Below base w w2) := Lib.hid ((hB.alloc (by have := hB.size; omega) _).trans ((HO2.out.alloc _).kept hg2 (by have := hB.size; simp; omega)))
        clear hown2 hg2 hat2
        go_wp2_with fail
        go_ret
        exact ⟨_, rfl, by rw [HV.out]; exact HOW.out, HB2.out⟩
    · have HV : Hid ((passH (h :: pre.reverse) n).reverse = (pop (stepH h n :: pre.reverse)).reverse) := Lib.hid (by rw [passH_cons, if_neg hm])
      have hm' : n.many ≤ 0 := by omega
      go_wp2_with fail
      go_loopw [0] (fun s0 wr => ∃ st : List Hd, s0 = .slice (some ⟨g, 0, none⟩) st.length cap ∧ wr = wc ∧ st.length ≤ 65537 ∧ OwnH base wr (.slice (some ⟨g, 0, none⟩) st.length cap) st ∧ (pop st.reverse).reverse = (pop (stepH h n :: pre.reverse)).reverse) (fun s0 _ => lenOf s0)
      case atStart => exact ⟨pre ++ [stepH h n], by simp [HP.out], rfl, by simp [HP.out]; omega, by rw [show (pre ++ [stepH h n]).length = p + 1 by simp [HP.out]]; exact HO2.out, by simp⟩
      case round =>
        obtain ⟨st, rfl, rfl, hsl, hos, hpo⟩ := hrel
        have HPO := Lib.hid hpo
        have HOS := Lib.hid hos
        clear hpo hos
        rcases List.eq_nil_or_concat st with rfl | ⟨st', x, rfl⟩
        · have HE : Hid ((passH (h :: pre.reverse) n).reverse = []) := Lib.hid (by rw [HV.out, ← HPO.out]; rfl)
          simp only [List.length_nil] at HOS ⊢
          go_wp2
          go_ret
          exact ⟨_, rfl, by rw [HE.out]; exact HOS.out, hB⟩
        · rw [List.concat_eq_append] at *
          have hst : (st' ++ [x])[st'.length]? = some x := by simp
          have q1 := Own.cell hdc_len (j := 1) HOS.out hst rfl
          clear hst
          have hpl : (st' ++ [x]).length = st'.length + 1 := by simp
          rw [hpl] at hsl HOS ⊢
          obtain ⟨-, hcap, hcm⟩ := HOS.out.cap
          unfold maxLen at hcm
          by_cases hx0 : x.left = 0
          · have HE : Hid ((pop st'.reverse).reverse = (pop (stepH h n :: pre.reverse)).reverse) := Lib.hid (by rw [← HPO.out, List.reverse_append]; exact (pop_snoc st' x hx0).symm)
            have HOP := Lib.hid (Own.pop hdc_len HOS.out)
            rw [hx0] at q1
            clear hpl
            go_wp2
            go_roundw
            case rel => exact ⟨st', by simp, by simp, by omega, HOP.out, HE.out⟩
            case measure => simp [lenOf]
          · have HE : Hid ((passH (h :: pre.reverse) n).reverse = st' ++ [x]) := Lib.hid (by rw [HV.out, ← HPO.out, List.reverse_append]; exact pop_stop st' x hx0)
            have ex : (x.left == 0) = false := by simp [hx0]
            clear hpl
            go_wp2
            go_ret
            exact ⟨_, rfl, by rw [HE.out]; exact HOS.out, hB⟩
end Go.Proofs.YtdgcdemihalefaaGreatDoor
namespace Go.Proofs.YtdgcdemihalefaaGreatDoor
open Go.RowKit Np Rw Vp
def Fits (l : List Nd) : Prop := ∀ n ∈ l, n.many ≤ 9223372036854775807
def Rg (g p B : Nat) (h : Hd) (x : Nd) (W0 w' : World) : Prop :=
  w'.cell? ⟨g, p * 4, none⟩ = some (.int .i64 h.kind) ∧ w'.cell? ⟨g, p * 4 + 1, none⟩ = some (.int .i64 h.left) ∧ w'.cell? ⟨g, p * 4 + 2, none⟩ = some (.bool h.begun) ∧ w'.cell? ⟨g, p * 4 + 3, none⟩ = some (.string ⟨h.ahead.toArray⟩) ∧
  w'.cell? ⟨B, 0, none⟩ = some (.int .i64 x.kind) ∧ w'.cell? ⟨B, 1, none⟩ = some (.int .i64 x.many) ∧ w'.cell? ⟨B, 2, none⟩ = some (.string ⟨x.name.toArray⟩) ∧ w'.cell? ⟨B, 3, none⟩ = some (.string ⟨x.s.toArray⟩) ∧ w'.cell? ⟨B, 4, none⟩ = some (.bool x.neg) ∧ w'.cell? ⟨B, 5, none⟩ = some (.int .i64 x.e) ∧
  g < w'.heap.size ∧ B < w'.heap.size ∧ Tabs w' ∧ Below W0.heap.size W0 w'
theorem Rg.step {g p B : Nat} {h : Hd} {x : Nd} {W0 W W' : World} (hr : Rg g p B h x W0 W) (hb : Below W.heap.size W W') : Rg g p B h x W0 W' := by
  obtain ⟨a0, a1, a2, a3, b0, b1, b2, b3, b4, b5, hg, hB, hT, hl⟩ := hr
  exact ⟨(hb.cell hg).trans a0, (hb.cell hg).trans a1, (hb.cell hg).trans a2, (hb.cell hg).trans a3, (hb.cell hB).trans b0, (hb.cell hB).trans b1, (hb.cell hB).trans b2, (hb.cell hB).trans b3, (hb.cell hB).trans b4, (hb.cell hB).trans b5,
    Nat.lt_of_lt_of_le hg hb.size, Nat.lt_of_lt_of_le hB hb.size, hT.below hb, Below.after hl hb⟩
theorem Rg.tabs {g p B : Nat} {h : Hd} {x : Nd} {W0 W : World} (hr : Rg g p B h x W0 W) : Tabs W := hr.2.2.2.2.2.2.2.2.2.2.2.2.1
theorem Rg.low {g p B : Nat} {h : Hd} {x : Nd} {W0 W : World} (hr : Rg g p B h x W0 W) : Below W0.heap.size W0 W := hr.2.2.2.2.2.2.2.2.2.2.2.2.2
theorem pop_mem : ∀ {st : List Hd} {y : Hd}, y ∈ pop st → y ∈ st
  | h :: st, y, hy => by
    unfold pop at hy
    split at hy
    · exact List.mem_cons_of_mem _ (pop_mem hy)
    · exact hy
theorem passH_left {h : Hd} {st : List Hd} {n : Nd} {B : Int} (hst : ∀ x ∈ h :: st, x.left ≤ B) (hn : n.many ≤ B) : ∀ y ∈ passH (h :: st) n, y.left ≤ B := by
  have hs : ∀ y ∈ stepH h n :: st, y.left ≤ B := by
    intro y hy
    rcases List.mem_cons.1 hy with rfl | hy
    · have := hst h (by simp); simp [stepH]; omega
    · exact hst y (by simp [hy])
  intro y hy
  rw [passH_cons] at hy
  split at hy
  · rcases List.mem_cons.1 hy with rfl | hy
    · exact hn
    · exact hs y hy
  · exact hs y (pop_mem hy)
set_option maxRecDepth 100000 in
set_option maxHeartbeats 4000000 in
theorem rightV_any (v : Value) (l : List Nd) (w : World) (hv : Nds w v l) (hl : l.length ≤ 65536) (hsh : Short l) (hft : Fits l) (hT : Tabs w) :
    Calls Tryz.prog 137 #[v] w fun e w' => e = .returned (.bool (rightL l)) ∧ Below w.heap.size w w' := by
  generalize hans : rightL l = ans
  have HANS := Lib.hid hans; clear hans
  have HSH := Lib.hid hsh
  have HFT := Lib.hid hft
  clear hsh hft
  rcases Nat.eq_zero_or_pos l.length with h0 | h0
  · have e1 := List.eq_nil_of_length_eq_zero h0
    subst e1
    obtain ⟨A, c, rfl, -⟩ := hv
    have HE : Hid (ans = false) := Lib.hid (by rw [← HANS.out]; rfl)
    clear h0 hl
    simp only [List.length_nil]
    go_enter Tryz.func137, Tryz.ntmps137
    go_wp2_with fail
    refine (begin_any _).mono ?_
    rintro e w1 ⟨v1, rfl, ho1, hb1⟩
    obtain ⟨g, cap, rfl, hg, hglt⟩ := ho1.opened (by decide)
    have HO := Lib.hid ho1; clear ho1
    simp only [Vp.start, List.length_singleton]
    go_wp2_with fail
    go_loopw [3, 9] (fun a b wr => a = .slice (some ⟨g, 0, none⟩) 1 cap ∧ b = .int .i64 0 ∧ wr = w1) (fun _ _ _ => 0)
    case atStart => exact ⟨rfl, rfl, rfl⟩
    case round =>
      obtain ⟨rfl, rfl, rfl⟩ := hrel
      go_wp2
      go_ret
      exact ⟨ret_bool HE.out.symm, hb1⟩
  · obtain ⟨gv, o, c, rfl, hc, hcm, hgv, hx⟩ := hv.opened h0
    have HX := Lib.hid hx; clear hx
    generalize hn : l.length = n at *
    have HN := Lib.hid hn; clear hn
    go_enter Tryz.func137, Tryz.ntmps137
    go_wp2_with fail
    refine (begin_any _).mono ?_
    rintro e w1 ⟨v1, rfl, ho1, hb1⟩
    obtain ⟨g, cap, rfl, hg, hglt⟩ := ho1.opened (by decide)
    have HO := Lib.hid ho1; clear ho1
    simp only [Vp.start, List.length_singleton] at HO ⊢
    go_wp2_with fail
    go_loopw [3, 9] (fun a b wr => ∃ (k : Nat) (st : List Hd) (A : Option Addr) (cc : Nat), k ≤ n ∧ b = .int .i64 k ∧ a = .slice A st.length cc ∧ OwnH w.heap.size wr (.slice A st.length cc) st ∧ Below w.heap.size w wr ∧ run st.reverse (l.drop k) = ans ∧ Fit st.reverse ∧ (∀ x ∈ st, x.left ≤ 9223372036854775807) ∧ st.length ≤ k + 1) (fun _ b _ => n - (intOf b).toNat)
    case atStart => exact ⟨0, Vp.start, some ⟨g, 0, none⟩, cap, Nat.zero_le _, rfl, rfl, HO.out, hb1, HANS.out, ⟨by decide, by simp⟩, by simp [Vp.start], by simp [Vp.start]⟩
    case round =>
      obtain ⟨k, st, A, cc, hk, rfl, rfl, hos, hbw, hrun, hfit, hlf, hsl⟩ := hrel
      have HOS := Lib.hid hos
      have HR := Lib.hid hrun
      have HF := Lib.hid hfit
      have HLF := Lib.hid hlf
      clear hos hrun hfit hlf
      by_cases hlt : k < n
      · obtain ⟨x, hx⟩ : ∃ a, l[k]? = some a := ⟨_, List.getElem?_eq_getElem (by rw [HN.out]; exact hlt)⟩
        obtain ⟨a0, a1, a2, a3, a4, a5⟩ := (HX.out k x hx).nd.below hgv hbw
        have HD : Hid (l.drop k = x :: l.drop (k + 1)) := Lib.hid (drop_at hx)
        have HSN : Hid (x.name.length ≤ maxLen ∧ x.s.length ≤ maxLen) := Lib.hid (HSH.out x (List.mem_of_getElem? hx))
        have HFN : Hid (x.many ≤ 9223372036854775807) := Lib.hid (HFT.out x (List.mem_of_getElem? hx))
        clear hx
        rcases List.eq_nil_or_concat st with rfl | ⟨pre, h, rfl⟩
        · have HE : Hid (ans = false) := Lib.hid (by rw [← HR.out, HD.out]; rfl)
          simp only [List.length_nil]
          go_wp2
          go_quiet (fail)
          go_wp2
          go_ret
          exact ⟨ret_bool HE.out.symm, drewN_below (hbw.alloc hbw.size _) _⟩
        · rw [List.concat_eq_append] at *
          have hrv : (pre ++ [h]).reverse = h :: pre.reverse := by simp
          rw [hrv] at HR HF
          have HRC : Hid (ans = (lets h.kind h.begun h.ahead x.name && plainN x && run (passH (h :: pre.reverse) x) (l.drop (k + 1)))) := Lib.hid (by rw [← HR.out, HD.out, run_cons])
          have hh1 : 1 ≤ h.left := HF.out.1
          have hh2 : h.left ≤ 9223372036854775807 := HLF.out h (by simp)
          obtain ⟨g', cap', hA, hg', hglt'⟩ := HOS.out.opened (by simp)
          injection hA with hA _ hcc
          subst hA hcc
          have hW0 : ∃ W0, W0 = wr.alloc (.cells #[.int .i64 x.kind, .int .i64 x.many, .string ⟨x.name.toArray⟩, .string ⟨x.s.toArray⟩, .bool x.neg, .int .i64 x.e] 43) := ⟨_, rfl⟩
          obtain ⟨W0, hW0⟩ := hW0
          have hpl : (pre ++ [h]).length = pre.length + 1 := by simp
          have hp0 : ∃ p, p = pre.length := ⟨_, rfl⟩
          obtain ⟨p, hp⟩ := hp0
          have hbW : Below w.heap.size w W0 := by rw [hW0]; exact hbw.alloc hbw.size _
          have HOW : Hid (OwnH w.heap.size W0 (.slice (some ⟨g', 0, none⟩) (pre ++ [h]).length cc) (pre ++ [h])) := Lib.hid (by rw [hW0]; exact HOS.out.alloc _)
          have hat : (pre ++ [h])[pre.length]? = some h := by simp
          have hStart : Rg g' p wr.heap.size h x W0 W0 := by
            subst hp
            refine ⟨Own.cell hdc_len (j := 0) HOW.out hat rfl, Own.cell hdc_len (j := 1) HOW.out hat rfl, Own.cell hdc_len (j := 2) HOW.out hat rfl, Own.cell hdc_len (j := 3) HOW.out hat rfl, ?_, ?_, ?_, ?_, ?_, ?_, ?_, ?_, hT.below hbW, Below.refl _ _⟩
            all_goals (rw [hW0]; simp)
            omega
          clear hat
          rw [hpl, ← hp] at HOW hsl ⊢
          have HP := Lib.hid hp
          clear hp hpl hrv HOS
          have e0 : ((p : Int) + 1 == 0) = false := by simp; omega
          have hsz0 : W0.heap.size = wr.heap.size + 1 := by rw [hW0]; simp
          go_upto_region 5 with fail
          rw [← hW0]
          have HW0 := Lib.hid hW0
          have HSZ := Lib.hid hsz0
          clear hW0 hsz0 a0 a1 a2 a3 a4 a5
          have w1 : IntKind.i64.wrap ((p : Int) + 1 - 1) = (p : Int) := by rw [Int.add_sub_cancel]; exact IntWalk.i64_in _ (by omega)
          have w2 : IntKind.i64.wrap (p : Int) = (p : Int) := IntWalk.i64_in _ (by omega)
          have w3 : (0 : Int) ≤ (p : Int) := by omega
          have w4 : (p : Int) < (p : Int) + 1 := by omega
          have w5 : (p : Int).toNat = p := by omega
          have HS2 : Hid (Rg g' p wr.heap.size h x W0 W0.drew) := Lib.hid (hStart.step (Below.refl _ _).drew)
          cases hle : lets h.kind h.begun h.ahead x.name
          · have HLE := Lib.hid hle
            have HE : Hid (ans = false) := Lib.hid (by rw [HRC.out, hle]; rfl)
            clear hle
            go_cut [32] (fun s32 wx => s32 = .bool true ∧ Below W0.heap.size W0 wx)
            case first =>
              obtain ⟨a0, a1, a2, a3, b0, b1, b2, b3, b4, b5, -, -, -, -⟩ := hStart
              go_still_tail 12, (by kernel_rfl)
              change wpList _ _ _ _ _ W0.drew
              generalize W0.drew = w2 at HS2 ⊢
              clear a0 a1 a2 a3 b0 b1 b2 b3 b4 b5
              go_wp2_with fail
              refine (lets_any h x.name _ HSN.out.1 HS2.out.tabs).mono ?_
              rintro e3 w3 ⟨rfl, hb3⟩
              rw [HLE.out]
              go_wp2_with fail
              go_meet
              exact ⟨by simp, Below.after HS2.out.low hb3⟩
            case rest =>
              obtain ⟨rfl, hBx⟩ := hcut
              go_wp2_with fail
              go_ret
              exact ⟨ret_bool HE.out.symm, Below.after hbW hBx⟩
          · have HLE := Lib.hid hle
            cases hpn : plainN x
            · have HPL := Lib.hid hpn
              have HE : Hid (ans = false) := Lib.hid (by rw [HRC.out, hle, hpn]; rfl)
              clear hle hpn
              go_cut [32] (fun s32 wx => s32 = .bool true ∧ Below W0.heap.size W0 wx)
              case first =>
                obtain ⟨a0, a1, a2, a3, b0, b1, b2, b3, b4, b5, -, -, -, -⟩ := hStart
                go_still_tail 12, (by kernel_rfl)
                change wpList _ _ _ _ _ W0.drew
                generalize W0.drew = w2 at HS2 ⊢
                clear a0 a1 a2 a3 b0 b1 b2 b3 b4 b5
                go_wp2_with fail
                refine (lets_any h x.name _ HSN.out.1 HS2.out.tabs).mono ?_
                rintro e3 w3 ⟨rfl, hb3⟩
                rw [HLE.out]
                have HS3 := Lib.hid (HS2.out.step hb3)
                obtain ⟨-, -, -, -, b0, b1, b2, b3, b4, b5, -, -, -, -⟩ := HS3.out
                clear hb3
                go_wp2_with fail
                refine (rightNode_any x _ HSN.out.2 HS3.out.tabs).mono ?_
                rintro e4 w4 ⟨rfl, hb4⟩
                rw [HPL.out]
                clear b0 b1 b2 b3 b4 b5
                go_wp2_with fail
                go_meet
                exact ⟨by simp, Below.after HS3.out.low hb4⟩
              case rest =>
                obtain ⟨rfl, hBx⟩ := hcut
                go_wp2_with fail
                go_ret
                exact ⟨ret_bool HE.out.symm, Below.after hbW hBx⟩
            · have HPL := Lib.hid hpn
              have HE : Hid (ans = run (passH (h :: pre.reverse) x) (l.drop (k + 1))) := Lib.hid (by rw [HRC.out, hle, hpn]; rfl)
              clear hle hpn
              go_cut [32] (fun s32 wx => s32 = .bool false ∧ Below W0.heap.size W0 wx)
              case first =>
                obtain ⟨a0, a1, a2, a3, b0, b1, b2, b3, b4, b5, -, -, -, -⟩ := hStart
                go_still_tail 12, (by kernel_rfl)
                change wpList _ _ _ _ _ W0.drew
                generalize W0.drew = w2 at HS2 ⊢
                clear a0 a1 a2 a3 b0 b1 b2 b3 b4 b5
                go_wp2_with fail
                refine (lets_any h x.name _ HSN.out.1 HS2.out.tabs).mono ?_
                rintro e3 w3 ⟨rfl, hb3⟩
                rw [HLE.out]
                have HS3 := Lib.hid (HS2.out.step hb3)
                obtain ⟨-, -, -, -, b0, b1, b2, b3, b4, b5, -, -, -, -⟩ := HS3.out
                clear hb3
                go_wp2_with fail
                refine (rightNode_any x _ HSN.out.2 HS3.out.tabs).mono ?_
                rintro e4 w4 ⟨rfl, hb4⟩
                rw [HPL.out]
                clear b0 b1 b2 b3 b4 b5
                go_wp2_with fail
                go_meet
                exact ⟨by simp, Below.after HS3.out.low hb4⟩
              case rest =>
                obtain ⟨rfl, hBx⟩ := hcut
                have HSX := Lib.hid (hStart.step hBx)
                obtain ⟨-, -, -, -, b0, b1, b2, b3, b4, b5, -, -, -, -⟩ := HSX.out
                have HOX := Lib.hid (HOW.out.below hBx)
                have HBX := Lib.hid (Below.after hbW hBx)
                clear hBx hStart HS2
                go_wp2_with fail
                refine (pass_any _ pre h x _ w.heap.size HOX.out HBX.out.size (by rw [← HP.out]; omega) hh1 hh2).mono ?_
                rintro e5 w5 ⟨v5, rfl, ho5, hb5⟩
                obtain ⟨A5, c5, rfl, -, -, -⟩ := ho5.form
                have HO5 := Lib.hid ho5
                have HB5 := Lib.hid (HBX.out.trans hb5)
                have HFT5 : Hid (Fit (passH (h :: pre.reverse) x)) := Lib.hid (passH_fit HF.out)
                have HLF5 : Hid (∀ y ∈ (passH (h :: pre.reverse) x).reverse, y.left ≤ 9223372036854775807) := Lib.hid (fun y hy => passH_left (st := pre.reverse) (fun z hz => HLF.out z (by simpa [or_comm] using hz)) HFN.out y (List.mem_reverse.1 hy))
                have hln5 := passH_len (h :: pre.reverse) x
                have hpp := HP.out
                simp only [List.length_cons, List.length_reverse] at hln5
                clear ho5 hb5 b0 b1 b2 b3 b4 b5
                go_wp2_with fail
                go_roundw
                case rel => exact ⟨k + 1, (passH (h :: pre.reverse) x).reverse, A5, c5, by omega, by go_num, by rw [List.length_reverse], HO5.out, HB5.out, by rw [List.reverse_reverse, HE.out], by rw [List.reverse_reverse]; exact HFT5.out, HLF5.out, by rw [List.length_reverse]; omega⟩
                case measure => simp [intOf]; omega
      · have HE : Hid (ans = st.isEmpty) := Lib.hid (by rw [← HR.out, List.drop_of_length_le (by rw [HN.out]; omega), run_nil]; simp)
        go_wp2
        go_ret
        refine ⟨ret_bool ?_, hbw⟩
        rw [HE.out]
        cases st with
        | nil => rfl
        | cons a t => simp; omega
end Go.Proofs.YtdgcdemihalefaaGreatDoor
namespace Go.Proofs.YtdgcdemihalefaaGreatDoor
open Go.RowKit Np Rw Vp
theorem fits_val {t : Tr Nd} (h : okT many t) (hl : (flat t).length ≤ 65536) : Fits (flat t) := by
  intro n hn
  rw [← subs_nd, List.mem_map] at hn
  obtain ⟨s, hs, rfl⟩ := hn
  have ho := subs_ok t h s hs
  have h1 : s.nd.many = s.ks.length := (okT_eq.1 ho).1
  obtain ⟨i, hi⟩ := List.getElem?_of_mem hs
  obtain ⟨q, hq⟩ := subs_drop t [] i s hi
  have h2 := congrArg List.length hq
  rw [List.append_nil, List.length_drop, List.length_append] at h2
  have h3 : (flat s).length = 1 + (flats s.ks).length := by rw [flat_eq]; simp; omega
  have h4 := flats_len s.ks
  omega
set_option maxHeartbeats 4000000 in
theorem depthV_any (v : Value) (t : Tr Nd) (w : World) (hv : Nds w v (flat t)) (hl : (flat t).length ≤ 65536) (ht : Val t) :
    Calls Tryz.prog 138 #[v] w fun e w' => e = .returned (.int .i64 (depth t : Nat)) ∧ Below w.heap.size w w' := by
  have hans := deepG_val ht
  have hrun : Vp.run Vp.start (flat t) = true := rightL_val ht
  have HFT := Lib.hid (fits_val ht.ok hl)
  have hpos := flat_pos t
  generalize depth t = ans at hans ⊢
  generalize flat t = l at *
  have HANS := Lib.hid hans
  have HRUN := Lib.hid hrun
  clear hans hrun ht
  obtain ⟨gv, o, c, rfl, hc, hcm, hgv, hx⟩ := hv.opened hpos
  have HX := Lib.hid hx; clear hx hv
  generalize hn : l.length = n at *
  have HN := Lib.hid hn; clear hn
  go_enter Tryz.func138, Tryz.ntmps138
  go_wp2_with fail
  refine (begin_any _).mono ?_
  rintro e w1 ⟨v1, rfl, ho1, hb1⟩
  obtain ⟨g, cap, rfl, hg, hglt⟩ := ho1.opened (by decide)
  have HO := Lib.hid ho1; clear ho1
  simp only [Vp.start, List.length_singleton] at HO ⊢
  go_wp2_with fail
  go_loopw [3, 4, 10] (fun a dd b wr => ∃ (k d : Nat) (st : List Hd) (A : Option Addr) (cc : Nat), k ≤ n ∧ b = .int .i64 k ∧ dd = .int .i64 d ∧ d ≤ k + 1 ∧ a = .slice A st.length cc ∧ OwnH w.heap.size wr (.slice A st.length cc) st ∧ Below w.heap.size w wr ∧ Vp.run st.reverse (l.drop k) = true ∧ deepG st.reverse d (l.drop k) = ans ∧ Fit st.reverse ∧ (∀ x ∈ st, x.left ≤ 9223372036854775807) ∧ st.length ≤ k + 1) (fun _ _ b _ => n - (intOf b).toNat)
  case atStart => exact ⟨0, 0, Vp.start, some ⟨g, 0, none⟩, cap, Nat.zero_le _, rfl, rfl, by omega, rfl, HO.out, hb1, HRUN.out, HANS.out, ⟨by decide, by simp⟩, by simp [Vp.start], by simp [Vp.start]⟩
  case round =>
    obtain ⟨k, d, st, A, cc, hk, rfl, rfl, hd, rfl, hos, hbw, hrun, hdp, hfit, hlf, hsl⟩ := hrel
    have HOS := Lib.hid hos
    have HR := Lib.hid hrun
    have HDP := Lib.hid hdp
    have HF := Lib.hid hfit
    have HLF := Lib.hid hlf
    clear hos hrun hdp hfit hlf
    by_cases hlt : k < n
    · obtain ⟨x, hx⟩ : ∃ a, l[k]? = some a := ⟨_, List.getElem?_eq_getElem (by rw [HN.out]; exact hlt)⟩
      obtain ⟨a0, a1, a2, a3, a4, a5⟩ := (HX.out k x hx).nd.below hgv hbw
      have HD : Hid (l.drop k = x :: l.drop (k + 1)) := Lib.hid (drop_at hx)
      have HFN : Hid (x.many ≤ 9223372036854775807) := Lib.hid (HFT.out x (List.mem_of_getElem? hx))
      clear hx
      rcases List.eq_nil_or_concat st with rfl | ⟨pre, h, rfl⟩
      · have := HR.out
        rw [HD.out] at this
        simp [Vp.run] at this
      · rw [List.concat_eq_append] at *
        have hrv : (pre ++ [h]).reverse = h :: pre.reverse := by simp
        rw [hrv] at HR HF HDP
        have hrr := HR.out
        rw [HD.out, run_cons, Bool.and_eq_true] at hrr
        have HR5 := Lib.hid hrr.2
        have HD5 : Hid (deepG (passH (h :: pre.reverse) x) (if cont x.kind = true then max d (pre.length + 1) else d) (l.drop (k + 1)) = ans) := Lib.hid (by rw [← HDP.out, HD.out, deepG_cons]; simp)
        clear hrr hrv
        have hh1 : 1 ≤ h.left := HF.out.1
        have hh2 : h.left ≤ 9223372036854775807 := HLF.out h (by simp)
        have hpl : (pre ++ [h]).length = pre.length + 1 := by simp
        rw [hpl] at hsl HOS ⊢
        clear hpl
        have HO0 : Hid (OwnH w.heap.size (wr.alloc (.cells #[.int .i64 x.kind, .int .i64 x.many, .string ⟨x.name.toArray⟩, .string ⟨x.s.toArray⟩, .bool x.neg, .int .i64 x.e] 43)) (.slice A (pre.length + 1) cc) (pre ++ [h])) := Lib.hid (HOS.out.alloc _)
        have HB0 : Hid (Below w.heap.size w (wr.alloc (.cells #[.int .i64 x.kind, .int .i64 x.many, .string ⟨x.name.toArray⟩, .string ⟨x.s.toArray⟩, .bool x.neg, .int .i64 x.e] 43))) := Lib.hid (hbw.alloc hbw.size _)
        have HFT5 : Hid (Fit (passH (h :: pre.reverse) x)) := Lib.hid (passH_fit HF.out)
        have HLF5 : Hid (∀ y ∈ (passH (h :: pre.reverse) x).reverse, y.left ≤ 9223372036854775807) := Lib.hid (fun y hy => passH_left (st := pre.reverse) (fun z hz => HLF.out z (by simpa [or_comm] using hz)) HFN.out y (List.mem_reverse.1 hy))
        have hln5 := passH_len (h :: pre.reverse) x
        simp only [List.length_cons, List.length_reverse] at hln5
        cases hcn : cont x.kind
        · have HCN := Lib.hid hcn
          rw [hcn] at HD5
          simp only [Bool.false_eq_true, if_false] at HD5
          clear hcn
          go_wp2_with fail
          refine (holdsParts_any _ _).mono ?_
          rintro e w' ⟨rfl, rfl⟩
          rw [HCN.out]
          go_wp2_with fail
          refine (pass_any _ pre h x _ w.heap.size HO0.out HB0.out.size (by omega) hh1 hh2).mono ?_
          rintro e5 w5 ⟨v5, rfl, ho5, hb5⟩
          obtain ⟨A5, c5, rfl, -, -, -⟩ := ho5.form
          have HO5 := Lib.hid ho5
          have HB5 := Lib.hid (HB0.out.trans hb5)
          clear ho5 hb5 a0 a1 a2 a3 a4 a5
          go_wp2_with fail
          go_roundw
          case rel => exact ⟨k + 1, d, (passH (h :: pre.reverse) x).reverse, A5, c5, by omega, by go_num, rfl, by omega, by rw [List.length_reverse], HO5.out, HB5.out, by rw [List.reverse_reverse, HR5.out], by rw [List.reverse_reverse, HD5.out], by rw [List.reverse_reverse]; exact HFT5.out, HLF5.out, by rw [List.length_reverse]; omega⟩
          case measure => simp [intOf]; omega
        · have HCN := Lib.hid hcn
          rw [hcn] at HD5
          simp only [if_true] at HD5
          clear hcn
          go_wp2_with fail
          refine (holdsParts_any _ _).mono ?_
          rintro e w' ⟨rfl, rfl⟩
          rw [HCN.out]
          go_wp2_with fail
          refine (pass_any _ pre h x _ w.heap.size HO0.out HB0.out.size (by omega) hh1 hh2).mono ?_
          rintro e5 w5 ⟨v5, rfl, ho5, hb5⟩
          obtain ⟨A5, c5, rfl, -, -, -⟩ := ho5.form
          have HO5 := Lib.hid ho5
          have HB5 := Lib.hid (HB0.out.trans hb5)
          clear ho5 hb5 a0 a1 a2 a3 a4 a5
          go_wp2_with fail
          go_roundw
          case rel => exact ⟨k + 1, max d (pre.length + 1), (passH (h :: pre.reverse) x).reverse, A5, c5, by omega, by go_num, by go_num, by omega, by rw [List.length_reverse], HO5.out, HB5.out, by rw [List.reverse_reverse, HR5.out], by rw [List.reverse_reverse, HD5.out], by rw [List.reverse_reverse]; exact HFT5.out, HLF5.out, by rw [List.length_reverse]; omega⟩
          case measure => simp [intOf]; omega
    · have HE : Hid (d = ans) := Lib.hid (by rw [← HDP.out, List.drop_of_length_le (by rw [HN.out]; omega), deepG])
      go_wp2
      go_ret
      exact ⟨ret_i64 (by rw [HE.out]), hbw⟩
end Go.Proofs.YtdgcdemihalefaaGreatDoor
namespace Go.Proofs.YtdgcdemihalefaaGreatDoor
open Go.RowKit Np Rw Vp Pw Fw
set_option maxHeartbeats 1000000 in
theorem isPath_any (s : List UInt8) (w : World) (hs : s.length ≤ 1000000) (hT : Pv w) :
    Calls Tryz.prog 91 #[.string ⟨s.toArray⟩] w fun e w' => e = .returned (.bool (isPth s)) ∧ Below w.heap.size w w' := by
  have HR := Lib.hid (pread_any ⟨s.toArray⟩ w (by rw [mk_size]; exact hs) hT)
  have HI : Hid (isPth s = ((readP s).2.2 == 0)) := Lib.hid (by unfold isPth; rfl)
  go_enter Tryz.func91, Tryz.ntmps91
  go_wp2_with (go_at_call 135; refine HR.out.mono ?_; rintro e w1 ⟨A, n, c, rfl, -, hb1⟩)
  go_ret
  exact ⟨ret_bool HI.out.symm, hb1⟩
structure FitC (c : Nd) : Prop where
  nm : c.name.length ≤ maxLen
  s : c.s.length ≤ maxLen
  many : c.many ≤ 9223372036854775807
set_option maxRecDepth 100000 in
set_option maxHeartbeats 2000000 in
theorem isFlat_any (c : Nd) (w : World) (hc : FitC c) (hT : Tabs w) :
    Calls Tryz.prog 93 #[nda c] w fun e w' => e = .returned (.bool (flatN c)) ∧ Below w.heap.size w w' := by
  have hB : Below w.heap.size w w := Below.refl _ _
  have HL : Hid (∀ (W : World) (n : Nat), W.heap.size = n → Nds (W.alloc (.cells #[.int .i64 c.kind, .int .i64 c.many, .string ⟨c.name.toArray⟩, .string ⟨c.s.toArray⟩, .bool c.neg, .int .i64 c.e] 43)) (.slice (some ⟨n, 0, none⟩) 1 1) [c]) := Lib.hid (fun (W : World) n hn => hn ▸ Row.lit ndc_len W 43 _ [c] (by show 1 ≤ maxLen; decide) rfl)
  have HSH : Hid (Short [c]) := Lib.hid (fun x hx => by simp at hx; subst hx; exact ⟨hc.nm, hc.s⟩)
  have HFT : Hid (Fits [c]) := Lib.hid (fun x hx => by simp at hx; subst hx; exact hc.many)
  clear hc
  go_enter Tryz.func93, Tryz.ntmps93
  go_wp2_with fail
  refine (rightV_any _ [c] _ (HL.out _ _ (by simp)) (by simp) HSH.out HFT.out (hT.below ((hB.alloc (Nat.le_refl _) _).alloc (by simp) _))).mono ?_
  rintro e w1 ⟨rfl, hb1⟩
  have hb2 : Below w.heap.size w w1 := ((hB.alloc (Nat.le_refl _) _).alloc (by simp) _).trans (hb1.mono (by simp; omega))
  cases hr : rightL [c]
  · have HF : Hid (flatN c = false) := Lib.hid (by unfold flatN; rw [hr]; rfl)
    clear hr
    go_wp2_with fail
    go_ret
    exact ⟨ret_bool HF.out.symm, hb2⟩
  · obtain ⟨t, ht, he⟩ := val_of_rightL hr
    have hd : depth t = if cont c.kind = true then 1 else 0 := by
      obtain ⟨n, ks⟩ := t
      rw [flat_mk] at he
      injection he with e1 e2
      subst e1
      have hks : ks = [] := by
        cases ks with
        | nil => rfl
        | cons u us => rw [flats_cons] at e2; have := flat_ne u; simp_all
      rw [depth_mk, hks]; simp
    have HF : Hid (flatN c = (((depth t : Nat) : Int) == 0)) := Lib.hid (by
      unfold flatN
      rw [hr, hd]
      cases cont c.kind <;> rfl)
    have HN : Hid (Nds w1 (.slice (some ⟨w.heap.size + 1, 0, none⟩) 1 1) (flat t)) := Lib.hid (by
      have := (HL.out (w.alloc (.cells #[.int .i64 c.kind, .int .i64 c.many, .string ⟨c.name.toArray⟩, .string ⟨c.s.toArray⟩, .bool c.neg, .int .i64 c.e] 43)) (w.heap.size + 1) (by simp)).below hb1
      rw [← he]
      exact this)
    have hlt : (flat t).length ≤ 65536 := by rw [← he]; simp
    clear hr he hd
    go_wp2_with fail
    refine (depthV_any _ t w1 HN.out hlt ht).mono ?_
    rintro e w2 ⟨rfl, hb3⟩
    generalize depth t = d at *
    go_wp2_with fail
    go_ret
    exact ⟨ret_bool HF.out.symm, Below.after hb2 hb3⟩
theorem says_any (F : Nat) (w : World) : Calls Tryz.prog 89 #[.func (.func F) #[] #[]] w fun e w' => e = .returned (.func (.func 133) #[] #[.pointer (some ⟨w.heap.size, 0, none⟩)]) ∧ w' = w.alloc (.cells #[.func (.func F) #[] #[]] 77) := by
  go_enter Tryz.func89, Tryz.ntmps89
  go_wp2
  go_ret
  exact ⟨rfl, rfl⟩
theorem counts_any (m : Int) (w : World) : Calls Tryz.prog 90 #[.int .i64 m] w fun e w' => e = .returned (.func (.func 134) #[] #[.pointer (some ⟨w.heap.size, 0, none⟩)]) ∧ w' = w.alloc (.cells #[.int .i64 m] 3) := by
  go_enter Tryz.func90, Tryz.ntmps90
  go_wp2
  go_ret
  exact ⟨rfl, rfl⟩
theorem compares_any (F : Nat) (w : World) : Calls Tryz.prog 92 #[.func (.func F) #[] #[]] w fun e w' => e = .returned (.func (.func 136) #[] #[.pointer (some ⟨w.heap.size, 0, none⟩)]) ∧ w' = w.alloc (.cells #[.func (.func F) #[] #[]] 112) := by
  go_enter Tryz.func92, Tryz.ntmps92
  go_wp2
  go_ret
  exact ⟨rfl, rfl⟩
end Go.Proofs.YtdgcdemihalefaaGreatDoor
namespace Go.Proofs.YtdgcdemihalefaaGreatDoor
open Go.RowKit Np Rw Vp Pw Fw
def BareC (w : World) (bb : Nat) (cs : Array Value) : Prop := w.heap[bb]? = some (.cells cs 47 (0, 0))
abbrev BareAt (w : World) (bb : Nat) (t : Tm) : Prop := BareC w bb (tmc t).toArray
section
variable {w w' : World} {bb : Nat} {cs : Array Value}
theorem BareC.lt (h : BareC w bb cs) : bb < w.heap.size := (Array.getElem?_eq_some_iff.1 h).1
theorem BareC.fz (h : BareC w bb cs) (o : Nat) : w.frozen? ⟨bb, o, none⟩ = false := Lib.frozen_of_heap h o
theorem BareC.cell (h : BareC w bb cs) (o : Nat) : w.cell? ⟨bb, o, none⟩ = cs[o]? := Lib.cell_of_heap h o
theorem BareC.set (h : BareC w bb cs) (o : Nat) (u : Value) : BareC (w.setCell ⟨bb, o, none⟩ u) bb (cs.setIfInBounds o u) := by
  unfold BareC at *
  simp [World.setCell, Array.getElem?_modify, h]
theorem BareC.alloc (h : BareC w bb cs) (o : Obj) : BareC (w.alloc o) bb cs := (Below.heap_alloc w o bb h.lt).trans h
theorem BareC.below (h : BareC w bb cs) (hb : Below w.heap.size w w') : BareC w' bb cs := (hb.block bb h.lt).trans h
theorem BareC.drew (h : BareC w bb cs) : BareC w.drew bb cs := h
theorem BareC.drewN (h : BareC w bb cs) (n : Nat) : BareC (w.drewN n) bb cs := h
end
theorem BareAt.laidS {w : World} {bb : Nat} {b : Tm} (h : BareAt w bb b) (s : List UInt8) : BareAt (w.setCell ⟨bb, 3, none⟩ (.string ⟨s.toArray⟩)) bb { b with s := s } := h.set 3 _
theorem BareAt.laidN {w : World} {bb : Nat} {b : Tm} (h : BareAt w bb b) (n : Int) : BareAt (w.setCell ⟨bb, 4, none⟩ (.int .i64 n)) bb { b with n := n } := h.set 4 _
theorem BareAt.laidC {w : World} {bb : Nat} {b : Tm} (h : BareAt w bb b) (c : Nd) : BareAt (w.setCells bb 5 (ndc c)) bb { b with c := c } :=
  (((((h.set 5 (.int .i64 c.kind)).set 6 (.int .i64 c.many)).set 7 (.string ⟨c.name.toArray⟩)).set 8 (.string ⟨c.s.toArray⟩)).set 9 (.bool c.neg)).set 10 (.int .i64 c.e)
theorem Kb.sets {B rb : Nat} {a : World} : ∀ (vs : List Value) (o : Nat) {w : World}, Kb B rb a w → Kb B rb a (w.setCells rb o vs)
  | [], _, _, h => h
  | v :: vs, o, _, h => Kb.sets vs (o + 1) (h.set o v)
def ExE (w : World) (bb : Nat) (ok : Bool) (b' : Tm) (e : Ending) (w' : World) : Prop := e = .returned (.bool ok) ∧ BareAt w' bb b' ∧ Kb w.heap.size bb w w'
abbrev tmO (t : Tm) : Obj := .cells #[.int .i64 t.op, .int .i64 t.many, .string ⟨t.name.toArray⟩, .string ⟨t.s.toArray⟩, .int .i64 t.n, .int .i64 t.c.kind, .int .i64 t.c.many, .string ⟨t.c.name.toArray⟩, .string ⟨t.c.s.toArray⟩, .bool t.c.neg, .int .i64 t.c.e] 47
set_option maxHeartbeats 1000000 in
theorem saysU_any (t b : Tm) (bb B n0 : Nat) (hs : t.s.length ≤ 1000000) (w : World) (hb : BareAt w bb b) (hB : w.cell? ⟨B, 0, none⟩ = some (.func (.func 88) #[] #[])) (hlt : B < w.heap.size) (hn0 : n0 ≤ bb) (hT : ∀ w', Below n0 w w' → Pv w') :
    Calls Tryz.prog 133 #[tma t, .pointer (some ⟨bb, 0, none⟩), .pointer (some ⟨B, 0, none⟩)] w (ExE w bb (vld t.s) { b with s := t.s }) := by
  have hbl := hb.lt
  have HB : Hid (BareAt (w.alloc (tmO t)) bb b) := Lib.hid (hb.alloc (tmO t))
  have hne2 : ¬ bb = w.heap.size := by omega
  have hne3 : ¬ B = w.heap.size := by omega
  have hf := hb.fz 3
  have hc := hb.cell 3
  simp only [tmc, List.getElem?_toArray, List.getElem?_cons_succ, List.getElem?_cons_zero] at hc
  have HK : Hid (Kb w.heap.size bb w ((w.setCell ⟨bb, 3, none⟩ (.string ⟨t.s.toArray⟩)).alloc (tmO t))) := Lib.hid (((Kb.refl _ _ w).set 3 _).alloc (by simp [World.setCell]) _)
  have HTT : Hid (Pv ((w.setCell ⟨bb, 3, none⟩ (.string ⟨t.s.toArray⟩)).alloc (tmO t))) := Lib.hid (hT _ (((Below.refl _ w).setCell (p := ⟨bb, 3, none⟩) hn0 _).alloc (by simp [World.setCell]; omega) _))
  have HR : Hid (BareAt ((w.setCell ⟨bb, 3, none⟩ (.string ⟨t.s.toArray⟩)).alloc (tmO t)) bb { b with s := t.s }) := Lib.hid ((hb.laidS t.s).alloc (tmO t))
  clear hT hb
  go_enter Tryz.func133, Tryz.ntmps133
  go_wp2_with fail
  refine (valid_any _ _ (by show t.s.length ≤ maxLen; unfold maxLen; omega) HTT.out.tabs).mono ?_
  rintro e w1 ⟨rfl, hb1⟩
  go_wp2_with fail
  go_ret
  exact ⟨rfl, BareC.below HR.out hb1, HK.out.trans (Kb.of (hb1.mono HK.out.size))⟩
set_option maxHeartbeats 1000000 in
theorem saysP_any (t b : Tm) (bb B n0 : Nat) (hs : t.s.length ≤ 1000000) (w : World) (hb : BareAt w bb b) (hB : w.cell? ⟨B, 0, none⟩ = some (.func (.func 91) #[] #[])) (hlt : B < w.heap.size) (hn0 : n0 ≤ bb) (hT : ∀ w', Below n0 w w' → Pv w') :
    Calls Tryz.prog 133 #[tma t, .pointer (some ⟨bb, 0, none⟩), .pointer (some ⟨B, 0, none⟩)] w (ExE w bb (isPth t.s) { b with s := t.s }) := by
  have hbl := hb.lt
  have HB : Hid (BareAt (w.alloc (tmO t)) bb b) := Lib.hid (hb.alloc (tmO t))
  have hne2 : ¬ bb = w.heap.size := by omega
  have hne3 : ¬ B = w.heap.size := by omega
  have hf := hb.fz 3
  have hc := hb.cell 3
  simp only [tmc, List.getElem?_toArray, List.getElem?_cons_succ, List.getElem?_cons_zero] at hc
  have HK : Hid (Kb w.heap.size bb w ((w.setCell ⟨bb, 3, none⟩ (.string ⟨t.s.toArray⟩)).alloc (tmO t))) := Lib.hid (((Kb.refl _ _ w).set 3 _).alloc (by simp [World.setCell]) _)
  have HTT : Hid (Pv ((w.setCell ⟨bb, 3, none⟩ (.string ⟨t.s.toArray⟩)).alloc (tmO t))) := Lib.hid (hT _ (((Below.refl _ w).setCell (p := ⟨bb, 3, none⟩) hn0 _).alloc (by simp [World.setCell]; omega) _))
  have HR : Hid (BareAt ((w.setCell ⟨bb, 3, none⟩ (.string ⟨t.s.toArray⟩)).alloc (tmO t)) bb { b with s := t.s }) := Lib.hid ((hb.laidS t.s).alloc (tmO t))
  clear hT hb
  go_enter Tryz.func133, Tryz.ntmps133
  go_wp2_with fail
  refine (isPath_any _ _ hs HTT.out).mono ?_
  rintro e w1 ⟨rfl, hb1⟩
  go_wp2_with fail
  go_ret
  exact ⟨rfl, BareC.below HR.out hb1, HK.out.trans (Kb.of (hb1.mono HK.out.size))⟩
set_option maxHeartbeats 1000000 in
theorem countsN_any (t b : Tm) (bb B n0 : Nat) (m : Int) (w : World) (hb : BareAt w bb b) (hB : w.cell? ⟨B, 0, none⟩ = some (.int .i64 m)) (hlt : B < w.heap.size) (hn0 : n0 ≤ bb) (hT : ∀ w', Below n0 w w' → Pv w') :
    Calls Tryz.prog 134 #[tma t, .pointer (some ⟨bb, 0, none⟩), .pointer (some ⟨B, 0, none⟩)] w (ExE w bb (decide (0 ≤ t.n) && decide (t.n ≤ m)) { b with n := t.n }) := by
  have hbl := hb.lt
  have HB : Hid (BareAt (w.alloc (tmO t)) bb b) := Lib.hid (hb.alloc (tmO t))
  have hne2 : ¬ bb = w.heap.size := by omega
  have hne3 : ¬ B = w.heap.size := by omega
  have hf := hb.fz 4
  have hc := hb.cell 4
  simp only [tmc, List.getElem?_toArray, List.getElem?_cons_succ, List.getElem?_cons_zero] at hc
  have HK : Hid (Kb w.heap.size bb w ((w.setCell ⟨bb, 4, none⟩ (.int .i64 t.n)).alloc (tmO t))) := Lib.hid (((Kb.refl _ _ w).set 4 _).alloc (by simp [World.setCell]) _)
  have HTT : Hid (Pv ((w.setCell ⟨bb, 4, none⟩ (.int .i64 t.n)).alloc (tmO t))) := Lib.hid (hT _ (((Below.refl _ w).setCell (p := ⟨bb, 4, none⟩) hn0 _).alloc (by simp [World.setCell]; omega) _))
  have HR : Hid (BareAt ((w.setCell ⟨bb, 4, none⟩ (.int .i64 t.n)).alloc (tmO t)) bb { b with n := t.n }) := Lib.hid ((hb.laidN t.n).alloc (tmO t))
  clear hT hb
  go_enter Tryz.func134, Tryz.ntmps134
  go_wp2_with fail
  all_goals go_ret
  all_goals exact ⟨ret_bool (by simp [*] <;> omega), HR.out, HK.out⟩
set_option maxHeartbeats 1000000 in
theorem comparesC_any (t b : Tm) (bb B n0 : Nat) (hcc : FitC t.c) (w : World) (hb : BareAt w bb b) (hB : w.cell? ⟨B, 0, none⟩ = some (.func (.func 93) #[] #[])) (hlt : B < w.heap.size) (hne : B ≠ bb) (hn0 : n0 ≤ bb) (hT : ∀ w', Below n0 w w' → Pv w') :
    Calls Tryz.prog 136 #[tma t, .pointer (some ⟨bb, 0, none⟩), .pointer (some ⟨B, 0, none⟩)] w (ExE w bb (flatN t.c) { b with c := t.c }) := by
  have hbl := hb.lt
  have HB : Hid (BareAt (w.alloc (tmO t)) bb b) := Lib.hid (hb.alloc (tmO t))
  have hne2 : ¬ bb = w.heap.size := by omega
  have hne3 : ¬ B = w.heap.size := by omega
  have hblk : ((w.alloc (tmO t)).setCells bb 5 (ndc t.c)).heap[w.heap.size]? = some (tmO t) := ((Kb.sets (B := w.heap.size + 1) (ndc t.c) 5 (Kb.refl _ bb (w.alloc (tmO t)))).block w.heap.size (by omega) (by omega)).trans (heap_alloc_new w _)
  have HCB : Hid (((w.alloc (tmO t)).setCells bb 5 (ndc t.c)).cell? ⟨B, 0, none⟩ = some (.func (.func 93) #[] #[])) := Lib.hid ((Kb.cell (B := w.heap.size) (p := ⟨B, 0, none⟩) (Kb.sets (ndc t.c) 5 ((Kb.refl _ bb w).alloc (Nat.le_refl _) _)) hlt hne).trans hB)
  have HC5 : Hid (∀ o, ((w.alloc (tmO t)).setCells bb 5 (ndc t.c)).cell? ⟨w.heap.size, o, none⟩ = (tmc t)[o]?) := Lib.hid (fun o => by rw [Lib.cell_of_heap hblk]; simp [tmc])
  clear hblk
  have HTH : Hid ((w.alloc (tmO t)).there bb 5 6) := Lib.hid (by
    intro j hj
    refine ⟨?_, BareC.fz HB.out _⟩
    rw [BareC.cell HB.out]
    match j, hj with
    | 0, _ => rfl
    | 1, _ => rfl
    | 2, _ => rfl
    | 3, _ => rfl
    | 4, _ => rfl
    | 5, _ => rfl)
  have HK : Hid (Kb w.heap.size bb w ((w.alloc (tmO t)).setCells bb 5 (ndc t.c))) := Lib.hid (Kb.sets _ _ ((Kb.refl _ _ w).alloc (Nat.le_refl _) _))
  have HTT : Hid (Pv ((w.alloc (tmO t)).setCells bb 5 (ndc t.c))) := Lib.hid (hT _ (Below.setCells hn0 _ _ ((Below.refl _ w).alloc (by omega) _)))
  have HR : Hid (BareAt ((w.alloc (tmO t)).setCells bb 5 (ndc t.c)) bb { b with c := t.c }) := Lib.hid (BareAt.laidC HB.out t.c)
  clear hT hb
  go_enter Tryz.func136, Tryz.ntmps136
  go_wp2_with (refine wpList_store_node rfl _ _ rfl bb 5 t.c rfl rfl HTH.out ?_; generalize (w.alloc (tmO t)).setCells bb 5 (ndc t.c) = W2 at HK HTT HR HCB HC5 ⊢; have q0 := HCB.out; have q5 := HC5.out 5; have q6 := HC5.out 6; have q7 := HC5.out 7; have q8 := HC5.out 8; have q9 := HC5.out 9; have q10 := HC5.out 10; simp only [tmc, List.getElem?_cons_succ, List.getElem?_cons_zero] at q5 q6 q7 q8 q9 q10)
  refine (isFlat_any _ _ hcc HTT.out.tabs).mono ?_
  rintro e w1 ⟨rfl, hb1⟩
  go_wp2_with fail
  go_ret
  exact ⟨rfl, BareC.below HR.out hb1, HK.out.trans (Kb.of (hb1.mono HK.out.size))⟩
end Go.Proofs.YtdgcdemihalefaaGreatDoor
namespace Go.Proofs.YtdgcdemihalefaaGreatDoor
open Go.RowKit Np Rw Vp Pw Fw
def ExV (W : World) (v : Value) : Ex → Prop
  | .utf => ∃ B, v = .func (.func 133) #[] #[.pointer (some ⟨B, 0, none⟩)] ∧ B < W.heap.size ∧ W.cell? ⟨B, 0, none⟩ = some (.func (.func 88) #[] #[])
  | .pth => ∃ B, v = .func (.func 133) #[] #[.pointer (some ⟨B, 0, none⟩)] ∧ B < W.heap.size ∧ W.cell? ⟨B, 0, none⟩ = some (.func (.func 91) #[] #[])
  | .num m => ∃ B, v = .func (.func 134) #[] #[.pointer (some ⟨B, 0, none⟩)] ∧ B < W.heap.size ∧ W.cell? ⟨B, 0, none⟩ = some (.int .i64 m)
  | .flt => ∃ B, v = .func (.func 136) #[] #[.pointer (some ⟨B, 0, none⟩)] ∧ B < W.heap.size ∧ W.cell? ⟨B, 0, none⟩ = some (.func (.func 93) #[] #[])
def ExRow (W : World) (v : Value) (L : List Ex) : Prop := ∃ vs : List Value, vs.length = L.length ∧ Row (fun x => [x]) 1 W v vs ∧ ∀ (k : Nat) (x : Value) (e : Ex), vs[k]? = some x → L[k]? = some e → ExV W x e
def ShE (w : World) (op : Int) (e : Ending) (w' : World) : Prop := ∃ (A : Option Addr) (c : Nat), e = .returned (.tuple #[.agg #[.int .i64 (leastM op), .int .i64 (mostM op), .slice A (exs op).length c], .bool (knownT op)]) ∧ ExRow w' (.slice A (exs op).length c) (exs op) ∧ Below w.heap.size w w'
theorem ExRow.nil (W : World) : ExRow W (.slice none 0 0) [] := ⟨[], rfl, Row.nil _, fun k x e h => by simp at h⟩
theorem ExV.below {W W' : World} {v : Value} {e : Ex} (h : ExV W v e) (hb : Below W.heap.size W W') : ExV W' v e := by
  cases e <;>
  · obtain ⟨B, h1, h2, h3⟩ := h
    exact ⟨B, h1, Nat.lt_of_lt_of_le h2 hb.size, (hb.cell (p := ⟨B, 0, none⟩) h2).trans h3⟩
theorem size3 (w : World) (a b : Obj) : ((w.alloc a).alloc b).heap.size = w.heap.size + 1 + 1 := by simp
theorem exrow_one (w : World) (o : Obj) (bx cl : Value) (T E : TypeId) (ex : Ex) (hcl : ∀ W : World, W.cell? ⟨w.heap.size + 1, 0, none⟩ = some bx → w.heap.size + 1 < W.heap.size → ExV W cl ex) :
    ExRow (((w.alloc o).alloc (.cells #[bx] T)).alloc (.cells #[cl] E)) (.slice (some ⟨w.heap.size + 1 + 1, 0, none⟩) 1 1) [ex] := by
  have hr := Row.lit vac_len ((w.alloc o).alloc (.cells #[bx] T)) E #[cl] [cl] (by show 1 ≤ maxLen; decide) rfl
  rw [size3] at hr
  refine ⟨[cl], rfl, hr, fun k x e hx he => ?_⟩
  match k, hx, he with
  | 0, hx, he =>
    simp at hx he
    subst hx he
    refine hcl _ ?_ (by simp)
    have h1 : ((w.alloc o).alloc (.cells #[bx] T)).heap[w.heap.size + 1]? = some (.cells #[bx] T (0, 0)) := by have := heap_alloc_new (w.alloc o) (.cells #[bx] T); rwa [World.size_alloc] at this
    have h2 := (Below.heap_alloc ((w.alloc o).alloc (.cells #[bx] T)) (.cells #[cl] E) (w.heap.size + 1) (by simp)).trans h1
    rw [Lib.cell_of_heap h2]; rfl
  | k + 1, hx, _ => simp at hx
theorem exrow_three (w : World) (o : Obj) (b1 b2 b3 c1 c2 c3 : Value) (T1 T2 T3 E : TypeId) (e1 e2 e3 : Ex)
    (h1 : ∀ W : World, W.cell? ⟨w.heap.size + 1, 0, none⟩ = some b1 → w.heap.size + 1 < W.heap.size → ExV W c1 e1)
    (h2 : ∀ W : World, W.cell? ⟨w.heap.size + 1 + 1, 0, none⟩ = some b2 → w.heap.size + 1 + 1 < W.heap.size → ExV W c2 e2)
    (h3 : ∀ W : World, W.cell? ⟨w.heap.size + 1 + 1 + 1, 0, none⟩ = some b3 → w.heap.size + 1 + 1 + 1 < W.heap.size → ExV W c3 e3) :
    ExRow (((((w.alloc o).alloc (.cells #[b1] T1)).alloc (.cells #[b2] T2)).alloc (.cells #[b3] T3)).alloc (.cells #[c1, c2, c3] E)) (.slice (some ⟨w.heap.size + 1 + 1 + 1 + 1, 0, none⟩) 3 3) [e1, e2, e3] := by
  have hr := Row.lit vac_len ((((w.alloc o).alloc (.cells #[b1] T1)).alloc (.cells #[b2] T2)).alloc (.cells #[b3] T3)) E #[c1, c2, c3] [c1, c2, c3] (by show 3 ≤ maxLen; decide) rfl
  have hs : ((((w.alloc o).alloc (.cells #[b1] T1)).alloc (.cells #[b2] T2)).alloc (.cells #[b3] T3)).heap.size = w.heap.size + 1 + 1 + 1 + 1 := by simp
  rw [hs] at hr
  have q1 : ((w.alloc o).alloc (.cells #[b1] T1)).heap[w.heap.size + 1]? = some (.cells #[b1] T1 (0, 0)) := by have := heap_alloc_new (w.alloc o) (.cells #[b1] T1); rwa [World.size_alloc] at this
  have q2 : (((w.alloc o).alloc (.cells #[b1] T1)).alloc (.cells #[b2] T2)).heap[w.heap.size + 1 + 1]? = some (.cells #[b2] T2 (0, 0)) := by have := heap_alloc_new ((w.alloc o).alloc (.cells #[b1] T1)) (.cells #[b2] T2); rwa [World.size_alloc, World.size_alloc] at this
  have q3 : ((((w.alloc o).alloc (.cells #[b1] T1)).alloc (.cells #[b2] T2)).alloc (.cells #[b3] T3)).heap[w.heap.size + 1 + 1 + 1]? = some (.cells #[b3] T3 (0, 0)) := by have := heap_alloc_new (((w.alloc o).alloc (.cells #[b1] T1)).alloc (.cells #[b2] T2)) (.cells #[b3] T3); rwa [World.size_alloc, World.size_alloc, World.size_alloc] at this
  refine ⟨[c1, c2, c3], rfl, hr, fun k x e hx he => ?_⟩
  match k, hx, he with
  | 0, hx, he =>
    simp at hx he
    subst hx he
    refine h1 _ ?_ (by simp <;> omega)
    rw [Lib.cell_of_heap ((Below.heap_alloc _ _ _ (by simp <;> omega)).trans ((Below.heap_alloc _ _ _ (by simp <;> omega)).trans ((Below.heap_alloc _ _ _ (by simp)).trans q1)))]; rfl
  | 1, hx, he =>
    simp at hx he
    subst hx he
    refine h2 _ ?_ (by simp <;> omega)
    rw [Lib.cell_of_heap ((Below.heap_alloc _ _ _ (by simp <;> omega)).trans ((Below.heap_alloc _ _ _ (by simp)).trans q2))]; rfl
  | 2, hx, he =>
    simp at hx he
    subst hx he
    refine h3 _ ?_ (by simp)
    rw [Lib.cell_of_heap ((Below.heap_alloc _ _ _ (by simp)).trans q3)]; rfl
  | k + 3, hx, _ => simp at hx
set_option maxRecDepth 100000 in
set_option maxHeartbeats 4000000 in
theorem shapeOf_any (op : Int) (w : World) : Calls Tryz.prog 57 #[.int .i64 op] w (ShE w op) := by
  have hB : Below w.heap.size w w := Below.refl _ _
  by_cases h : 0 ≤ op ∧ op ≤ 19
  · rcases op_cases h with rfl | rfl | rfl | rfl | rfl | rfl | rfl | rfl | rfl | rfl | rfl | rfl | rfl | rfl | rfl | rfl | rfl | rfl | rfl | rfl
    · clear h
      go_enter Tryz.func57, Tryz.ntmps57
      go_wp2_with (first
      | (go_at_call 89; refine (says_any _ _).mono ?_; rintro e w1 ⟨rfl, rfl⟩)
      | (go_at_call 90; refine (counts_any _ _).mono ?_; rintro e w1 ⟨rfl, rfl⟩)
      | (go_at_call 92; refine (compares_any _ _).mono ?_; rintro e w1 ⟨rfl, rfl⟩))
      refine bodyPost_ret (v := .tuple #[.agg #[.int .i64 (leastM 0), .int .i64 (mostM 0), .slice none (exs 0).length 0], .bool (knownT 0)]) (by simp [results, Tryz.results57, go_sem, leastM, mostM, knownT, exs]) rfl ⟨_, _, rfl, ?_, ?_⟩
      · exact ExRow.nil _
      · exact hB.alloc (Nat.le_refl _) _
    · clear h
      go_enter Tryz.func57, Tryz.ntmps57
      go_wp2_with (first
      | (go_at_call 89; refine (says_any _ _).mono ?_; rintro e w1 ⟨rfl, rfl⟩)
      | (go_at_call 90; refine (counts_any _ _).mono ?_; rintro e w1 ⟨rfl, rfl⟩)
      | (go_at_call 92; refine (compares_any _ _).mono ?_; rintro e w1 ⟨rfl, rfl⟩))
      refine bodyPost_ret (v := .tuple #[.agg #[.int .i64 (leastM 1), .int .i64 (mostM 1), .slice (some ⟨w.heap.size + 1 + 1, 0, none⟩) (exs 1).length 1], .bool (knownT 1)]) (by simp [results, Tryz.results57, go_sem, leastM, mostM, knownT, exs]) rfl ⟨_, _, rfl, ?_, ?_⟩
      · exact exrow_one w _ _ _ _ _ _ (fun W h1 h2 => ⟨_, rfl, h2, h1⟩)
      · exact ((hB.alloc (Nat.le_refl _) _).alloc (by simp) _).alloc (by simp <;> omega) _
    · clear h
      go_enter Tryz.func57, Tryz.ntmps57
      go_wp2_with (first
      | (go_at_call 89; refine (says_any _ _).mono ?_; rintro e w1 ⟨rfl, rfl⟩)
      | (go_at_call 90; refine (counts_any _ _).mono ?_; rintro e w1 ⟨rfl, rfl⟩)
      | (go_at_call 92; refine (compares_any _ _).mono ?_; rintro e w1 ⟨rfl, rfl⟩))
      refine bodyPost_ret (v := .tuple #[.agg #[.int .i64 (leastM 2), .int .i64 (mostM 2), .slice (some ⟨w.heap.size + 1 + 1, 0, none⟩) (exs 2).length 1], .bool (knownT 2)]) (by simp [results, Tryz.results57, go_sem, leastM, mostM, knownT, exs]) rfl ⟨_, _, rfl, ?_, ?_⟩
      · exact exrow_one w _ _ _ _ _ _ (fun W h1 h2 => ⟨_, rfl, h2, h1⟩)
      · exact ((hB.alloc (Nat.le_refl _) _).alloc (by simp) _).alloc (by simp <;> omega) _
    · clear h
      go_enter Tryz.func57, Tryz.ntmps57
      go_wp2_with (first
      | (go_at_call 89; refine (says_any _ _).mono ?_; rintro e w1 ⟨rfl, rfl⟩)
      | (go_at_call 90; refine (counts_any _ _).mono ?_; rintro e w1 ⟨rfl, rfl⟩)
      | (go_at_call 92; refine (compares_any _ _).mono ?_; rintro e w1 ⟨rfl, rfl⟩))
      refine bodyPost_ret (v := .tuple #[.agg #[.int .i64 (leastM 3), .int .i64 (mostM 3), .slice (some ⟨w.heap.size + 1 + 1, 0, none⟩) (exs 3).length 1], .bool (knownT 3)]) (by simp [results, Tryz.results57, go_sem, leastM, mostM, knownT, exs]) rfl ⟨_, _, rfl, ?_, ?_⟩
      · exact exrow_one w _ _ _ _ _ _ (fun W h1 h2 => ⟨_, rfl, h2, h1⟩)
      · exact ((hB.alloc (Nat.le_refl _) _).alloc (by simp) _).alloc (by simp <;> omega) _
    · clear h
      go_enter Tryz.func57, Tryz.ntmps57
      go_wp2_with (first
      | (go_at_call 89; refine (says_any _ _).mono ?_; rintro e w1 ⟨rfl, rfl⟩)
      | (go_at_call 90; refine (counts_any _ _).mono ?_; rintro e w1 ⟨rfl, rfl⟩)
      | (go_at_call 92; refine (compares_any _ _).mono ?_; rintro e w1 ⟨rfl, rfl⟩))
      refine bodyPost_ret (v := .tuple #[.agg #[.int .i64 (leastM 4), .int .i64 (mostM 4), .slice none (exs 4).length 0], .bool (knownT 4)]) (by simp [results, Tryz.results57, go_sem, leastM, mostM, knownT, exs]) rfl ⟨_, _, rfl, ?_, ?_⟩
      · exact ExRow.nil _
      · exact hB.alloc (Nat.le_refl _) _
    · clear h
      go_enter Tryz.func57, Tryz.ntmps57
      go_wp2_with (first
      | (go_at_call 89; refine (says_any _ _).mono ?_; rintro e w1 ⟨rfl, rfl⟩)
      | (go_at_call 90; refine (counts_any _ _).mono ?_; rintro e w1 ⟨rfl, rfl⟩)
      | (go_at_call 92; refine (compares_any _ _).mono ?_; rintro e w1 ⟨rfl, rfl⟩))
      refine bodyPost_ret (v := .tuple #[.agg #[.int .i64 (leastM 5), .int .i64 (mostM 5), .slice none (exs 5).length 0], .bool (knownT 5)]) (by simp [results, Tryz.results57, go_sem, leastM, mostM, knownT, exs]) rfl ⟨_, _, rfl, ?_, ?_⟩
      · exact ExRow.nil _
      · exact hB.alloc (Nat.le_refl _) _
    · clear h
      go_enter Tryz.func57, Tryz.ntmps57
      go_wp2_with (first
      | (go_at_call 89; refine (says_any _ _).mono ?_; rintro e w1 ⟨rfl, rfl⟩)
      | (go_at_call 90; refine (counts_any _ _).mono ?_; rintro e w1 ⟨rfl, rfl⟩)
      | (go_at_call 92; refine (compares_any _ _).mono ?_; rintro e w1 ⟨rfl, rfl⟩))
      refine bodyPost_ret (v := .tuple #[.agg #[.int .i64 (leastM 6), .int .i64 (mostM 6), .slice none (exs 6).length 0], .bool (knownT 6)]) (by simp [results, Tryz.results57, go_sem, leastM, mostM, knownT, exs]) rfl ⟨_, _, rfl, ?_, ?_⟩
      · exact ExRow.nil _
      · exact hB.alloc (Nat.le_refl _) _
    · clear h
      go_enter Tryz.func57, Tryz.ntmps57
      go_wp2_with (first
      | (go_at_call 89; refine (says_any _ _).mono ?_; rintro e w1 ⟨rfl, rfl⟩)
      | (go_at_call 90; refine (counts_any _ _).mono ?_; rintro e w1 ⟨rfl, rfl⟩)
      | (go_at_call 92; refine (compares_any _ _).mono ?_; rintro e w1 ⟨rfl, rfl⟩))
      refine bodyPost_ret (v := .tuple #[.agg #[.int .i64 (leastM 7), .int .i64 (mostM 7), .slice none (exs 7).length 0], .bool (knownT 7)]) (by simp [results, Tryz.results57, go_sem, leastM, mostM, knownT, exs]) rfl ⟨_, _, rfl, ?_, ?_⟩
      · exact ExRow.nil _
      · exact hB.alloc (Nat.le_refl _) _
    · clear h
      go_enter Tryz.func57, Tryz.ntmps57
      go_wp2_with (first
      | (go_at_call 89; refine (says_any _ _).mono ?_; rintro e w1 ⟨rfl, rfl⟩)
      | (go_at_call 90; refine (counts_any _ _).mono ?_; rintro e w1 ⟨rfl, rfl⟩)
      | (go_at_call 92; refine (compares_any _ _).mono ?_; rintro e w1 ⟨rfl, rfl⟩))
      refine bodyPost_ret (v := .tuple #[.agg #[.int .i64 (leastM 8), .int .i64 (mostM 8), .slice none (exs 8).length 0], .bool (knownT 8)]) (by simp [results, Tryz.results57, go_sem, leastM, mostM, knownT, exs]) rfl ⟨_, _, rfl, ?_, ?_⟩
      · exact ExRow.nil _
      · exact hB.alloc (Nat.le_refl _) _
    · clear h
      go_enter Tryz.func57, Tryz.ntmps57
      go_wp2_with (first
      | (go_at_call 89; refine (says_any _ _).mono ?_; rintro e w1 ⟨rfl, rfl⟩)
      | (go_at_call 90; refine (counts_any _ _).mono ?_; rintro e w1 ⟨rfl, rfl⟩)
      | (go_at_call 92; refine (compares_any _ _).mono ?_; rintro e w1 ⟨rfl, rfl⟩))
      refine bodyPost_ret (v := .tuple #[.agg #[.int .i64 (leastM 9), .int .i64 (mostM 9), .slice none (exs 9).length 0], .bool (knownT 9)]) (by simp [results, Tryz.results57, go_sem, leastM, mostM, knownT, exs]) rfl ⟨_, _, rfl, ?_, ?_⟩
      · exact ExRow.nil _
      · exact hB.alloc (Nat.le_refl _) _
    · clear h
      go_enter Tryz.func57, Tryz.ntmps57
      go_wp2_with (first
      | (go_at_call 89; refine (says_any _ _).mono ?_; rintro e w1 ⟨rfl, rfl⟩)
      | (go_at_call 90; refine (counts_any _ _).mono ?_; rintro e w1 ⟨rfl, rfl⟩)
      | (go_at_call 92; refine (compares_any _ _).mono ?_; rintro e w1 ⟨rfl, rfl⟩))
      refine bodyPost_ret (v := .tuple #[.agg #[.int .i64 (leastM 10), .int .i64 (mostM 10), .slice none (exs 10).length 0], .bool (knownT 10)]) (by simp [results, Tryz.results57, go_sem, leastM, mostM, knownT, exs]) rfl ⟨_, _, rfl, ?_, ?_⟩
      · exact ExRow.nil _
      · exact hB.alloc (Nat.le_refl _) _
    · clear h
      go_enter Tryz.func57, Tryz.ntmps57
      go_wp2_with (first
      | (go_at_call 89; refine (says_any _ _).mono ?_; rintro e w1 ⟨rfl, rfl⟩)
      | (go_at_call 90; refine (counts_any _ _).mono ?_; rintro e w1 ⟨rfl, rfl⟩)
      | (go_at_call 92; refine (compares_any _ _).mono ?_; rintro e w1 ⟨rfl, rfl⟩))
      refine bodyPost_ret (v := .tuple #[.agg #[.int .i64 (leastM 11), .int .i64 (mostM 11), .slice none (exs 11).length 0], .bool (knownT 11)]) (by simp [results, Tryz.results57, go_sem, leastM, mostM, knownT, exs]) rfl ⟨_, _, rfl, ?_, ?_⟩
      · exact ExRow.nil _
      · exact hB.alloc (Nat.le_refl _) _
    · clear h
      go_enter Tryz.func57, Tryz.ntmps57
      go_wp2_with (first
      | (go_at_call 89; refine (says_any _ _).mono ?_; rintro e w1 ⟨rfl, rfl⟩)
      | (go_at_call 90; refine (counts_any _ _).mono ?_; rintro e w1 ⟨rfl, rfl⟩)
      | (go_at_call 92; refine (compares_any _ _).mono ?_; rintro e w1 ⟨rfl, rfl⟩))
      refine bodyPost_ret (v := .tuple #[.agg #[.int .i64 (leastM 12), .int .i64 (mostM 12), .slice (some ⟨w.heap.size + 1 + 1, 0, none⟩) (exs 12).length 1], .bool (knownT 12)]) (by simp [results, Tryz.results57, go_sem, leastM, mostM, knownT, exs]) rfl ⟨_, _, rfl, ?_, ?_⟩
      · exact exrow_one w _ _ _ _ _ _ (fun W h1 h2 => ⟨_, rfl, h2, h1⟩)
      · exact ((hB.alloc (Nat.le_refl _) _).alloc (by simp) _).alloc (by simp <;> omega) _
    · clear h
      go_enter Tryz.func57, Tryz.ntmps57
      go_wp2_with (first
      | (go_at_call 89; refine (says_any _ _).mono ?_; rintro e w1 ⟨rfl, rfl⟩)
      | (go_at_call 90; refine (counts_any _ _).mono ?_; rintro e w1 ⟨rfl, rfl⟩)
      | (go_at_call 92; refine (compares_any _ _).mono ?_; rintro e w1 ⟨rfl, rfl⟩))
      refine bodyPost_ret (v := .tuple #[.agg #[.int .i64 (leastM 13), .int .i64 (mostM 13), .slice (some ⟨w.heap.size + 1 + 1, 0, none⟩) (exs 13).length 1], .bool (knownT 13)]) (by simp [results, Tryz.results57, go_sem, leastM, mostM, knownT, exs]) rfl ⟨_, _, rfl, ?_, ?_⟩
      · exact exrow_one w _ _ _ _ _ _ (fun W h1 h2 => ⟨_, rfl, h2, h1⟩)
      · exact ((hB.alloc (Nat.le_refl _) _).alloc (by simp) _).alloc (by simp <;> omega) _
    · clear h
      go_enter Tryz.func57, Tryz.ntmps57
      go_wp2_with (first
      | (go_at_call 89; refine (says_any _ _).mono ?_; rintro e w1 ⟨rfl, rfl⟩)
      | (go_at_call 90; refine (counts_any _ _).mono ?_; rintro e w1 ⟨rfl, rfl⟩)
      | (go_at_call 92; refine (compares_any _ _).mono ?_; rintro e w1 ⟨rfl, rfl⟩))
      refine bodyPost_ret (v := .tuple #[.agg #[.int .i64 (leastM 14), .int .i64 (mostM 14), .slice none (exs 14).length 0], .bool (knownT 14)]) (by simp [results, Tryz.results57, go_sem, leastM, mostM, knownT, exs]) rfl ⟨_, _, rfl, ?_, ?_⟩
      · exact ExRow.nil _
      · exact hB.alloc (Nat.le_refl _) _
    · clear h
      go_enter Tryz.func57, Tryz.ntmps57
      go_wp2_with (first
      | (go_at_call 89; refine (says_any _ _).mono ?_; rintro e w1 ⟨rfl, rfl⟩)
      | (go_at_call 90; refine (counts_any _ _).mono ?_; rintro e w1 ⟨rfl, rfl⟩)
      | (go_at_call 92; refine (compares_any _ _).mono ?_; rintro e w1 ⟨rfl, rfl⟩))
      refine bodyPost_ret (v := .tuple #[.agg #[.int .i64 (leastM 15), .int .i64 (mostM 15), .slice (some ⟨w.heap.size + 1 + 1, 0, none⟩) (exs 15).length 1], .bool (knownT 15)]) (by simp [results, Tryz.results57, go_sem, leastM, mostM, knownT, exs]) rfl ⟨_, _, rfl, ?_, ?_⟩
      · exact exrow_one w _ _ _ _ _ _ (fun W h1 h2 => ⟨_, rfl, h2, h1⟩)
      · exact ((hB.alloc (Nat.le_refl _) _).alloc (by simp) _).alloc (by simp <;> omega) _
    · clear h
      go_enter Tryz.func57, Tryz.ntmps57
      go_wp2_with (first
      | (go_at_call 89; refine (says_any _ _).mono ?_; rintro e w1 ⟨rfl, rfl⟩)
      | (go_at_call 90; refine (counts_any _ _).mono ?_; rintro e w1 ⟨rfl, rfl⟩)
      | (go_at_call 92; refine (compares_any _ _).mono ?_; rintro e w1 ⟨rfl, rfl⟩))
      refine bodyPost_ret (v := .tuple #[.agg #[.int .i64 (leastM 16), .int .i64 (mostM 16), .slice (some ⟨w.heap.size + 1 + 1 + 1 + 1, 0, none⟩) (exs 16).length 3], .bool (knownT 16)]) (by simp [results, Tryz.results57, go_sem, leastM, mostM, knownT, exs]) rfl ⟨_, _, rfl, ?_, ?_⟩
      · exact exrow_three w _ _ _ _ _ _ _ _ _ _ _ _ _ _ (fun W h1 h2 => ⟨_, rfl, h2, h1⟩) (fun W h1 h2 => ⟨_, rfl, h2, h1⟩) (fun W h1 h2 => ⟨_, rfl, h2, h1⟩)
      · exact ((((hB.alloc (Nat.le_refl _) _).alloc (by simp) _).alloc (by simp <;> omega) _).alloc (by simp <;> omega) _).alloc (by simp <;> omega) _
    · clear h
      go_enter Tryz.func57, Tryz.ntmps57
      go_wp2_with (first
      | (go_at_call 89; refine (says_any _ _).mono ?_; rintro e w1 ⟨rfl, rfl⟩)
      | (go_at_call 90; refine (counts_any _ _).mono ?_; rintro e w1 ⟨rfl, rfl⟩)
      | (go_at_call 92; refine (compares_any _ _).mono ?_; rintro e w1 ⟨rfl, rfl⟩))
      refine bodyPost_ret (v := .tuple #[.agg #[.int .i64 (leastM 17), .int .i64 (mostM 17), .slice none (exs 17).length 0], .bool (knownT 17)]) (by simp [results, Tryz.results57, go_sem, leastM, mostM, knownT, exs]) rfl ⟨_, _, rfl, ?_, ?_⟩
      · exact ExRow.nil _
      · exact hB.alloc (Nat.le_refl _) _
    · clear h
      go_enter Tryz.func57, Tryz.ntmps57
      go_wp2_with (first
      | (go_at_call 89; refine (says_any _ _).mono ?_; rintro e w1 ⟨rfl, rfl⟩)
      | (go_at_call 90; refine (counts_any _ _).mono ?_; rintro e w1 ⟨rfl, rfl⟩)
      | (go_at_call 92; refine (compares_any _ _).mono ?_; rintro e w1 ⟨rfl, rfl⟩))
      refine bodyPost_ret (v := .tuple #[.agg #[.int .i64 (leastM 18), .int .i64 (mostM 18), .slice none (exs 18).length 0], .bool (knownT 18)]) (by simp [results, Tryz.results57, go_sem, leastM, mostM, knownT, exs]) rfl ⟨_, _, rfl, ?_, ?_⟩
      · exact ExRow.nil _
      · exact hB.alloc (Nat.le_refl _) _
    · clear h
      go_enter Tryz.func57, Tryz.ntmps57
      go_wp2_with (first
      | (go_at_call 89; refine (says_any _ _).mono ?_; rintro e w1 ⟨rfl, rfl⟩)
      | (go_at_call 90; refine (counts_any _ _).mono ?_; rintro e w1 ⟨rfl, rfl⟩)
      | (go_at_call 92; refine (compares_any _ _).mono ?_; rintro e w1 ⟨rfl, rfl⟩))
      refine bodyPost_ret (v := .tuple #[.agg #[.int .i64 (leastM 19), .int .i64 (mostM 19), .slice none (exs 19).length 0], .bool (knownT 19)]) (by simp [results, Tryz.results57, go_sem, leastM, mostM, knownT, exs]) rfl ⟨_, _, rfl, ?_, ?_⟩
      · exact ExRow.nil _
      · exact hB.alloc (Nat.le_refl _) _
  · have HK : Hid (knownT op = false ∧ leastM op = 0 ∧ mostM op = 0 ∧ exs op = []) := Lib.hid (by
      refine ⟨by unfold knownT; simpa using h, ?_, ?_, ?_⟩
      · unfold leastM; rw [if_neg (by omega), if_neg (by omega)]
      · unfold mostM; rw [if_neg (by omega), if_neg (by omega), if_neg (by omega)]
      · unfold exs; rw [if_neg (by omega), if_neg (by omega), if_neg (by omega), if_neg (by omega)])
    have e0 : (op == 0) = false := by simp; omega
    have e1 : (op == 1) = false := by simp; omega
    have e2 : (op == 2) = false := by simp; omega
    have e3 : (op == 3) = false := by simp; omega
    have e4 : (op == 4) = false := by simp; omega
    have e5 : (op == 5) = false := by simp; omega
    have e6 : (op == 6) = false := by simp; omega
    have e7 : (op == 7) = false := by simp; omega
    have e8 : (op == 8) = false := by simp; omega
    have e9 : (op == 9) = false := by simp; omega
    have e10 : (op == 10) = false := by simp; omega
    have e11 : (op == 11) = false := by simp; omega
    have e12 : (op == 12) = false := by simp; omega
    have e13 : (op == 13) = false := by simp; omega
    have e14 : (op == 14) = false := by simp; omega
    have e15 : (op == 15) = false := by simp; omega
    have e16 : (op == 16) = false := by simp; omega
    have e17 : (op == 17) = false := by simp; omega
    have e18 : (op == 18) = false := by simp; omega
    have e19 : (op == 19) = false := by simp; omega
    clear h
    go_enter Tryz.func57, Tryz.ntmps57
    go_wp2_with fail
    obtain ⟨k1, k2, k3, k4⟩ := HK.out
    refine bodyPost_ret (v := .tuple #[.agg #[.int .i64 0, .int .i64 0, .slice none 0 0], .bool false]) (by simp [results, Tryz.results57, go_sem]) rfl ?_
    exact ⟨none, 0, by rw [k1, k2, k3, k4]; rfl, by rw [k4]; exact ExRow.nil _, hB.alloc (Nat.le_refl _) _⟩
end Go.Proofs.YtdgcdemihalefaaGreatDoor
namespace Go.Proofs.YtdgcdemihalefaaGreatDoor
open Go.RowKit Go.Maps Np Rw Vp Pw Fw
abbrev OwnHp (base : Nat) (w : World) (v : Value) (l : List Hp) : Prop := Own hpc 3 55 base w v l
theorem fholder_info : (Tryz.prog.info? 55).map (fun i => (i.zero, i.size, i.bytes)) = some (some (.agg #[.int .i64 0, .int .i64 0, .map none]), 3, 24) := by kernel_rfl
theorem elHp : Elem Tryz.prog 51 55 hpc 3 24 := by
  obtain ⟨i, hi, hz0, hz1, hz2⟩ := info_parts fholder_info
  refine ⟨Tryz.underlying51, ⟨i, _, hi, hz0, hz1, hz2, rfl⟩, by decide, hpc_len, fun n u hu => ?_⟩
  simp only [hpc, List.mem_cons, List.not_mem_nil, or_false] at hu
  rcases hu with rfl | rfl | rfl <;> rfl
structure HMs (base : Nat) (w : World) (st : List Hp) : Prop where
  maps : ∀ x ∈ st, HMap w x
  high : ∀ x ∈ st, ∀ m, x.b = some m → base ≤ m
  apart : (st.filterMap Hp.b).Nodup
theorem HMs.below {base : Nat} {w w' : World} {st : List Hp} (h : HMs base w st) (hb : Below w.heap.size w w') : HMs base w' st := ⟨fun x hx => (h.maps x hx).below hb, h.high, h.apart⟩
theorem HMap.same {w w' : World} {x : Hp} (h : HMap w x) (hk : ∀ m, x.b = some m → w'.heap[m]? = w.heap[m]?) : HMap w' x := by
  unfold HMap at *
  split
  · rename_i h8
    rw [if_pos h8] at h
    obtain ⟨m, h1, h2⟩ := h
    exact ⟨m, h1, h2.same (hk m h1)⟩
  · rename_i h8
    rwa [if_neg h8] at h
theorem HMap.lt {w : World} {x : Hp} (h : HMap w x) {m : Nat} (hm : x.b = some m) : m < w.heap.size := by
  unfold HMap at h
  split at h
  · obtain ⟨m', h1, h2⟩ := h
    rw [hm] at h1
    injection h1 with h1
    subst h1
    exact h2.lt
  · rw [hm] at h; cases h
def OwnsHp (base : Nat) (w : World) (st : List Hf) (e : Ending) (w' : World) : Prop := ∃ v' l, e = .returned v' ∧ OwnHp base w' v' l ∧ HMs base w' l ∧ l.map Hp.h = st ∧ Below base w w'
theorem fbegin_any (w : World) : Calls Tryz.prog 26 #[] w (OwnsHp w.heap.size w startF) := by
  go_enter Tryz.func26, Tryz.ntmps26
  go_wp2
  go_ret
  refine ⟨_, [⟨⟨9, 1, []⟩, none⟩], rfl, Own.lit hpc_len w #[.int .i64 9, .int .i64 1, .map none] [⟨⟨9, 1, []⟩, none⟩] (Nat.le_refl _) (by decide) rfl, ⟨fun x hx => ?_, fun x hx m hm => ?_, by simp⟩, rfl, (Below.refl _ _).alloc (Nat.le_refl _) _⟩
  · simp at hx; subst hx; unfold HMap; rw [if_neg (by decide)]
  · simp at hx; subst hx; cases hm
def WiE (w : World) (t : Tm) (e : Ending) (w' : World) : Prop := ∃ x : Hp, e = .returned (hpa x) ∧ x.h = ⟨t.op, t.many, []⟩ ∧ HMap w' x ∧ (∀ m, x.b = some m → w.heap.size ≤ m) ∧ Below w.heap.size w w'
theorem nmap_new (W : World) {n : Nat} (hn : W.heap.size = n) : NMap (W.alloc (.map #[] 0)) n [] := by
  subst hn
  exact ⟨0, fun _ => none, ⟨.map [], World.ownsMap_made W _ _ _, ⟨_, rfl⟩, fun r => ⟨rfl, fun v h => by cases h⟩⟩, Nat.zero_le _, fun r => by simp⟩
set_option maxHeartbeats 1000000 in
theorem within_any (t : Tm) (w : World) : Calls Tryz.prog 58 #[tma t] w (WiE w t) := by
  have hB : Below w.heap.size w w := Below.refl _ _
  by_cases h8 : t.op = 8
  · have hmm := @run_makeMap Tryz.prog
    have e8 : (t.op == 8) = true := by simp [h8]
    go_enter Tryz.func58, Tryz.ntmps58
    go_wp2_with fail
    refine bodyPost_ret (v := hpa ⟨⟨8, t.many, []⟩, some (w.heap.size + 1 + 1 + 1)⟩) (by simp [results, Tryz.results58, go_sem]) rfl ⟨⟨⟨8, t.many, []⟩, some (w.heap.size + 1 + 1 + 1)⟩, rfl, by rw [h8], ?_, ?_, ?_⟩
    · unfold HMap
      rw [if_pos rfl]
      exact ⟨_, rfl, nmap_new _ (by simp)⟩
    · intro m hm; injection hm with hm; omega
    · exact (((hB.alloc (Nat.le_refl _) _).alloc (by simp) _).alloc (by simp <;> omega) _).alloc (by simp <;> omega) _
  · have e8 : (t.op == 8) = false := by simp [h8]
    go_enter Tryz.func58, Tryz.ntmps58
    go_wp2_with fail
    refine bodyPost_ret (v := hpa ⟨⟨t.op, t.many, []⟩, none⟩) (by simp [results, Tryz.results58, go_sem]) rfl ⟨⟨⟨t.op, t.many, []⟩, none⟩, rfl, rfl, ?_, ?_, ?_⟩
    · unfold HMap; rw [if_neg h8]
    · intro m hm; cases hm
    · exact ((hB.alloc (Nat.le_refl _) _).alloc (by simp) _).alloc (by simp <;> omega) _
theorem popF_snoc (st : List Hf) (h : Hf) (h0 : h.left = 0) : (popF (h :: st.reverse)).reverse = (popF st.reverse).reverse := by rw [popF, if_pos h0]
theorem popF_stop (st : List Hf) (h : Hf) (h0 : h.left ≠ 0) : (popF (h :: st.reverse)).reverse = st ++ [h] := by rw [popF, if_neg h0]; simp
def stepHp (x : Hp) (t : Tm) : Hp := ⟨stepF x.h t, x.b⟩
theorem HMs.cells {base : Nat} {w : World} {st : List Hp} (h : HMs base w st) {g T : Nat} {cs : Array Value} {fz : Nat × Nat} (hg : w.heap[g]? = some (.cells cs T fz)) (o : Nat) (u : Value) : HMs base (w.setCell ⟨g, o, none⟩ u) st := by
  refine ⟨fun x hx => (h.maps x hx).same (fun m hm => Below.heap_setCell w ⟨g, o, none⟩ u m ?_), h.high, h.apart⟩
  rintro rfl
  have h1 := h.maps x hx
  unfold HMap at h1
  split at h1
  · obtain ⟨m', e1, n, f, hsm, -, -⟩ := h1
    rw [hm] at e1
    injection e1 with e1
    subst e1
    exact hsm.ne hg rfl
  · rw [hm] at h1; cases h1
theorem HMs.step0 {base : Nat} {w : World} {pre : List Hp} {x : Hp} (h : HMs base w (pre ++ [x])) (t : Tm) (h8 : x.h.op ≠ 8) : HMs base w (pre ++ [stepHp x t]) := by
  refine ⟨fun y hy => ?_, fun y hy m hm => ?_, ?_⟩
  · rcases List.mem_append.1 hy with hy | hy
    · exact h.maps y (by simp [hy])
    · simp at hy; subst hy
      have h1 := h.maps x (by simp)
      unfold HMap at h1 ⊢
      rw [if_neg h8] at h1
      rw [if_neg (by exact h8)]
      exact h1
  · rcases List.mem_append.1 hy with hy | hy
    · exact h.high y (by simp [hy]) m hm
    · simp at hy; subst hy
      exact h.high x (by simp) m hm
  · have := h.apart
    rw [List.filterMap_append] at this ⊢
    exact this
theorem HMs.step8 {base : Nat} {w w' : World} {pre : List Hp} {x : Hp} {m : Nat} (h : HMs base w (pre ++ [x])) (t : Tm) (h8 : x.h.op = 8) (hb : x.b = some m) (hg : w.grownBy w' (some m)) (hn : NMap w' m (x.h.ahead ++ [t.name])) : HMs base w' (pre ++ [stepHp x t]) := by
  refine ⟨fun y hy => ?_, fun y hy k hk => ?_, ?_⟩
  · rcases List.mem_append.1 hy with hy | hy
    · have h1 := h.maps y (by simp [hy])
      refine h1.same (fun k hk => hg.block k (h1.lt hk) (fun e => ?_))
      injection e with e
      subst e
      have h2 := h.apart
      rw [List.filterMap_append, List.nodup_append] at h2
      exact h2.2.2 k (List.mem_filterMap.2 ⟨y, hy, hk⟩) k (by simp [hb]) rfl
    · simp at hy; subst hy
      unfold HMap
      rw [if_pos (by exact h8)]
      exact ⟨m, hb, hn⟩
  · rcases List.mem_append.1 hy with hy | hy
    · exact h.high y (by simp [hy]) k hk
    · simp at hy; subst hy
      exact h.high x (by simp) k hk
  · have := h.apart
    rw [List.filterMap_append] at this ⊢
    exact this
theorem HMs.grown {base b2 : Nat} {w w' : World} {st l : List Hp} {v : Value} (h : HMs base w st) (ho : OwnHp b2 w v l) (hg : w.grownBy w' v.ownBlock) : HMs base w' st := by
  refine ⟨fun x hx => (h.maps x hx).same (fun m hm => hg.block m ((h.maps x hx).lt hm) ?_), h.high, h.apart⟩
  have h1 := h.maps x hx
  unfold HMap at h1
  split at h1
  · obtain ⟨m', e1, n, f, hsm, -, -⟩ := h1
    rw [hm] at e1
    injection e1 with e1
    subst e1
    obtain ⟨es, clock, hbk⟩ := hsm.blk
    exact fun e => ho.ne_map hbk e.symm
  · rw [hm] at h1; cases h1
theorem HMs.push {base : Nat} {w w' : World} {st : List Hp} {y : Hp} (h : HMs base w st) (hb : Below w.heap.size w w') (hy : HMap w' y) (hh : ∀ m, y.b = some m → w.heap.size ≤ m) (hbs : base ≤ w.heap.size) : HMs base w' (st ++ [y]) := by
  have h' := h.below hb
  refine ⟨fun z hz => ?_, fun z hz m hm => ?_, ?_⟩
  · rcases List.mem_append.1 hz with hz | hz
    · exact h'.maps z hz
    · simp at hz; subst hz; exact hy
  · rcases List.mem_append.1 hz with hz | hz
    · exact h.high z hz m hm
    · simp at hz; subst hz; exact Nat.le_trans hbs (hh m hm)
  · rw [List.filterMap_append, List.nodup_append]
    refine ⟨h.apart, ?_, fun a ha b hb2 => ?_⟩
    · cases hyb : y.b <;> simp [hyb]
    · obtain ⟨z, hz, hza⟩ := List.mem_filterMap.1 ha
      have h1 := (h.maps z hz).lt hza
      obtain ⟨z2, hz2, hzb⟩ := List.mem_filterMap.1 hb2
      simp at hz2
      subst hz2
      have := hh b hzb
      omega
theorem HMs.front {base : Nat} {w : World} {st : List Hp} {y : Hp} (h : HMs base w (st ++ [y])) : HMs base w st := by
  refine ⟨fun x hx => h.maps x (by simp [hx]), fun x hx => h.high x (by simp [hx]), ?_⟩
  have := h.apart
  rw [List.filterMap_append, List.nodup_append] at this
  exact this.1
theorem i64_wf63 {x : Int} (h0 : 0 ≤ x) (h1 : x ≤ 9223372036854775807) : (Lit.int .i64 x).wf = true := by
  simp only [Lit.wf, IntKind.min, IntKind.max, IntKind.signed, IntKind.bits, Bool.and_eq_true, decide_eq_true_eq, if_true]
  omega
set_option maxRecDepth 100000 in
set_option maxHeartbeats 4000000 in
theorem fpass_any (v : Value) (pre : List Hp) (x : Hp) (t : Tm) (w : World) (base : Nat) (hown : OwnHp base w v (pre ++ [x])) (hM : HMs base w (pre ++ [x])) (hb : base ≤ w.heap.size) (hlen : pre.length ≤ 65536) (hl1 : 1 ≤ x.h.left) (hl2 : x.h.left ≤ 9223372036854775807) (hs : t.name.length ≤ 1000000) (hah : x.h.ahead.length ≤ 65536) :
    Calls Tryz.prog 29 #[v, tma t] w (OwnsHp base w (passF ((pre ++ [x]).map Hp.h).reverse t).reverse) := by
  obtain ⟨g, cap, hv, hg, hglt⟩ := hown.opened (by simp)
  subst hv
  have HO := Lib.hid hown
  have HM := Lib.hid hM
  have hat : (pre ++ [x])[pre.length]? = some x := by simp
  have k1 := Own.cell hpc_len (j := 1) HO.out hat rfl
  have k2 := Own.cell hpc_len (j := 2) HO.out hat rfl
  have f1 := HO.out.free (pre.length * 3 + 1)
  have HP1 : Hid (OwnHp base (w.setCell ⟨g, pre.length * 3 + 1, none⟩ (.int .i64 (x.h.left - 1))) (.slice (some ⟨g, 0, none⟩) (pre.length + 1) cap) (pre ++ [stepHp x t])) := Lib.hid (by
    have := Own.put hpc_len (j := 1) (y := stepHp x t) (u := .int .i64 (x.h.left - 1)) HO.out hat (by decide) rfl
    rw [show (pre ++ [x]).set pre.length (stepHp x t) = pre ++ [stepHp x t] by simp [List.set_append_right]] at this
    simpa using this)
  clear hat hown hM
  have hpl : (pre ++ [x]).length = pre.length + 1 := by simp
  rw [hpl] at *
  have HLN : Hid ((pre ++ [stepHp x t]).length = pre.length + 1) := Lib.hid (by simp)
  have hblk : ∃ cs fz, w.heap[g]? = some (.cells cs 55 fz) := by
    rcases HO.out.2 with ⟨h, _⟩ | ⟨g', cap', cur, h, _, hh, _⟩
    · cases h
    · injection h with h _ _
      injection h with h
      injection h with h _
      subst h
      exact ⟨_, _, hh⟩
  obtain ⟨cs0, fz0, hblk⟩ := hblk
  generalize hp : pre.length = p at *
  have HP := Lib.hid hp; clear hp hpl
  have hgne : g ≠ w.heap.size := by omega
  have e0 : ((p : Int) + 1 == 0) = false := by simp; omega
  have hqn : ∀ (w : World) (r : Option Nat), (binOp .neq 53 (.map r) (.map none)).run Tryz.prog w = .ok (.bool (!r.isNone)) w := fun w r => run_neq_map_nil w _ _ _ r Tryz.underlying53
  by_cases h8 : x.h.op = 8
  · have hM8 := HM.out.maps x (by simp)
    unfold HMap at hM8
    rw [if_pos h8] at hM8
    obtain ⟨m, hxm, n, f, ⟨D, hD, hVw⟩, hnn, hff⟩ := hM8
    rw [hxm] at k2
    have hkey : keyOf Tryz.prog 9 (.string ⟨t.name.toArray⟩) = some (.string t.name) := by
      simpa using WideMaps.keyOf_string_mk (P := Tryz.prog) Tryz.underlying9 (s := ⟨t.name.toArray⟩) (by rw [mk_size]; unfold maxLen; omega)
    have hwf : (Lit.int .i64 (x.h.left - 1)).wf = true := i64_wf63 (by omega) (by omega)
    have HSM : Hid (SMap w m n f) := Lib.hid ⟨D, hD, hVw⟩
    have hD1 : ∀ u o, ((w.setCell ⟨g, p * 3 + 1, none⟩ u).alloc o).ownsMap Tryz.prog 9 (plainElem Tryz.prog 3) m n D := fun u o => by
      obtain ⟨es, clock, hb0, r⟩ := hD
      have h1 : SMap w m n f := HSM.out
      refine World.ownsMap.alloc ⟨es, clock, (Below.heap_setCell w ⟨g, p * 3 + 1, none⟩ u m ?_).trans hb0, r⟩ o
      rintro rfl
      exact h1.ne hblk rfl
    have HFF : Hid (∀ w5 : World, w5.ownsMap Tryz.prog 9 (plainElem Tryz.prog 3) m (n + 1) (D.put (keyT t.name) (.lit (.int .i64 (x.h.left - 1)))) → NMap w5 m (x.h.ahead ++ [t.name])) := Lib.hid (fun w5 h5 => ⟨n + 1, _, ⟨_, h5, hVw.put t.name _⟩, by simp; omega, fun r => by
      unfold upS
      by_cases e : r = t.name
      · rw [if_pos e]; simp [e]
      · rw [if_neg e, hff r]; simp [e]⟩)
    have hnb : n ≤ 65536 := by omega
    have HXM := Lib.hid hxm
    clear hD hVw hff hxm hnn
    have HB1 : Hid (Below base w ((w.setCell ⟨g, p * 3 + 1, none⟩ (.int .i64 (x.h.left - 1))).alloc (.cells #[.int .i64 t.op, .int .i64 t.many, .string ⟨t.name.toArray⟩, .string ⟨t.s.toArray⟩, .int .i64 t.n, .int .i64 t.c.kind, .int .i64 t.c.many, .string ⟨t.c.name.toArray⟩, .string ⟨t.c.s.toArray⟩, .bool t.c.neg, .int .i64 t.c.e] 47))) := Lib.hid (((Below.refl base w).setCell (p := ⟨g, p * 3 + 1, none⟩) hg _).alloc (by simp [World.setCell]; omega) _)
    have HM8 : Hid (HMs base ((w.setCell ⟨g, p * 3 + 1, none⟩ (.int .i64 (x.h.left - 1))).alloc (.cells #[.int .i64 t.op, .int .i64 t.many, .string ⟨t.name.toArray⟩, .string ⟨t.s.toArray⟩, .int .i64 t.n, .int .i64 t.c.kind, .int .i64 t.c.many, .string ⟨t.c.name.toArray⟩, .string ⟨t.c.s.toArray⟩, .bool t.c.neg, .int .i64 t.c.e] 47)) (pre ++ [x])) := Lib.hid ((HM.out.cells hblk _ _).below ((Below.refl _ _).alloc (Nat.le_refl _) _))
    have HMH : Hid (base ≤ m) := Lib.hid (HM.out.high x (by simp) m HXM.out)
    have HTB : Hid (((w.setCell ⟨g, p * 3 + 1, none⟩ (.int .i64 (x.h.left - 1))).alloc (.cells #[.int .i64 t.op, .int .i64 t.many, .string ⟨t.name.toArray⟩, .string ⟨t.s.toArray⟩, .int .i64 t.n, .int .i64 t.c.kind, .int .i64 t.c.many, .string ⟨t.c.name.toArray⟩, .string ⟨t.c.s.toArray⟩, .bool t.c.neg, .int .i64 t.c.e] 47)).heap[w.heap.size]? = some (.cells #[.int .i64 t.op, .int .i64 t.many, .string ⟨t.name.toArray⟩, .string ⟨t.s.toArray⟩, .int .i64 t.n, .int .i64 t.c.kind, .int .i64 t.c.many, .string ⟨t.c.name.toArray⟩, .string ⟨t.c.s.toArray⟩, .bool t.c.neg, .int .i64 t.c.e] 47)) := Lib.hid (by have := heap_alloc_new (w.setCell ⟨g, p * 3 + 1, none⟩ (.int .i64 (x.h.left - 1))) (.cells #[.int .i64 t.op, .int .i64 t.many, .string ⟨t.name.toArray⟩, .string ⟨t.s.toArray⟩, .int .i64 t.n, .int .i64 t.c.kind, .int .i64 t.c.many, .string ⟨t.c.name.toArray⟩, .string ⟨t.c.s.toArray⟩, .bool t.c.neg, .int .i64 t.c.e] 47); simpa [World.setCell] using this)
    have HPW : Hid (OwnHp base ((w.setCell ⟨g, p * 3 + 1, none⟩ (.int .i64 (x.h.left - 1))).alloc (.cells #[.int .i64 t.op, .int .i64 t.many, .string ⟨t.name.toArray⟩, .string ⟨t.s.toArray⟩, .int .i64 t.n, .int .i64 t.c.kind, .int .i64 t.c.many, .string ⟨t.c.name.toArray⟩, .string ⟨t.c.s.toArray⟩, .bool t.c.neg, .int .i64 t.c.e] 47)) (.slice (some ⟨g, 0, none⟩) (p + 1) cap) (pre ++ [stepHp x t])) := Lib.hid (HP1.out.alloc _)
    have HDW := Lib.hid (hD1 (.int .i64 (x.h.left - 1)) (.cells #[.int .i64 t.op, .int .i64 t.many, .string ⟨t.name.toArray⟩, .string ⟨t.s.toArray⟩, .int .i64 t.n, .int .i64 t.c.kind, .int .i64 t.c.many, .string ⟨t.c.name.toArray⟩, .string ⟨t.c.s.toArray⟩, .bool t.c.neg, .int .i64 t.c.e] 47))
    have z2 : ((w.setCell ⟨g, p * 3 + 1, none⟩ (.int .i64 (x.h.left - 1))).alloc (.cells #[.int .i64 t.op, .int .i64 t.many, .string ⟨t.name.toArray⟩, .string ⟨t.s.toArray⟩, .int .i64 t.n, .int .i64 t.c.kind, .int .i64 t.c.many, .string ⟨t.c.name.toArray⟩, .string ⟨t.c.s.toArray⟩, .bool t.c.neg, .int .i64 t.c.e] 47)).cell? ⟨g, p * 3 + 2, none⟩ = some (.map (some m)) := by
      have h := HPW.out
      rw [← HLN.out] at h
      have := Own.cell hpc_len (k := p) (j := 2) (x := stepHp x t) (u := .map x.b) h (by rw [← HP.out]; simp) rfl
      rwa [HXM.out] at this
    have z1 : ((w.setCell ⟨g, p * 3 + 1, none⟩ (.int .i64 (x.h.left - 1))).alloc (.cells #[.int .i64 t.op, .int .i64 t.many, .string ⟨t.name.toArray⟩, .string ⟨t.s.toArray⟩, .int .i64 t.n, .int .i64 t.c.kind, .int .i64 t.c.many, .string ⟨t.c.name.toArray⟩, .string ⟨t.c.s.toArray⟩, .bool t.c.neg, .int .i64 t.c.e] 47)).cell? ⟨g, p * 3 + 1, none⟩ = some (.int .i64 (x.h.left - 1)) := by
      have h := HPW.out
      rw [← HLN.out] at h
      exact Own.cell hpc_len (k := p) (j := 1) (x := stepHp x t) h (by rw [← HP.out]; simp) rfl
    have zn : ((w.setCell ⟨g, p * 3 + 1, none⟩ (.int .i64 (x.h.left - 1))).alloc (.cells #[.int .i64 t.op, .int .i64 t.many, .string ⟨t.name.toArray⟩, .string ⟨t.s.toArray⟩, .int .i64 t.n, .int .i64 t.c.kind, .int .i64 t.c.many, .string ⟨t.c.name.toArray⟩, .string ⟨t.c.s.toArray⟩, .bool t.c.neg, .int .i64 t.c.e] 47)).cell? ⟨w.heap.size, 2, none⟩ = some (.string ⟨t.name.toArray⟩) := by rw [Lib.cell_of_heap HTB.out]; rfl
    clear HM HO HP1 hD1
    by_cases hm : 0 < t.many
    · have HV : Hid ((passF ((pre ++ [x]).map Hp.h).reverse t).reverse = pre.map Hp.h ++ [stepF x.h t, ⟨t.op, t.many, []⟩]) := Lib.hid (by simp [passF_cons, if_pos hm])
      go_enter Tryz.func29, Tryz.ntmps29
      go_wp2_with fail
      generalize ((w.setCell ⟨g, p * 3 + 1, none⟩ (.int .i64 (x.h.left - 1))).alloc (.cells #[.int .i64 t.op, .int .i64 t.many, .string ⟨t.name.toArray⟩, .string ⟨t.s.toArray⟩, .int .i64 t.n, .int .i64 t.c.kind, .int .i64 t.c.many, .string ⟨t.c.name.toArray⟩, .string ⟨t.c.s.toArray⟩, .bool t.c.neg, .int .i64 t.c.e] 47)) = W1 at *
      go_still_tail 10, (by kernel_rfl)
      change wpList _ _ _ _ _ W1.drew
      go_wp2_with (first
        | (at_mapUpdate; refine wpList_mapUpdate_own _ rfl _ _ _ 53 rfl 9 3 lawS Tryz.underlying53 _ m n D rfl HDW.out.drew (by unfold maxLen; omega) _ _ _ rfl rfl hkey _ [] (plainElem_int Tryz.underlying3 hwf) ?_; intro w5 hmap5 hgrow5; obtain ⟨es5, clock5, hmb5, -⟩ := HDW.out.drew; have hq := kept_map (w := W1.drew) hmb5 hgrow5 HTB.out; have q0 := Lib.cell_of_heap hq 0; have q1 := Lib.cell_of_heap hq 1; have q2 := Lib.cell_of_heap hq 2; have q3 := Lib.cell_of_heap hq 3; have q4 := Lib.cell_of_heap hq 4; have q5 := Lib.cell_of_heap hq 5; have q6 := Lib.cell_of_heap hq 6; have q7 := Lib.cell_of_heap hq 7; have q8 := Lib.cell_of_heap hq 8; have q9 := Lib.cell_of_heap hq 9; have q10 := Lib.cell_of_heap hq 10; simp only [List.getElem?_toArray, List.getElem?_cons_succ, List.getElem?_cons_zero] at q0 q1 q2 q3 q4 q5 q6 q7 q8 q9 q10; have HOW : Hid (OwnHp base w5 (.slice (some ⟨g, 0, none⟩) (p + 1) cap) (pre ++ [stepHp x t])) := Lib.hid (Own.map (w := W1.drew) HPW.out hmb5 hgrow5); have HMW : Hid (HMs base w5 (pre ++ [stepHp x t])) := Lib.hid (HMs.step8 (w := W1.drew) (HM8.out.below (Below.refl _ W1).drew) t h8 HXM.out hgrow5 (HFF.out w5 hmap5)); have HBW : Hid (Below base w w5) := Lib.hid (HB1.out.drew.grown hgrow5 (Nat.le_trans hb HB1.out.size) (fun k e => by injection e with e; subst e; exact HMH.out)); have hsz5 : w.heap.size < w5.heap.size := (Array.getElem?_eq_some_iff.1 hq).1; have hsz5b := Nat.le_trans hb HBW.out.size; clear hmap5 hgrow5 hmb5 hq)
        | (go_at_call 58; refine (within_any t w5).mono ?_; rintro e w3 ⟨y, rfl, hy1, hy2, hy3, hb3⟩; have HO3 := Lib.hid (HOW.out.below hb3); have HY1 := Lib.hid hy1; have HM3 := Lib.hid (HMW.out.push hb3 hy2 hy3 (Nat.le_trans hb HBW.out.size)); have HB3 := Lib.hid (HBW.out.trans (hb3.mono (Nat.le_trans hb HBW.out.size))); have hsz3 := Nat.le_trans (Nat.le_trans hb HBW.out.size) hb3.size; clear hy1 hy2 hy3 hb3)
        | (at_builtin; refine wpList_append_row (base := base) elHp rfl _ _ rfl rfl (HO3.out.alloc _) rfl (Row.lit hpc_len w3 55 #[.int .i64 y.h.op, .int .i64 y.h.left, .map y.b] [y] (by show 1 ≤ maxLen; decide) rfl) ?_ ?_ ?_ ?_))
      · rw [HLN.out]; simp only [List.length_singleton]; unfold maxLen; omega
      · rw [HLN.out]; simp only [List.length_singleton]; omega
      · simp; omega
      · intro A c w4 hown4 hg4 _
        have HOW4 := Lib.hid hown4
        have HM4 : Hid (HMs base w4 (pre ++ [stepHp x t] ++ [y])) := Lib.hid ((HM3.out.below ((Below.refl _ w3).alloc (Nat.le_refl _) _)).grown (HO3.out.alloc _) hg4)
        have HB4 : Hid (Below base w w4) := Lib.hid ((HB3.out.alloc hsz3 _).trans ((HO3.out.alloc _).kept hg4 (by simp; omega)))
        clear hown4 hg4
        go_wp2_with fail
        go_ret
        exact ⟨_, _, rfl, HOW4.out, by simpa using HM4.out, by rw [HV.out, ← HY1.out]; simp [stepHp], HB4.out⟩
    · have HV : Hid ((passF ((pre ++ [x]).map Hp.h).reverse t).reverse = (popF (stepF x.h t :: (pre.map Hp.h).reverse)).reverse) := Lib.hid (by simp [passF_cons, if_neg hm])
      have hm' : t.many ≤ 0 := by omega
      clear hm
      go_enter Tryz.func29, Tryz.ntmps29
      go_wp2_with fail
      generalize ((w.setCell ⟨g, p * 3 + 1, none⟩ (.int .i64 (x.h.left - 1))).alloc (.cells #[.int .i64 t.op, .int .i64 t.many, .string ⟨t.name.toArray⟩, .string ⟨t.s.toArray⟩, .int .i64 t.n, .int .i64 t.c.kind, .int .i64 t.c.many, .string ⟨t.c.name.toArray⟩, .string ⟨t.c.s.toArray⟩, .bool t.c.neg, .int .i64 t.c.e] 47)) = W1 at *
      go_still_tail 10, (by kernel_rfl)
      change wpList _ _ _ _ _ W1.drew
      go_wp2_with (at_mapUpdate; refine wpList_mapUpdate_own _ rfl _ _ _ 53 rfl 9 3 lawS Tryz.underlying53 _ m n D rfl HDW.out.drew (by unfold maxLen; omega) _ _ _ rfl rfl hkey _ [] (plainElem_int Tryz.underlying3 hwf) ?_; intro w5 hmap5 hgrow5; obtain ⟨es5, clock5, hmb5, -⟩ := HDW.out.drew; have hq := kept_map (w := W1.drew) hmb5 hgrow5 HTB.out; have q0 := Lib.cell_of_heap hq 0; have q1 := Lib.cell_of_heap hq 1; have q2 := Lib.cell_of_heap hq 2; have q3 := Lib.cell_of_heap hq 3; have q4 := Lib.cell_of_heap hq 4; have q5 := Lib.cell_of_heap hq 5; have q6 := Lib.cell_of_heap hq 6; have q7 := Lib.cell_of_heap hq 7; have q8 := Lib.cell_of_heap hq 8; have q9 := Lib.cell_of_heap hq 9; have q10 := Lib.cell_of_heap hq 10; simp only [List.getElem?_toArray, List.getElem?_cons_succ, List.getElem?_cons_zero] at q0 q1 q2 q3 q4 q5 q6 q7 q8 q9 q10; have HOW : Hid (OwnHp base w5 (.slice (some ⟨g, 0, none⟩) (p + 1) cap) (pre ++ [stepHp x t])) := Lib.hid (Own.map (w := W1.drew) HPW.out hmb5 hgrow5); have HMW : Hid (HMs base w5 (pre ++ [stepHp x t])) := Lib.hid (HMs.step8 (w := W1.drew) (HM8.out.below (Below.refl _ W1).drew) t h8 HXM.out hgrow5 (HFF.out w5 hmap5)); have HBW : Hid (Below base w w5) := Lib.hid (HB1.out.drew.grown hgrow5 (Nat.le_trans hb HB1.out.size) (fun k e => by injection e with e; subst e; exact HMH.out)); have hsz5 : w.heap.size < w5.heap.size := (Array.getElem?_eq_some_iff.1 hq).1; have hsz5b := Nat.le_trans hb HBW.out.size; clear hmap5 hgrow5 hmb5 hq)
      go_loopw [0] (fun s0 wr => ∃ st : List Hp, s0 = .slice (some ⟨g, 0, none⟩) st.length cap ∧ wr = w5 ∧ st.length ≤ 65537 ∧ Hid (OwnHp base wr (.slice (some ⟨g, 0, none⟩) st.length cap) st) ∧ Hid (HMs base wr st) ∧ Hid ((popF (st.map Hp.h).reverse).reverse = (popF (stepF x.h t :: (pre.map Hp.h).reverse)).reverse)) (fun s0 _ => lenOf s0)
      case atStart => exact ⟨pre ++ [stepHp x t], by simp [HP.out], rfl, by simp [HP.out]; omega, Lib.hid (by rw [HLN.out]; exact HOW.out), HMW, Lib.hid (by simp [stepHp])⟩
      case round =>
        obtain ⟨st, rfl, rfl, hsl, HOS, HMS, HPO⟩ := hrel
        rcases List.eq_nil_or_concat st with rfl | ⟨st', y, rfl⟩
        · have HE : Hid ((passF ((pre ++ [x]).map Hp.h).reverse t).reverse = []) := Lib.hid (by rw [HV.out, ← HPO.out]; rfl)
          simp only [List.length_nil] at HOS ⊢
          go_wp2
          go_ret
          exact ⟨_, [], rfl, HOS.out, HMS.out, HE.out.symm, HBW.out⟩
        · rw [List.concat_eq_append] at *
          have hst : (st' ++ [y])[st'.length]? = some y := by simp
          have r1 := Own.cell hpc_len (j := 1) HOS.out hst rfl
          clear hst
          have hpl : (st' ++ [y]).length = st'.length + 1 := by simp
          rw [hpl] at hsl HOS ⊢
          obtain ⟨-, hcap, hcm⟩ := HOS.out.cap
          unfold maxLen at hcm
          have hrv : ((st' ++ [y]).map Hp.h).reverse = y.h :: (st'.map Hp.h).reverse := by simp
          rw [hrv] at HPO
          by_cases hx0 : y.h.left = 0
          · have HE : Hid ((popF (st'.map Hp.h).reverse).reverse = (popF (stepF x.h t :: (pre.map Hp.h).reverse)).reverse) := Lib.hid (by rw [← HPO.out]; exact (popF_snoc _ y.h hx0).symm)
            have HOP := Lib.hid (Own.pop hpc_len HOS.out)
            have HMP := Lib.hid (HMs.front HMS.out)
            rw [hx0] at r1
            clear hpl hrv
            go_wp2
            go_roundw
            case rel => exact ⟨st', by simp, by simp, by omega, HOP, HMP, HE⟩
            case measure => simp [lenOf]
          · have HE : Hid ((passF ((pre ++ [x]).map Hp.h).reverse t).reverse = st'.map Hp.h ++ [y.h]) := Lib.hid (by rw [HV.out, ← HPO.out]; exact popF_stop _ y.h hx0)
            have ex : (y.h.left == 0) = false := by simp [hx0]
            clear hpl hrv
            go_wp2
            go_ret
            exact ⟨_, st' ++ [y], rfl, HOS.out, HMS.out, by rw [HE.out]; simp, HBW.out⟩
  · have hbn : x.b = none := by have := HM.out.maps x (by simp); unfold HMap at this; rwa [if_neg h8] at this
    rw [hbn] at k2
    have HOW : Hid (OwnHp base ((w.setCell ⟨g, p * 3 + 1, none⟩ (.int .i64 (x.h.left - 1))).alloc (.cells #[.int .i64 t.op, .int .i64 t.many, .string ⟨t.name.toArray⟩, .string ⟨t.s.toArray⟩, .int .i64 t.n, .int .i64 t.c.kind, .int .i64 t.c.many, .string ⟨t.c.name.toArray⟩, .string ⟨t.c.s.toArray⟩, .bool t.c.neg, .int .i64 t.c.e] 47)) (.slice (some ⟨g, 0, none⟩) (p + 1) cap) (pre ++ [stepHp x t])) := Lib.hid (HP1.out.alloc _)
    have HMW : Hid (HMs base ((w.setCell ⟨g, p * 3 + 1, none⟩ (.int .i64 (x.h.left - 1))).alloc (.cells #[.int .i64 t.op, .int .i64 t.many, .string ⟨t.name.toArray⟩, .string ⟨t.s.toArray⟩, .int .i64 t.n, .int .i64 t.c.kind, .int .i64 t.c.many, .string ⟨t.c.name.toArray⟩, .string ⟨t.c.s.toArray⟩, .bool t.c.neg, .int .i64 t.c.e] 47)) (pre ++ [stepHp x t])) := Lib.hid (((HM.out.step0 t h8).cells hblk _ _).below ((Below.refl _ _).alloc (Nat.le_refl _) _))
    have HBW : Hid (Below base w ((w.setCell ⟨g, p * 3 + 1, none⟩ (.int .i64 (x.h.left - 1))).alloc (.cells #[.int .i64 t.op, .int .i64 t.many, .string ⟨t.name.toArray⟩, .string ⟨t.s.toArray⟩, .int .i64 t.n, .int .i64 t.c.kind, .int .i64 t.c.many, .string ⟨t.c.name.toArray⟩, .string ⟨t.c.s.toArray⟩, .bool t.c.neg, .int .i64 t.c.e] 47))) := Lib.hid (((Below.refl base w).setCell (p := ⟨g, p * 3 + 1, none⟩) hg _).alloc (by simp [World.setCell]; omega) _)
    clear HP1 HM HO
    by_cases hm : 0 < t.many
    · have HV : Hid ((passF ((pre ++ [x]).map Hp.h).reverse t).reverse = pre.map Hp.h ++ [stepF x.h t, ⟨t.op, t.many, []⟩]) := Lib.hid (by simp [passF_cons, if_pos hm])
      go_enter Tryz.func29, Tryz.ntmps29
      go_wp2_with (first
        | (go_at_call 58; refine (within_any t ((w.setCell ⟨g, p * 3 + 1, none⟩ (.int .i64 (x.h.left - 1))).alloc (.cells #[.int .i64 t.op, .int .i64 t.many, .string ⟨t.name.toArray⟩, .string ⟨t.s.toArray⟩, .int .i64 t.n, .int .i64 t.c.kind, .int .i64 t.c.many, .string ⟨t.c.name.toArray⟩, .string ⟨t.c.s.toArray⟩, .bool t.c.neg, .int .i64 t.c.e] 47))).mono ?_; rintro e w3 ⟨y, rfl, hy1, hy2, hy3, hb3⟩; have HO3 := Lib.hid (HOW.out.below hb3); have HY1 := Lib.hid hy1; have HM3 := Lib.hid (HMW.out.push hb3 hy2 hy3 (Nat.le_trans hb HBW.out.size)); have HB3 := Lib.hid (HBW.out.trans (hb3.mono (Nat.le_trans hb HBW.out.size))); have hsz3 := Nat.le_trans (Nat.le_trans hb HBW.out.size) hb3.size; clear hy1 hy2 hy3 hb3)
        | (at_builtin; refine wpList_append_row (base := base) elHp rfl _ _ rfl rfl (HO3.out.alloc _) rfl (Row.lit hpc_len w3 55 #[.int .i64 y.h.op, .int .i64 y.h.left, .map y.b] [y] (by show 1 ≤ maxLen; decide) rfl) ?_ ?_ ?_ ?_))
      · rw [HLN.out]; simp only [List.length_singleton]; unfold maxLen; omega
      · rw [HLN.out]; simp only [List.length_singleton]; omega
      · simp; omega
      · intro A c w4 hown4 hg4 _
        have HOW4 := Lib.hid hown4
        have HM4 : Hid (HMs base w4 (pre ++ [stepHp x t] ++ [y])) := Lib.hid ((HM3.out.below ((Below.refl _ w3).alloc (Nat.le_refl _) _)).grown (HO3.out.alloc _) hg4)
        have HB4 : Hid (Below base w w4) := Lib.hid ((HB3.out.alloc hsz3 _).trans ((HO3.out.alloc _).kept hg4 (by simp; omega)))
        clear hown4 hg4
        go_wp2_with fail
        go_ret
        exact ⟨_, _, rfl, HOW4.out, by simpa using HM4.out, by rw [HV.out, ← HY1.out]; simp [stepHp], HB4.out⟩
    · have HV : Hid ((passF ((pre ++ [x]).map Hp.h).reverse t).reverse = (popF (stepF x.h t :: (pre.map Hp.h).reverse)).reverse) := Lib.hid (by simp [passF_cons, if_neg hm])
      have hm' : t.many ≤ 0 := by omega
      clear hm
      go_enter Tryz.func29, Tryz.ntmps29
      go_wp2_with fail
      go_loopw [0] (fun s0 wr => ∃ st : List Hp, s0 = .slice (some ⟨g, 0, none⟩) st.length cap ∧ wr = ((w.setCell ⟨g, p * 3 + 1, none⟩ (.int .i64 (x.h.left - 1))).alloc (.cells #[.int .i64 t.op, .int .i64 t.many, .string ⟨t.name.toArray⟩, .string ⟨t.s.toArray⟩, .int .i64 t.n, .int .i64 t.c.kind, .int .i64 t.c.many, .string ⟨t.c.name.toArray⟩, .string ⟨t.c.s.toArray⟩, .bool t.c.neg, .int .i64 t.c.e] 47)) ∧ st.length ≤ 65537 ∧ Hid (OwnHp base wr (.slice (some ⟨g, 0, none⟩) st.length cap) st) ∧ Hid (HMs base wr st) ∧ Hid ((popF (st.map Hp.h).reverse).reverse = (popF (stepF x.h t :: (pre.map Hp.h).reverse)).reverse)) (fun s0 _ => lenOf s0)
      case atStart => exact ⟨pre ++ [stepHp x t], by simp [HP.out], rfl, by simp [HP.out]; omega, Lib.hid (by rw [HLN.out]; exact HOW.out), HMW, Lib.hid (by simp [stepHp])⟩
      case round =>
        obtain ⟨st, rfl, rfl, hsl, HOS, HMS, HPO⟩ := hrel
        rcases List.eq_nil_or_concat st with rfl | ⟨st', y, rfl⟩
        · have HE : Hid ((passF ((pre ++ [x]).map Hp.h).reverse t).reverse = []) := Lib.hid (by rw [HV.out, ← HPO.out]; rfl)
          simp only [List.length_nil] at HOS ⊢
          go_wp2
          go_ret
          exact ⟨_, [], rfl, HOS.out, HMS.out, HE.out.symm, HBW.out⟩
        · rw [List.concat_eq_append] at *
          have hst : (st' ++ [y])[st'.length]? = some y := by simp
          have r1 := Own.cell hpc_len (j := 1) HOS.out hst rfl
          clear hst
          have hpl : (st' ++ [y]).length = st'.length + 1 := by simp
          rw [hpl] at hsl HOS ⊢
          obtain ⟨-, hcap, hcm⟩ := HOS.out.cap
          unfold maxLen at hcm
          have hrv : ((st' ++ [y]).map Hp.h).reverse = y.h :: (st'.map Hp.h).reverse := by simp
          rw [hrv] at HPO
          by_cases hx0 : y.h.left = 0
          · have HE : Hid ((popF (st'.map Hp.h).reverse).reverse = (popF (stepF x.h t :: (pre.map Hp.h).reverse)).reverse) := Lib.hid (by rw [← HPO.out]; exact (popF_snoc _ y.h hx0).symm)
            have HOP := Lib.hid (Own.pop hpc_len HOS.out)
            have HMP := Lib.hid (HMs.front HMS.out)
            rw [hx0] at r1
            clear hpl hrv
            go_wp2
            go_roundw
            case rel => exact ⟨st', by simp, by simp, by omega, HOP, HMP, HE⟩
            case measure => simp [lenOf]
          · have HE : Hid ((passF ((pre ++ [x]).map Hp.h).reverse t).reverse = st'.map Hp.h ++ [y.h]) := Lib.hid (by rw [HV.out, ← HPO.out]; exact popF_stop _ y.h hx0)
            have ex : (y.h.left == 0) = false := by simp [hx0]
            clear hpl hrv
            go_wp2
            go_ret
            exact ⟨_, st' ++ [y], rfl, HOS.out, HMS.out, by rw [HE.out]; simp, HBW.out⟩
end Go.Proofs.YtdgcdemihalefaaGreatDoor
