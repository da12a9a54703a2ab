/-
  What val's begin and pass answer.
-/
import Derived.Test.YtoomgpbfcpnefaaDoorValW1
import Derived.Test.YtoomgpbfcpnefaaDoorOwn
namespace Go.Proofs.YtoomgpbfcpnefaaDoor
open Go.RowKit Np Rw Vp

abbrev OwnH (base : Nat) (w : World) (v : Value) (l : List Hd) : Prop := Own hdc 4 59 base w v l
theorem hdc_len (h : Hd) : (hdc h).length = 4 := rfl
theorem holder_info : (Tryd.prog.info? 59).map (fun i => (i.zero, i.size, i.bytes)) = some (some (.agg #[.int .i64 0, .int .i64 0, .bool false, .string ⟨#[]⟩]), 4, 40) := by kernel_rfl
theorem elHolder : Elem Tryd.prog 56 59 hdc 4 40 := by
  obtain ⟨i, hi, hz0, hz1, hz2⟩ := info_parts holder_info
  refine ⟨Tryd.underlying56, ⟨i, _, hi, hz0, hz1, hz2, rfl⟩, by decide, hdc_len, fun n u hu => ?_⟩
  simp only [hdc, List.mem_cons, List.not_mem_nil, or_false] at hu
  rcases hu with rfl | rfl | rfl | rfl <;> rfl

/-- What comes out is a slice of the call's own. -/
def OwnsH (base : Nat) (w : World) (st : List Hd) (e : Ending) (w' : World) : Prop := ∃ v', e = .returned v' ∧ OwnH base w' v' st ∧ Below base w w'

theorem begin_any (w : World) : Calls Tryd.prog 39 #[] w (OwnsH w.heap.size w Vp.start) := by
  go_enter Tryd.func39, Tryd.ntmps39
  go_wp2
  go_ret
  exact ⟨_, rfl, Own.lit hdc_len w #[.int .i64 5, .int .i64 1, .bool false, .string ⟨#[]⟩] Vp.start (Nat.le_refl _) (by decide) rfl, (Below.refl _ _).alloc (Nat.le_refl _) _⟩

theorem own_stepped {w : World} {base g cap : Nat} {pre : List Hd} {h : Hd} {n : Nd} (hown : OwnH base w (.slice (some ⟨g, 0, none⟩) (pre ++ [h]).length cap) (pre ++ [h])) :
    OwnH base (((w.setCell ⟨g, pre.length * 4 + 1, none⟩ (.int .i64 (h.left - 1))).setCell ⟨g, pre.length * 4 + 2, none⟩ (.bool true)).setCell ⟨g, pre.length * 4 + 3, none⟩ (.string ⟨n.name.toArray⟩)) (.slice (some ⟨g, 0, none⟩) (pre.length + 1) cap) (pre ++ [stepH h n]) := by
  have hs : ∀ x y : Hd, (pre ++ [x]).set pre.length y = pre ++ [y] := fun x y => by simp [List.set_append_right]
  have hg : ∀ x : Hd, (pre ++ [x])[pre.length]? = some x := fun x => by simp
  have h1 := Own.put hdc_len (y := ⟨h.kind, h.left - 1, h.begun, h.ahead⟩) (u := .int .i64 (h.left - 1)) hown (hg h) (by decide : 1 < 4) rfl
  rw [hs, show (pre ++ [h]).length = (pre ++ [(⟨h.kind, h.left - 1, h.begun, h.ahead⟩ : Hd)]).length by simp] at h1
  have h2 := Own.put hdc_len (y := ⟨h.kind, h.left - 1, true, h.ahead⟩) (u := .bool true) h1 (hg _) (by decide : 2 < 4) rfl
  rw [hs, show (pre ++ [(⟨h.kind, h.left - 1, h.begun, h.ahead⟩ : Hd)]).length = (pre ++ [(⟨h.kind, h.left - 1, true, h.ahead⟩ : Hd)]).length by simp] at h2
  have h3 := Own.put hdc_len (y := stepH h n) (u := .string ⟨n.name.toArray⟩) h2 (hg _) (by decide : 3 < 4) rfl
  rw [hs] at h3
  simpa using h3

/-- How long a slice is. -/
def lenOf : Value → Nat
  | .slice _ n _ => n
  | _ => 0
theorem pop_snoc (st : List Hd) (h : Hd) (h0 : h.left = 0) : (pop (h :: st.reverse)).reverse = (pop st.reverse).reverse := by rw [pop, if_pos h0]
theorem pop_stop (st : List Hd) (h : Hd) (h0 : h.left ≠ 0) : (pop (h :: st.reverse)).reverse = st ++ [h] := by rw [pop, if_neg h0]; simp

set_option maxHeartbeats 2000000 in
theorem pass_any (v : Value) (pre : List Hd) (h : Hd) (n : Nd) (w : World) (base : Nat) (hown : OwnH base w v (pre ++ [h])) (hb : base ≤ w.heap.size) (hlen : pre.length ≤ 65536) (hl1 : 1 ≤ h.left) (hl2 : h.left ≤ 9223372036854775807) :
    Calls Tryd.prog 42 #[v, nda n] w (OwnsH base w (passH (h :: pre.reverse) n).reverse) := by
  obtain ⟨g, cap, hv, hg, hglt⟩ := hown.opened (by simp)
  subst hv
  have HO := Lib.hid hown; clear hown
  have hat : (pre ++ [h])[pre.length]? = some h := by simp
  have k1 := Own.cell hdc_len (j := 1) HO.out hat rfl
  have k2 := Own.cell hdc_len (j := 2) HO.out hat rfl
  have k3 := Own.cell hdc_len (j := 3) HO.out hat rfl
  have f1 := HO.out.free (pre.length * 4 + 1)
  have f2 := HO.out.free (pre.length * 4 + 2)
  have f3 := HO.out.free (pre.length * 4 + 3)
  clear hat
  have hpl : (pre ++ [h]).length = pre.length + 1 := by simp
  rw [hpl]
  generalize hp : pre.length = p at *
  have HP := Lib.hid hp; clear hp hpl
  have hgne : g ≠ w.heap.size := by omega
  have e0 : ((p : Int) + 1 == 0) = false := by simp; omega
  go_enter Tryd.func42, Tryd.ntmps42
  go_wp2_with fail
  go_cut [] (fun wx => OwnH base wx (.slice (some ⟨g, 0, none⟩) (p + 1) cap) (pre ++ [stepH h n]) ∧ Below base w wx ∧ wx.cell? ⟨w.heap.size, 0, none⟩ = some (.int .i64 n.kind) ∧ wx.cell? ⟨w.heap.size, 1, none⟩ = some (.int .i64 n.many) ∧ w.heap.size < wx.heap.size)
  case first =>
    go_region
    go_wp2_with fail
    go_meet
    have hst := own_stepped (n := n) HO.out
    rw [HP.out] at hst
    refine ⟨(hst.alloc _).drew, ?_, ?_, ?_, ?_⟩
    · exact ((((Below.refl base w).setCell (p := ⟨g, p * 4 + 1, none⟩) hg _).setCell (p := ⟨g, p * 4 + 2, none⟩) hg _).setCell (p := ⟨g, p * 4 + 3, none⟩) hg _).alloc (by simpa using hb) _ |>.drew
    · simp [go_sem]
    · simp [go_sem]
    · simp
  case rest =>
    obtain ⟨ho, hB, c0, c1, hz⟩ := hcut
    have HO2 := Lib.hid ho
    clear ho HO k1 k2 k3 f1 f2 f3 e0 hgne
    by_cases hm : 0 < n.many
    · have HV : Hid ((passH (h :: pre.reverse) n).reverse = pre ++ [stepH h n, ⟨n.kind, n.many, false, []⟩]) := Lib.hid (by rw [passH_cons, if_pos hm]; simp)
      have hlen2 : (pre ++ [stepH h n]).length = p + 1 := by rw [← HP.out]; simp
      have HR : Hid (∀ W : World, Row hdc 4 (W.alloc (.cells #[.int .i64 n.kind, .int .i64 n.many, .bool false, .string ⟨#[]⟩] 59)) (.slice (some ⟨W.heap.size, 0, none⟩) 1 1) [⟨n.kind, n.many, false, []⟩]) := Lib.hid (fun W => Row.lit hdc_len W 59 _ [⟨n.kind, n.many, false, []⟩] (by show 1 ≤ maxLen; decide) rfl)
      go_wp2_with (at_builtin; refine wpList_append_row (base := base) elHolder rfl _ _ rfl rfl (HO2.out.alloc _) rfl (HR.out _) ?_ ?_ ?_ ?_)
      · rw [hlen2]; simp only [List.length_singleton]; unfold maxLen; omega
      · rw [hlen2]; simp only [List.length_singleton]; omega
      · have := hB.size; simp; omega
      · intro A c w2 hown2 hg2 hat2
        have HOW := Lib.hid hown2
        have HB2 : Hid (Below base w w2) := Lib.hid ((hB.alloc (by have := hB.size; omega) _).trans ((HO2.out.alloc _).kept hg2 (by have := hB.size; simp; omega)))
        clear hown2 hg2 hat2
        go_wp2_with fail
        go_ret
        exact ⟨_, rfl, by rw [HV.out]; exact HOW.out, HB2.out⟩
    · have HV : Hid ((passH (h :: pre.reverse) n).reverse = (pop (stepH h n :: pre.reverse)).reverse) := Lib.hid (by rw [passH_cons, if_neg hm])
      have hm' : n.many ≤ 0 := by omega
      go_wp2_with fail
      go_loopw [0] (fun s0 wr => ∃ st : List Hd, s0 = .slice (some ⟨g, 0, none⟩) st.length cap ∧ wr = wc ∧ st.length ≤ 65537 ∧ OwnH base wr (.slice (some ⟨g, 0, none⟩) st.length cap) st ∧ (pop st.reverse).reverse = (pop (stepH h n :: pre.reverse)).reverse) (fun s0 _ => lenOf s0)
      case atStart => exact ⟨pre ++ [stepH h n], by simp [HP.out], rfl, by simp [HP.out]; omega, by rw [show (pre ++ [stepH h n]).length = p + 1 by simp [HP.out]]; exact HO2.out, by simp⟩
      case round =>
        obtain ⟨st, rfl, rfl, hsl, hos, hpo⟩ := hrel
        have HPO := Lib.hid hpo
        have HOS := Lib.hid hos
        clear hpo hos
        rcases List.eq_nil_or_concat st with rfl | ⟨st', x, rfl⟩
        · have HE : Hid ((passH (h :: pre.reverse) n).reverse = []) := Lib.hid (by rw [HV.out, ← HPO.out]; rfl)
          simp only [List.length_nil] at HOS ⊢
          go_wp2
          go_ret
          exact ⟨_, rfl, by rw [HE.out]; exact HOS.out, hB⟩
        · rw [List.concat_eq_append] at *
          have hst : (st' ++ [x])[st'.length]? = some x := by simp
          have q1 := Own.cell hdc_len (j := 1) HOS.out hst rfl
          clear hst
          have hpl : (st' ++ [x]).length = st'.length + 1 := by simp
          rw [hpl] at hsl HOS ⊢
          obtain ⟨-, hcap, hcm⟩ := HOS.out.cap
          unfold maxLen at hcm
          by_cases hx0 : x.left = 0
          · have HE : Hid ((pop st'.reverse).reverse = (pop (stepH h n :: pre.reverse)).reverse) := Lib.hid (by rw [← HPO.out, List.reverse_append]; exact (pop_snoc st' x hx0).symm)
            have HOP := Lib.hid (Own.pop hdc_len HOS.out)
            rw [hx0] at q1
            clear hpl
            go_wp2
            go_roundw
            case rel => exact ⟨st', by simp, by simp, by omega, HOP.out, HE.out⟩
            case measure => simp [lenOf]
          · have HE : Hid ((passH (h :: pre.reverse) n).reverse = st' ++ [x]) := Lib.hid (by rw [HV.out, ← HPO.out, List.reverse_append]; exact pop_stop st' x hx0)
            have ex : (x.left == 0) = false := by simp [hx0]
            clear hpl
            go_wp2
            go_ret
            exact ⟨_, rfl, by rw [HE.out]; exact HOS.out, hB⟩
end Go.Proofs.YtoomgpbfcpnefaaDoor
