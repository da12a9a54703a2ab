/-
  What val's head, lay and List answer.
-/
import Derived.Test.YtoomgpbfcpnefaaDoorValW5
import Derived.Test.YtoomgpbfcpnefaaDoorRefW6
import Derived.Test.YtoomgpbfcpnefaaDoorOwn2
import Derived.Test.YtoomgpbfcpnefaaDoorObjP
namespace Go.Proofs.YtoomgpbfcpnefaaDoor
open Go.RowKit Np Rw Vp

theorem make_nodes (n c : Nat) (hn : n ≤ c) (hc : c ≤ 1000000) (w : World) : (Instr.makeSlice 23 (.int .i64 (n : Int)) (.int .i64 (c : Int))).run Tryd.prog w = .ok (.slice (some ⟨w.heap.size, 0, none⟩) n c) (w.alloc (.cells (madeCells (ndc zeroN).toArray (c * 6)) 44)) := by
  obtain ⟨i, hi, hz0, hz1, hz2⟩ := info_parts node_info
  have := run_make (P := Tryd.prog) w 23 44 i _ Tryd.underlying23 hi hz0 .i64 .i64 n c (by omega) (by omega) (by rw [hz2]; omega) (by omega)
  rw [hz1, Int.toNat_natCast, Int.toNat_natCast] at this
  exact this

set_option maxRecDepth 100000 in
set_option maxHeartbeats 2000000 in
theorem head_any (kind : Int) (v : Value) (L : List (List Nd)) (w : World) (hv : Vls w v L) (hb1 : L.length ≤ 65536) (hb2 : (L.map List.length).sum ≤ 131072) :
    Calls Tryd.prog 51 #[.int .i64 kind, v] w (OwnsN w [hdN kind L.length]) := by
  obtain ⟨us, hul, hu, hur⟩ := hv
  obtain ⟨A, c, rfl, -, -, -, H⟩ := hu
  have HUL := Lib.hid hul
  have HU := Lib.hid hur
  have HH := Lib.hid H
  have HLN : Hid (L.length = us.length) := Lib.hid hul.symm
  clear hur H
  rw [← hul] at hb1
  clear hul
  generalize hn : us.length = n at *
  have HN := Lib.hid hn; clear hn
  have hmk := fun (m : Nat) (h1 : 1 ≤ m) (hm : m ≤ 200000) (W : World) => make_nodes 1 m h1 (by omega) W
  have HMK := Lib.hid hmk; clear hmk
  go_enter Tryd.func51, Tryd.ntmps51
  go_wp2
  go_loopw [5, 11] (fun nn i wr => ∃ k q : Nat, k ≤ n ∧ i = .int .i64 k ∧ nn = .int .i64 (q : Nat) ∧ q = 1 + ((L.take k).map List.length).sum ∧ 1 ≤ q ∧ q ≤ 131073 ∧ wr = w) (fun _ i _ => n - (intOf i).toNat)
  case atStart => exact ⟨0, 1, Nat.zero_le _, rfl, rfl, rfl, by omega, by omega, rfl⟩
  case round =>
    obtain ⟨k, q, hk, rfl, rfl, hq, hq1, hqb, rfl⟩ := hrel
    have HQ := Lib.hid hq
    clear hq
    by_cases hlt : k < n
    · obtain ⟨g, o, rfl, hg, hx⟩ := HH.out (by omega)
      obtain ⟨x, hxk⟩ : ∃ a, us[k]? = some a := ⟨_, List.getElem?_eq_getElem (by rw [HN.out]; exact hlt)⟩
      obtain ⟨a, ha⟩ : ∃ a, L[k]? = some a := ⟨_, List.getElem?_eq_getElem (by rw [← HUL.out]; exact hlt)⟩
      have a0 := (hx k x hxk).one
      have hra : Nds wr x a := HU.out k x a hxk ha
      have HQ2 : Hid (q + a.length = 1 + ((L.take (k + 1)).map List.length).sum) := Lib.hid (by rw [sum_take ha, HQ.out]; omega)
      have hqa : q + a.length ≤ 131073 := by have := sum_take_le L (k + 1); rw [HQ2.out]; omega
      clear ha hxk hx
      obtain ⟨B, c', rfl, -⟩ := hra
      go_wp2_with fail
      go_roundw
      case rel => exact ⟨k + 1, q + a.length, by omega, by go_num, by go_num, HQ2.out, by omega, by omega, by simp⟩
      case measure => simp [intOf]; omega
    · have hmk := HMK.out q hq1 (by omega) wr
      simp only [Int.natCast_one] at hmk
      have HO : OwnN wr.heap.size (wr.alloc (.cells (madeCells (ndc zeroN).toArray (q * 6)) 44)) (.slice (some ⟨wr.heap.size, 0, none⟩) 1 q) [zeroN] := 
        Own.made (E := 44) (base := wr.heap.size) ndc_len (by decide) wr zeroN (ndc zeroN).toArray rfl 1 q (by omega) (by unfold maxLen; omega) (Nat.le_refl _)
      generalize madeCells (ndc zeroN).toArray (q * 6) = cs at hmk HO
      have HT : Hid ((wr.alloc (.cells cs 44)).there wr.heap.size 0 6) := Lib.hid (by have := Own.there (k := 0) ndc_len HO rfl; simpa using this)
      have HP : OwnN wr.heap.size ((wr.alloc (.cells cs 44)).setCells wr.heap.size 0 (ndc (hdN kind n))) (.slice (some ⟨wr.heap.size, 0, none⟩) 1 q) [hdN kind n] := by
        have := Own.puts (k := 0) (y := hdN kind n) ndc_len HO rfl
        simpa using this
      have HBW : Below wr.heap.size wr ((wr.alloc (.cells cs 44)).setCells wr.heap.size 0 (ndc (hdN kind n))) := Below.setCells (Nat.le_refl _) _ _ ((Below.refl _ _).alloc (Nat.le_refl _) _)
      have HPH := Lib.hid HP
      have HBH := Lib.hid HBW
      clear HO HP HBW
      go_wp2_with (refine wpList_store_node rfl _ _ rfl wr.heap.size 0 (hdN kind n) rfl rfl HT.out ?_; generalize (wr.alloc (.cells cs 44)).setCells wr.heap.size 0 (ndc (hdN kind n)) = W2 at HPH HBH ⊢)
      go_ret
      rw [HLN.out]
      exact ⟨_, rfl, HPH.out, HBH.out⟩

/-- What comes out is the row that there was, with more behind it. -/
def LaysN (base : Nat) (w : World) (v : Value) (l : List Nd) (e : Ending) (w' : World) : Prop := ∃ v', e = .returned v' ∧ OwnN base w' v' l ∧ w.grownBy w' v.ownBlock

theorem grown_set {w w' : World} {row : Option Nat} {g : Nat} {c : Nat} (h : w.grownBy w' row) (hg : row = some g ∨ w.heap.size ≤ g) (u : Value) : w.grownBy (w'.setCell ⟨g, c, none⟩ u) row := by
  obtain ⟨h1, h2, h3, h4, h5⟩ := h
  refine ⟨h1, h2, h3, by simpa using h4, fun k hk hne => ?_⟩
  rw [← h5 k hk hne]
  refine heap_setCell_other _ ⟨g, c, none⟩ k u ?_
  rcases hg with e | e
  · intro h; subst h; exact hne e.symm
  · intro h; subst h; exact absurd hk (by simpa using e)

set_option maxRecDepth 100000 in
set_option maxHeartbeats 2000000 in
theorem lay_any (base : Nat) (v p : Value) (l l2 : List Nd) (nm : List UInt8) (w : World) (hv : OwnN base w v l) (hp : Nds w p l2) (hb : base ≤ w.heap.size) (hl : l.length + l2.length ≤ 200000) :
    Calls Tryd.prog 52 #[v, .string ⟨nm.toArray⟩, p] w (LaysN base w v (l ++ setNm nm l2)) := by
  have HV := Lib.hid hv
  have HPR := Lib.hid hp
  obtain ⟨A, c, hve, hc, hcm, -⟩ := hv.form
  obtain ⟨A2, c2, rfl, hc2, hcm2, -, -⟩ := hp
  clear hv
  cases l2 with
  | nil =>
    simp only [List.length_nil] at hl hc2 HPR ⊢
    subst hve
    generalize hn : l.length = n at *
    have HN := Lib.hid hn; clear hn
    go_enter Tryd.func52, Tryd.ntmps52
    go_wp2_with (at_builtin; refine wpList_append_row (base := base) elNode rfl _ _ rfl rfl HV.out rfl HPR.out ?_ ?_ ?_ ?_)
    · unfold maxLen; simp only [List.length_nil, HN.out]; omega
    · simp only [List.length_nil, HN.out]; omega
    · exact hb
    · intro A' c' w2 hown2 hg2 _
      have HO2 := Lib.hid hown2
      have HG2 := Lib.hid hg2
      clear hown2 hg2
      rw [HN.out] at HO2 ⊢
      go_wp2_with fail
      go_ret
      exact ⟨_, rfl, by rw [setNm, List.append_nil]; exact HO2.out, HG2.out⟩
  | cons x l2 =>
    subst hve
    have HLEN : Hid ((l ++ x :: l2).length = l.length + (x :: l2).length) := Lib.hid (by simp)
    have hpos : 0 < (x :: l2).length := by simp
    generalize hn2 : (x :: l2).length = n2 at *
    generalize hn : l.length = n at *
    have HN := Lib.hid hn; clear hn
    have HN2 := Lib.hid hn2; clear hn2
    go_enter Tryd.func52, Tryd.ntmps52
    go_wp2_with (at_builtin; refine wpList_append_row (base := base) elNode rfl _ _ rfl rfl HV.out rfl HPR.out ?_ ?_ ?_ ?_)
    · unfold maxLen; rw [HN.out, HN2.out]; omega
    · rw [HN.out, HN2.out]; omega
    · exact hb
    · intro A' c' w2 hown2 hg2 hwh
      obtain ⟨g, cap, he, hgb, hglt⟩ := hown2.opened (by rw [HLEN.out]; omega)
      injection he with e1 _ e3
      subst e1 e3
      replace hown2 : OwnN base w2 (.slice (some ⟨g, 0, none⟩) (l ++ x :: l2).length c') (l ++ x :: l2) := by simpa using hown2
      have hk : (l ++ x :: l2)[n]? = some x := by rw [← HN.out]; simp
      have k2 := Own.cell ndc_len (j := 2) hown2 hk rfl
      have f2 := hown2.free (n * 6 + 2)
      have HPP : Hid (OwnN base (w2.setCell ⟨g, n * 6 + 2, none⟩ (.string ⟨nm.toArray⟩)) (.slice (some ⟨g, 0, none⟩) (l ++ x :: l2).length c') (l ++ setNm nm (x :: l2))) := Lib.hid (by
        have := Own.put ndc_len (j := 2) (y := { x with name := nm }) (u := .string ⟨nm.toArray⟩) hown2 hk (by decide) rfl
        have e : (l ++ x :: l2).set n { x with name := nm } = l ++ setNm nm (x :: l2) := by rw [← HN.out, List.set_append_right _ _ (Nat.le_refl _)]; simp [setNm]
        rwa [e] at this)
      have HG2 : Hid (w.grownBy (w2.setCell ⟨g, n * 6 + 2, none⟩ (.string ⟨nm.toArray⟩)) (Value.slice A n c).ownBlock) := Lib.hid (grown_set hg2 (by
        rcases hwh with e | e
        · exact .inl e.symm
        · injection e with e; exact .inr (by simp at e; omega)) _)
      clear hown2 hg2 hwh hk
      have e2 : l2.length + 1 = n2 := HN2.out
      rw [HLEN.out] at HPP
      rw [HN.out, e2]
      go_wp2_with fail
      go_ret
      exact ⟨_, rfl, HPP.out, HG2.out⟩

set_option maxRecDepth 100000 in
set_option maxHeartbeats 2000000 in
theorem list_any (v : Value) (L : List (List Nd)) (w : World) (hv : Vls w v L) (hb1 : L.length ≤ 65536) (hb2 : (L.map List.length).sum ≤ 131072) :
    Calls Tryd.prog 26 #[v] w (OwnsN w (hdN 5 L.length :: laid (L.map fun l => ([], l)))) := by
  have HV := Lib.hid hv
  obtain ⟨us, hul, hu, hur⟩ := hv
  obtain ⟨A, c, rfl, -, -, -, H⟩ := hu
  have HUL := Lib.hid hul
  have HU := Lib.hid hur
  have HH := Lib.hid H
  clear hur H
  have hb1' : us.length ≤ 65536 := by rw [hul]; exact hb1
  clear hul
  generalize hn : us.length = n at *
  have HN := Lib.hid hn; clear hn
  go_enter Tryd.func26, Tryd.ntmps26
  go_wp2_with (go_at_call 51; refine (head_any 5 _ L _ HV.out hb1 hb2).mono ?_; rintro e w1 ⟨v1, rfl, ho1, hB1⟩)
  have HO1 := Lib.hid ho1
  have HB1 := Lib.hid hB1
  clear ho1 hB1
  go_loopw [3, 10] (fun vv i wr => ∃ k : Nat, k ≤ n ∧ i = .int .i64 k ∧ OwnN w.heap.size wr vv (hdN 5 L.length :: laid ((L.take k).map fun l => ([], l))) ∧ Below w.heap.size w wr) (fun _ i _ => n - (intOf i).toNat)
  case atStart => exact ⟨0, Nat.zero_le _, rfl, HO1.out, HB1.out⟩
  case round =>
    obtain ⟨k, hk, rfl, hown, hbw⟩ := hrel
    have HO := Lib.hid hown
    have HBW := Lib.hid hbw
    by_cases hlt : k < n
    · obtain ⟨g, o, rfl, hg, hx⟩ := HH.out (by omega)
      obtain ⟨x, hxk⟩ : ∃ a, us[k]? = some a := ⟨_, List.getElem?_eq_getElem (by rw [HN.out]; exact hlt)⟩
      obtain ⟨a, ha⟩ : ∃ a, L[k]? = some a := ⟨_, List.getElem?_eq_getElem (by rw [← HUL.out]; exact hlt)⟩
      have a0 := (hbw.cell (p := ⟨g, o + k, none⟩) hg).trans (hx k x hxk).one
      have HRA : Hid (Nds wr x a) := Lib.hid ((HU.out k x a hxk ha).below hbw)
      have HS : Hid (laid ((L.take (k + 1)).map fun l => (([], l) : List UInt8 × List Nd)) = laid ((L.take k).map fun l => ([], l)) ++ setNm [] a) := Lib.hid (by rw [List.take_add_one, ha]; simp [laid_snoc])
      have HLN : Hid ((hdN 5 L.length :: laid ((L.take k).map fun l => ([], l))).length + a.length ≤ 200000) := Lib.hid (by
        have h1 := sum_take ha
        have h2 := sum_take_le L (k + 1)
        rw [List.length_cons, laid_len']; omega)
      clear ha hxk hx hown hbw
      go_wp2_with (go_at_call 52; refine (lay_any w.heap.size _ _ _ a [] _ HO.out HRA.out HBW.out.size HLN.out).mono ?_; rintro e w2 ⟨v2, rfl, ho2, hg2⟩)
      have HO2 := Lib.hid ho2
      have HG2 := Lib.hid hg2
      clear ho2 hg2
      go_roundw
      case rel => exact ⟨k + 1, by omega, by go_num, by rw [HS.out]; exact HO2.out, HBW.out.trans (HO.out.kept HG2.out HBW.out.size)⟩
      case measure => simp [intOf]; omega
    · have HE : Hid (L.take k = L) := Lib.hid (List.take_of_length_le (by rw [← HUL.out]; omega))
      clear hown hbw
      go_wp2_with fail
      go_ret
      exact ⟨_, rfl, by have := HO.out; rwa [HE.out] at this, HBW.out⟩
end Go.Proofs.YtoomgpbfcpnefaaDoor
