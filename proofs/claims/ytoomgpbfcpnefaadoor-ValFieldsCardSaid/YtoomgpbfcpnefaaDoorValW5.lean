/-
  What val's size, Clone and own answer.
-/
import Derived.Test.YtoomgpbfcpnefaaDoorValW1
import Derived.Test.YtoomgpbfcpnefaaDoorOwn
namespace Go.Proofs.YtoomgpbfcpnefaaDoor
open Go.RowKit Np Rw Vp

set_option maxHeartbeats 2000000 in
theorem size_any (v : Value) (l : List Nd) (t : Tr Nd) (r : List Nd) (w : World) (hv : Nds w v l) (hl : l.length ≤ 65536) (hf : l = flat t ++ r) (ho : okT many t) :
    Calls Tryd.prog 61 #[v] w fun e w' => e = .returned (.int .i64 ((flat t).length : Nat)) ∧ Below w.heap.size w w' := by
  have hnx := nxt_at (l := l) (k := 0) (by rw [List.drop_zero]; exact hf) ho
  rw [List.drop_zero, Nat.zero_add] at hnx
  have hpos : 0 < l.length := by rw [hf, List.length_append]; have := flat_pos t; omega
  generalize (flat t).length = ans at hnx ⊢
  have HANS := Lib.hid hnx
  clear hnx hf ho
  obtain ⟨g, o, c, rfl, hc, hcm, hg, hx⟩ := hv.opened hpos
  have HX := Lib.hid hx; clear hx hv
  generalize hn : l.length = n at *
  have HN := Lib.hid hn; clear hn
  go_enter Tryd.func61, Tryd.ntmps61
  go_wp2_with fail
  go_loopw [3, 8] (fun a b wr => ∃ k q : Nat, k ≤ n ∧ b = .int .i64 k ∧ a = .int .i64 (q + 1 : Nat) ∧ q ≤ k * 65536 ∧ Below w.heap.size w wr ∧ nxtL n (l.drop k) (q + 1) k = ans) (fun _ b _ => n - (intOf b).toNat)
  case atStart => exact ⟨0, 0, Nat.zero_le _, rfl, rfl, by omega, Below.refl _ _, HANS.out⟩
  case round =>
    obtain ⟨k, q, hk, rfl, rfl, hq, hbw, hans⟩ := hrel
    have HA := Lib.hid hans; clear hans
    by_cases hlt : k < n
    · obtain ⟨x, hx⟩ : ∃ a, l[k]? = some a := ⟨_, List.getElem?_eq_getElem (by rw [HN.out]; exact hlt)⟩
      obtain ⟨a0, a1, a2, a3, a4, a5⟩ := (HX.out k x hx).nd.below hg hbw
      have hst := HA.out
      rw [drop_at hx, nxtL_cons] at hst
      by_cases hb : x.many < 0 ∨ (n : Int) < x.many
      · rw [if_pos hb] at hst; omega
      · rw [if_neg hb] at hst
        obtain ⟨m, hme⟩ : ∃ m : Nat, x.many = m := ⟨x.many.toNat, by omega⟩
        rw [hme] at a1 hb hst
        rw [Int.toNat_natCast] at hst
        have HST := Lib.hid hst
        have hmn : m ≤ n := by omega
        clear hst hb hx hme
        by_cases hz : q + m = 0
        · have HE : Hid ((k : Int) + 1 = ans) := Lib.hid (by have := HST.out; rw [hz, nxtL_zero] at this; omega)
          have hq0 : q = 0 := by omega
          have hm0 : m = 0 := by omega
          subst hq0 hm0
          clear hz
          go_wp2_with fail
          go_ret
          exact ⟨ret_i64 HE.out, hbw.alloc hbw.size _⟩
        · obtain ⟨p, hp⟩ : ∃ p, q + m = p + 1 := ⟨q + m - 1, by omega⟩
          have HE : Hid (nxtL n (l.drop (k + 1)) (p + 1) (k + 1) = ans) := Lib.hid (by rw [← hp]; exact HST.out)
          have hp' : p + 1 ≤ q + m := by omega
          have hp'' : q + m ≤ p + 1 := by omega
          clear hp
          go_wp2_with fail
          go_roundw
          case rel => exact ⟨k + 1, p, by omega, by go_num, by congr 1; omega, by omega, hbw.alloc hbw.size _, HE.out⟩
          case measure => simp [intOf]; omega
    · have := HA.out
      rw [List.drop_of_length_le (by rw [HN.out]; omega), nxtL_nil] at this
      omega

abbrev OwnN (base : Nat) (w : World) (v : Value) (l : List Nd) : Prop := Own ndc 6 44 base w v l
/-- What comes out is a row of the call's own. -/
def OwnsN (w : World) (l : List Nd) (e : Ending) (w' : World) : Prop := ∃ v', e = .returned v' ∧ OwnN w.heap.size w' v' l ∧ Below w.heap.size w w'

set_option maxRecDepth 100000 in
set_option maxHeartbeats 1000000 in
theorem clone_any (v : Value) (l : List Nd) (w : World) (hv : Nds w v l) (hl : l.length ≤ 65536) :
    Calls Tryd.prog 56 #[v] w (OwnsN w l) := by
  have hvH := Lib.hid hv
  have hnil := fun (W : World) (a : Option Addr) (n c : Nat) => Lib.run_eql_slice_nil (P := Tryd.prog) W 23 44 a n c 0 0 Tryd.underlying23
  obtain ⟨A, c, rfl, hc, hcm, hz, -⟩ := hv
  cases A with
  | none =>
    have := hz rfl
    subst this
    have hl0 : l.length = 0 := by omega
    have := List.eq_nil_of_length_eq_zero hl0
    subst this
    simp only [List.length_nil]
    clear hl0 hz hc hvH
    go_enter Tryd.func56, Tryd.ntmps56
    go_wp2_with fail
    go_ret
    exact ⟨_, rfl, Own.nil _, Below.refl _ _⟩
  | some ad =>
    have HO : Hid (OwnN w.heap.size (w.alloc (.cells #[] 44)) (.slice (some ⟨w.heap.size, 0, none⟩) 0 0) []) := Lib.hid (Own.lit (l := []) ndc_len w #[] (Nat.le_refl _) (Nat.zero_le _) rfl)
    have HR : Hid (Nds (w.alloc (.cells #[] 44)) (.slice (some ad) l.length c) l) := Lib.hid (hvH.out.below ((Below.refl _ _).alloc (Nat.le_refl _) _))
    clear hz
    go_enter Tryd.func56, Tryd.ntmps56
    go_wp2_with (at_builtin; refine wpList_append_row (base := w.heap.size) elNode rfl _ _ rfl rfl HO.out rfl HR.out ?_ ?_ ?_ ?_)
    · unfold maxLen; simp only [List.length_nil]; omega
    · simp only [List.length_nil]; omega
    · simp
    · intro A' c' w2 hown2 hg2 _
      have HOW := Lib.hid hown2
      have HB2 : Hid (Below w.heap.size w w2) := Lib.hid (((Below.refl _ _).alloc (Nat.le_refl _) _).trans (HO.out.kept hg2 (by simp)))
      clear hown2 hg2
      go_wp2_with fail
      go_ret
      exact ⟨_, rfl, HOW.out, HB2.out⟩

/-- A part as a value of its own: its first node has no name. -/
def noName (n : Nd) : Nd := { n with name := [] }

set_option maxHeartbeats 1000000 in
theorem own_any (v : Value) (n : Nd) (l : List Nd) (w : World) (hv : Nds w v (n :: l)) (hl : (n :: l).length ≤ 65536) :
    Calls Tryd.prog 46 #[v] w (OwnsN w (noName n :: l)) := by
  have hvH := Lib.hid hv
  clear hv
  go_enter Tryd.func46, Tryd.ntmps46
  go_wp2_with fail
  refine (clone_any _ _ _ hvH.out hl).mono ?_
  rintro e w1 ⟨v1, rfl, ho1, hb1⟩
  obtain ⟨g, cap, rfl, hg, hglt⟩ := ho1.opened (by simp)
  have HO := Lib.hid ho1
  have k2 := Own.cell ndc_len (k := 0) (j := 2) ho1 rfl rfl
  have f2 := ho1.free 2
  simp only [Nat.zero_mul, Nat.zero_add] at k2
  have HP : Hid (OwnN w.heap.size (w1.setCell ⟨g, 2, none⟩ (.string ⟨#[]⟩)) (.slice (some ⟨g, 0, none⟩) (n :: l).length cap) (noName n :: l)) := Lib.hid (by
    have := Own.put ndc_len (k := 0) (j := 2) (y := noName n) (u := .string ⟨#[]⟩) ho1 rfl (by decide) rfl
    simpa using this)
  clear ho1
  have hpos : 0 < (n :: l).length := by simp
  generalize (n :: l).length = N at *
  go_wp2_with fail
  go_ret
  exact ⟨_, rfl, HP.out, hb1.setCell (p := ⟨g, 2, none⟩) hg _⟩
end Go.Proofs.YtoomgpbfcpnefaaDoor
