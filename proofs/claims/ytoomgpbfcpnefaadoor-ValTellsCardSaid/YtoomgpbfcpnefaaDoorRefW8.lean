/-
  What the document's own answer Depth is.
-/
import Derived.Test.YtoomgpbfcpnefaaDoorRefW7
namespace Go.Proofs.YtoomgpbfcpnefaaDoor
open Go.RowKit Np Rw Vp

theorem depths_snoc : ∀ (ts : List (Tr Nd)) (u : Tr Nd), depths (ts ++ [u]) = max (depths ts) (depth u)
  | [], u => by simp
  | t :: ts, u => by rw [List.cons_append, depths_cons, depths_snoc ts u, depths_cons]; omega

mutual
theorem depth_le : ∀ t : Tr Nd, depth t ≤ (flat t).length
  | .mk n ks => by
    have := depths_le2 ks
    rw [depth_mk, flat_mk, List.length_cons]
    split <;> omega
theorem depths_le2 : ∀ ts : List (Tr Nd), depths ts ≤ (flats ts).length
  | [] => by simp
  | t :: ts => by
    have h1 := depth_le t
    have h2 := depths_le2 ts
    rw [depths_cons, flats_cons, List.length_append]
    omega
end

set_option maxRecDepth 100000 in
set_option maxHeartbeats 4000000 in
theorem refDepth_upto : ∀ (N : Nat) (t : Tr Nd), (flat t).length ≤ N → ∀ (v : Value) (w : World), Nds w v (flat t) → (flat t).length ≤ 65536 → Val t →
    Calls Tryd.prog 16 #[v] w fun e w' => e = .returned (.int .i64 (depth t : Nat)) ∧ Below w.heap.size w w'
  | 0, t, h, _, _, _, _, _ => absurd h (by have := flat_pos t; omega)
  | N + 1, t, hN, v, w, hv, hl, ht => by
    have IH := Lib.hid (refDepth_upto N)
    have hvo := hv
    obtain ⟨g, o, c, rfl, hc, hcm, hg, hx⟩ := hvo.opened (flat_pos t)
    have a0 : w.cell? ⟨g, o, none⟩ = some (.int .i64 t.nd.kind) := by
      have := (hx 0 t.nd (by rw [flat_eq]; rfl)).nd.c0
      simpa using this
    have HPA := Lib.hid (refParts_any _ t w hv hl ht)
    have HT := Lib.hid ht
    have hpos := flat_pos t
    have hfl : (flat t).length = 1 + (flats t.ks).length := by rw [flat_eq]; simp; omega
    have HFL := Lib.hid hfl
    have HNN := Lib.hid hN
    have HL := Lib.hid hl
    clear hx hv hvo hfl hN
    generalize hn : (flat t).length = n at *
    clear hn
    by_cases hcn : t.nd.kind = 5 ∨ t.nd.kind = 6
    · have HD : Hid (depth t = depths t.ks + 1) := Lib.hid (by rw [depth_eq, if_pos (by rcases hcn with h | h <;> rw [h] <;> rfl)])
      have e56 : (t.nd.kind != 5) = false ∨ (t.nd.kind != 5) = true ∧ (t.nd.kind != 6) = false := by
        rcases hcn with h | h
        · exact .inl (by simp [h])
        · exact .inr ⟨by simp [h], by simp [h]⟩
      clear hcn
      rcases e56 with e5 | ⟨e5, e6⟩
      all_goals
        go_enter Tryd.func16, Tryd.ntmps16
        go_wp2_with fail
        refine HPA.out.mono ?_
        rintro e w1 h1
        obtain ⟨A1, c1, rfl, hp1, hb1⟩ := h1.is (n := t.ks.length) (by simp)
        obtain ⟨us, hul, ⟨A1', c1', hv1, -, -, -, hx1⟩, hue⟩ := hp1
        injection hv1 with e1 e2 e3
        subst e1 e3
        rw [← e2] at hx1
        have HX1 := Lib.hid hx1
        have HUE := Lib.hid hue
        have HUL : Hid (us.length = t.ks.length) := Lib.hid e2.symm
        have HB1 := Lib.hid hb1
        clear hul hx1 hue e2 h1 hb1
        have hq60 : t.ks.length ≤ 65536 := by
          have h1 := flats_len t.ks
          have h2 := HFL.out
          have := HL.out
          omega
        generalize hq : t.ks.length = q at *
        have HQ := Lib.hid hq; clear hq
        go_wp2_with fail
        go_loopw [4, 5] (fun nv iv wr => ∃ k d : Nat, k ≤ q ∧ iv = .int .i64 k ∧ nv = .int .i64 (d : Nat) ∧ d = depths (t.ks.take k) ∧ Below w1.heap.size w1 wr) (fun _ iv _ => q - (intOf iv).toNat)
        case atStart => exact ⟨0, 0, Nat.zero_le _, rfl, rfl, by simp, Below.refl _ _⟩
        case round =>
          obtain ⟨k, d, hk, rfl, rfl, hd, hb⟩ := hrel
          have HDD := Lib.hid hd
          have HB := Lib.hid hb
          clear hd
          by_cases hlt : k < q
          · obtain ⟨g8, o8, rfl, hg8, hx8⟩ := HX1.out (by omega)
            obtain ⟨x, hxk⟩ : ∃ a, us[k]? = some a := ⟨_, List.getElem?_eq_getElem (by rw [HUL.out]; exact hlt)⟩
            obtain ⟨kk, hkk⟩ : ∃ a, t.ks[k]? = some a := ⟨_, List.getElem?_eq_getElem (by rw [HQ.out]; exact hlt)⟩
            have b0 := (hb.cell (p := ⟨g8, o8 + k, none⟩) hg8).trans (hx8 k x hxk).one
            have HRX : Hid (Nds wr x (flat (nmd [] kk))) := Lib.hid ((HUE.out k x _ hxk (by rw [List.getElem?_map, hkk]; rfl)).below hb)
            have hmem := List.mem_of_getElem? hkk
            have HMEM := Lib.hid hmem
            have HKL : Hid ((flat (nmd [] kk)).length ≤ N ∧ (flat (nmd [] kk)).length ≤ 65536) := Lib.hid (by
              rw [flat_nmd_len]
              have h1 := len_flats hmem
              have h2 := HFL.out
              have h3 := HNN.out
              have h4 := HL.out
              omega)
            have HDS : Hid (depths (t.ks.take (k + 1)) = max d (depth kk)) := Lib.hid (by rw [List.take_add_one, hkk, HDD.out]; exact depths_snoc _ _)
            have HC := Lib.hid (IH.out (nmd [] kk) HKL.out.1 x wr HRX.out HKL.out.2 (part_val HT.out HMEM.out))
            rw [depth_nmd] at HC
            generalize depth kk = dk at HC HDS
            clear hmem hkk hxk hx8 hb
            go_wp2_with fail
            refine HC.out.mono ?_
            rintro e w2 ⟨rfl, hb2⟩
            have HB2 := Lib.hid (Below.after HB.out hb2)
            clear hb2 b0
            go_wp2_with fail
            go_roundw
            case rel => exact ⟨k + 1, max d dk, by omega, by go_num, by congr 1; omega, HDS.out.symm, HB2.out⟩
            case measure => simp [intOf]; omega
          · have HE : Hid (depth t = d + 1) := Lib.hid (by rw [HD.out, HDD.out, List.take_of_length_le (by rw [HQ.out]; omega)])
            have hdb : d ≤ 65536 := by
              have h1 := depths_le2 t.ks
              have h2 := HDD.out
              rw [List.take_of_length_le (by rw [HQ.out]; omega)] at h2
              have h3 := HFL.out
              have h4 := HL.out
              omega
            go_wp2_with fail
            go_ret
            exact ⟨ret_i64 (by rw [HE.out]; go_num), Below.after HB1.out HB.out⟩
    · have HD : Hid (depth t = 0) := Lib.hid (depth_leaf (fun h => hcn (.inl h)) (fun h => hcn (.inr h)))
      have e5 : (t.nd.kind != 5) = true := by simp; exact fun h => hcn (.inl h)
      have e6 : (t.nd.kind != 6) = true := by simp; exact fun h => hcn (.inr h)
      clear hcn
      go_enter Tryd.func16, Tryd.ntmps16
      go_wp2_with fail
      go_ret
      exact ⟨ret_i64 (by rw [HD.out]; rfl), Below.refl _ _⟩
end Go.Proofs.YtoomgpbfcpnefaaDoor
