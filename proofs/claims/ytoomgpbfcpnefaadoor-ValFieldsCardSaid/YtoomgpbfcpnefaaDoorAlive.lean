/-
  What the live question answers: true.
-/
import Derived.Test.YtoomgpbfcpnefaaDoorValW11
import Derived.Test.YtoomgpbfcpnefaaDoorValW12
import Derived.Test.YtoomgpbfcpnefaaDoorValW4
import Derived.Test.YtoomgpbfcpnefaaDoorRefW2
namespace Go.Proofs.YtoomgpbfcpnefaaDoor
open Go.RowKit Np Rw Vp

/-- A row of nodes comes out, with its length. -/
def IsN (w : World) (l : List Nd) (n : Nat) (e : Ending) (w' : World) : Prop := ∃ (A : Option Addr) (c : Nat), e = .returned (.slice A n c) ∧ Nds w' (.slice A n c) l ∧ Below w.heap.size w w'
def IsO (w : World) (l : List Nd) (n : Nat) (k : Int) (e : Ending) (w' : World) : Prop := ∃ (A : Option Addr) (c : Nat), e = .returned (.tuple #[.slice A n c, .int .i64 k]) ∧ Nds w' (.slice A n c) l ∧ Below w.heap.size w w'
def IsF (w : World) (l : List Nd) (n : Nat) (b : Bool) (e : Ending) (w' : World) : Prop := ∃ (A : Option Addr) (c : Nat), e = .returned (.tuple #[.slice A n c, .bool b]) ∧ Nds w' (.slice A n c) l ∧ Below w.heap.size w w'
theorem OwnsN.is {w w' : World} {l : List Nd} {n : Nat} {e : Ending} (h : OwnsN w l e w') (hn : l.length = n) : IsN w l n e w' := by
  obtain ⟨v, rfl, h1, h2⟩ := h
  have h3 := h1.row ndc_len
  obtain ⟨A, c, rfl, h4⟩ := h3
  rw [← hn]
  exact ⟨A, c, rfl, ⟨A, c, rfl, h4⟩, h2⟩
theorem GivesO.is {w w' : World} {names : List (List UInt8)} {L : List (List Nd)} {n : Nat} {e : Ending} (h : GivesO w names L e w') (hn : (objV names L).length = n) : IsO w (objV names L) n (objE names L) e w' := by
  obtain ⟨v, rfl, h1, h2⟩ := h
  obtain ⟨A, c, rfl, h4⟩ := h1.row ndc_len
  rw [← hn]
  exact ⟨A, c, rfl, ⟨A, c, rfl, h4⟩, h2⟩
theorem GivesO.own {w w' : World} {names : List (List UInt8)} {L : List (List Nd)} {n : Nat} {e : Ending} (h : GivesO w names L e w') (hn : (objV names L).length = n) : ∃ (A : Option Addr) (c : Nat), e = .returned (.tuple #[.slice A n c, .int .i64 (objE names L)]) ∧ OwnN w.heap.size w' (.slice A n c) (objV names L) ∧ Below w.heap.size w w' := by
  obtain ⟨v, rfl, h1, h2⟩ := h
  obtain ⟨A, c, rfl, h4⟩ := h1.row ndc_len
  rw [← hn]
  exact ⟨A, c, rfl, h1, h2⟩
theorem GivesF.is {w w' : World} {nm : List UInt8} {t : Tr Nd} {n : Nat} {e : Ending} (h : GivesF w nm t e w') (hn : (fieldV nm t).length = n) : IsF w (fieldV nm t) n (fieldB nm t) e w' := by
  obtain ⟨v, rfl, h1, h2⟩ := h
  obtain ⟨A, c, rfl, h4⟩ := h1
  rw [← hn]
  exact ⟨A, c, rfl, ⟨A, c, rfl, h4⟩, h2⟩

abbrev trueN : Nd := ⟨2, 0, [], [], false, 0⟩
def oneT : Tr Nd := .mk trueN []
def twoT : Tr Nd := arrT [oneT, oneT]
def obT : Tr Nd := objT [nmd [97] oneT, nmd [98] twoT]
theorem one_val : Val oneT := ⟨okT_mk.2 ⟨rfl, by simp⟩, by rw [oneT, rightT_mk]; rfl, rfl⟩
theorem two_val : Val twoT := val_arrT (by intro t ht; simp at ht; rw [ht]; exact one_val)
theorem vld_a : vld [97] = true := by decide
theorem vld_b : vld [98] = true := by decide
theorem ob_val : Val obT := val_objT (by
    intro t ht
    simp at ht
    rcases ht with rfl | rfl
    · exact ⟨okT_nmd one_val.ok, by rw [rightT_nmd]; exact one_val.rt⟩
    · exact ⟨okT_nmd two_val.ok, by rw [rightT_nmd]; exact two_val.rt⟩) ⟨by simp [Rise, nmd_name]; decide, by
    intro t ht
    simp at ht
    rcases ht with rfl | rfl
    · exact vld_a
    · exact vld_b⟩
def oneL : List Nd := [trueN]
def twoL : List Nd := [hdN 5 2, trueN, trueN]
def obL : List Nd := [hdN 6 2, nmN [97] trueN, nmN [98] (hdN 5 2), trueN, trueN]
theorem flat_one : flat oneT = oneL := by simp [oneT, oneL, flat]
theorem flat_two : flat twoT = twoL := by rw [twoT, flat_arrT]; simp [oneT, twoL, flat]
theorem flat_ob : flat obT = obL := by rw [obT, flat_objT]; simp [nmd, oneT, twoT, arrT, obL, flat]
theorem list_two : hdN 5 [oneL, oneL].length :: laid ([oneL, oneL].map fun l => ([], l)) = twoL := by decide
theorem srt_two : srt ([[98], [97]].zip [twoL, oneL]) = [([97], oneL), ([98], twoL)] := srt_of (List.Perm.swap _ _ _) (by simp [rises]; decide)
theorem objB_two : objB [[98], [97]] [twoL, oneL] = true := by
  rw [objB, okNames, List.all_cons, List.all_cons, vld_a, vld_b]; decide
theorem obj_two : objV [[98], [97]] [twoL, oneL] = obL ∧ objE [[98], [97]] [twoL, oneL] = 0 := by
  refine ⟨?_, by rw [objE, objB_two]; rfl⟩
  rw [objV, objB_two, if_pos rfl, srt_two]; decide
theorem obj_twice : objV [[98], [98]] [oneL, oneL] = [] ∧ objE [[98], [98]] [oneL, oneL] = 4 := by
  have : objB [[98], [98]] [oneL, oneL] = false := by simp [objB, okNames]
  exact ⟨by rw [objV, this]; rfl, by rw [objE, this]; rfl⟩
theorem mid_ob : midT [98] obT = [nmd [98] twoT] := by rw [midT, if_pos (show obT.nd.kind = 6 from rfl)]; simp [obT, objT, nmd_name]
theorem field_ob : fieldV [98] obT = twoL ∧ fieldB [98] obT = true := by
  refine ⟨?_, by rw [fieldB, mid_ob]; rfl⟩
  rw [fieldV, mid_ob, ← flat_two]
  show flat (nmd [] (nmd [98] twoT)) = _
  rw [nmd_val two_val]
theorem depth_ob : depth obT = 2 := by
  have h1 : depth oneT = 0 := by rw [depth_eq]; rfl
  have h2 : depth (nmd [97] oneT) = 0 := by rw [depth_eq]; rfl
  have h3 : depth (nmd [98] twoT) = 1 := by rw [depth_eq, if_pos (show cont (nmd [98] twoT).nd.kind = true from rfl), nmd_ks]; simp [twoT, arrT, h1]
  rw [depth_eq, if_pos (show cont obT.nd.kind = true from rfl)]
  simp [obT, objT, h2, h3]

theorem row_one {α : Type} {enc : α → List Value} {sz : Nat} (hl : ∀ x, (enc x).length = sz) (W : World) (n : Nat) (hn : W.heap.size = n) (E : TypeId) (cs : Array Value) (x : α) (hc : cs.toList = enc x) :
    Row enc sz (W.alloc (.cells cs E)) (.slice (some ⟨n, 0, none⟩) 1 1) [x] := by
  subst hn
  exact Row.lit hl W E cs [x] (by unfold maxLen; simp) (by rw [hc]; simp)
theorem sts_two (W : World) (n : Nat) (hn : W.heap.size = n) (E : TypeId) (a b : List UInt8) : Sts (W.alloc (.cells #[.string ⟨a.toArray⟩, .string ⟨b.toArray⟩] E)) (.slice (some ⟨n, 0, none⟩) 2 2) [a, b] := by
  subst hn
  exact Row.lit stc_len W E _ [a, b] (by unfold maxLen; simp) rfl
theorem vls_two (W : World) (n : Nat) (hn : W.heap.size = n) (E : TypeId) (a b : Value) (l1 l2 : List Nd) (h1 : Nds W a l1) (h2 : Nds W b l2) : Vls (W.alloc (.cells #[a, b] E)) (.slice (some ⟨n, 0, none⟩) 2 2) [l1, l2] := by
  subst hn
  have hb : Below W.heap.size W (W.alloc (.cells #[a, b] E)) := (Below.refl _ _).alloc (Nat.le_refl _) _
  refine ⟨[a, b], rfl, Row.lit vac_len W E _ [a, b] (by unfold maxLen; simp) rfl, fun k x l hx hk => ?_⟩
  match k, hx, hk with
  | 0, hx, hk => simp at hx hk; subst hx hk; exact h1.below hb
  | 1, hx, hk => simp at hx hk; subst hx hk; exact h2.below hb
  | k + 2, hx, hk => simp at hx

set_option maxRecDepth 100000 in
set_option maxHeartbeats 4000000 in
theorem alive_any (w : World) (hT : Tabs w) :
    Calls Tryd.prog 10 #[] w fun e w' => e = .returned (.bool true) ∧ Below w.heap.size w w' := by
  have HT := Lib.hid hT
  clear hT
  go_enter Tryd.func10, Tryd.ntmps10
  go_wp2_with fail
  have hone : Nds (w.alloc (.cells #[.int .i64 2, .int .i64 0, .string ⟨#[]⟩, .string ⟨#[]⟩, .bool false, .int .i64 0] 44)) (.slice (some ⟨w.heap.size, 0, none⟩) 1 1) oneL := row_one ndc_len w _ rfl _ _ trueN rfl
  have hB0 : Below w.heap.size w (w.alloc (.cells #[.int .i64 2, .int .i64 0, .string ⟨#[]⟩, .string ⟨#[]⟩, .bool false, .int .i64 0] 44)) := (Below.refl _ _).alloc (Nat.le_refl _) _
  have hs0 : (w.alloc (.cells #[.int .i64 2, .int .i64 0, .string ⟨#[]⟩, .string ⟨#[]⟩, .bool false, .int .i64 0] 44)).heap.size = w.heap.size + 1 := by simp
  generalize w.alloc (.cells #[.int .i64 2, .int .i64 0, .string ⟨#[]⟩, .string ⟨#[]⟩, .bool false, .int .i64 0] 44) = W0 at hone hB0 hs0 ⊢
  have HS0 := Lib.hid hs0
  clear hs0
  have hL := list_any _ [oneL, oneL] _ (vls_two W0 _ HS0.out 23 _ _ _ _ hone hone) (by decide) (by decide)
  rw [list_two] at hL
  refine hL.mono ?_
  rintro e w1 h1
  obtain ⟨A1, c1, rfl, hl1, hb1⟩ := h1.is (n := 3) rfl
  have hBa : Below W0.heap.size W0 w1 := ((Below.refl _ _).alloc (Nat.le_refl _) _).trans (hb1.mono (by simp))
  have hone1 := Lib.hid (hone.below hBa)
  have HL1 := Lib.hid hl1
  have HB1 := Lib.hid (Below.after hB0 hBa)
  clear hL hone hB0 hl1 hb1 hBa h1
  go_wp2_with fail
  have hO := object_any _ _ [[98], [97]] [twoL, oneL] _ ((sts_two w1 _ rfl 9 [98] [97]).below ((Below.refl _ _).alloc (Nat.le_refl _) _)) (vls_two (w1.alloc (.cells #[.string ⟨#[98]⟩, .string ⟨#[97]⟩] 9)) (w1.heap.size + 1) (by simp) 23 _ _ _ _ (HL1.out.below ((Below.refl _ _).alloc (Nat.le_refl _) _)) (hone1.out.below ((Below.refl _ _).alloc (Nat.le_refl _) _))) (by decide) (by decide) (by intro x hx; simp at hx; unfold maxLen; rcases hx with rfl | rfl <;> simp) ((HT.out.below HB1.out).below (((Below.refl _ _).alloc (Nat.le_refl _) _).alloc (by simp) _))
  refine hO.mono ?_
  rintro e w2 h2
  obtain ⟨A2, c2, h2e, hl2, hb2⟩ := h2.is (n := 5) (by rw [obj_two.1]; rfl)
  rw [obj_two.1] at hl2
  rw [obj_two.2] at h2e
  subst h2e
  have hBb : Below w1.heap.size w1 w2 := (((Below.refl _ _).alloc (Nat.le_refl _) _).alloc (by simp) _).trans (hb2.mono (by simp; omega))
  have hone2 := Lib.hid (hone1.out.below hBb)
  have HL2 := Lib.hid (HL1.out.below hBb)
  have HO2 := Lib.hid hl2
  have HB2 := Lib.hid (Below.after HB1.out hBb)
  clear hO hl2 hb2 hBb h2 hone1 HL1 HB1
  go_wp2_with fail
  have hP := object_any _ _ [[98], [98]] [oneL, oneL] _ ((sts_two w2 _ rfl 9 [98] [98]).below ((Below.refl _ _).alloc (Nat.le_refl _) _)) (vls_two (w2.alloc (.cells #[.string ⟨#[98]⟩, .string ⟨#[98]⟩] 9)) (w2.heap.size + 1) (by simp) 23 _ _ _ _ (hone2.out.below ((Below.refl _ _).alloc (Nat.le_refl _) _)) (hone2.out.below ((Below.refl _ _).alloc (Nat.le_refl _) _))) (by decide) (by decide) (by intro x hx; simp at hx; unfold maxLen; rw [hx]; simp) ((HT.out.below HB2.out).below (((Below.refl _ _).alloc (Nat.le_refl _) _).alloc (by simp) _))
  refine hP.mono ?_
  rintro e w3 h3
  obtain ⟨A3, c3, h3e, hl3, hb3⟩ := h3.is (n := 0) (by rw [obj_twice.1]; rfl)
  rw [obj_twice.2] at h3e
  subst h3e
  have hBc : Below w2.heap.size w2 w3 := (((Below.refl _ _).alloc (Nat.le_refl _) _).alloc (by simp) _).trans (hb3.mono (by simp; omega))
  have HL3 := Lib.hid (HL2.out.below hBc)
  have HO3 := Lib.hid (HO2.out.below hBc)
  have HB3 := Lib.hid (Below.after HB2.out hBc)
  clear hP hl3 hb3 hBc h3 hone2 HL2 HO2 HB2
  go_wp2_with fail
  have hF := field_any _ obT [98] w3 (by rw [flat_ob]; exact HO3.out) (by rw [flat_ob]; decide) ob_val
  refine hF.mono ?_
  rintro e w4 h4
  obtain ⟨A4, c4, h4e, hl4, hb4⟩ := h4.is (n := 3) (by rw [field_ob.1]; rfl)
  rw [field_ob.2] at h4e
  rw [field_ob.1] at hl4
  subst h4e
  have HL4 := Lib.hid (HL3.out.below hb4)
  have HO4 := Lib.hid (HO3.out.below hb4)
  have HX4 := Lib.hid hl4
  have HB4 := Lib.hid (Below.after HB3.out hb4)
  obtain ⟨g, o, rfl, hc5, hcm, a2⟩ : ∃ g o : Nat, A2 = some ⟨g, o, none⟩ ∧ 5 ≤ c2 ∧ c2 ≤ maxLen ∧ w4.cell? ⟨g, o + 6 + 2, none⟩ = some (.string ⟨#[97]⟩) := by
    obtain ⟨g, o, c, hv, hc, hcm, hg, hx⟩ := HO4.out.opened (by decide)
    injection hv with e1 _ e3
    exact ⟨g, o, e1, by rw [e3]; exact hc, by rw [e3]; exact hcm, (hx 1 _ rfl).nd.c2⟩
  clear hF hl4 hb4 h4 HL3 HO3 HB3
  go_wp2_with fail
  have hS := same_any _ _ _ _ _ HX4.out HL4.out
  rw [show decide (twoL = twoL) = true by simp] at hS
  refine hS.mono ?_
  rintro e w5 ⟨rfl, hb5⟩
  have HO5 := Lib.hid (HO4.out.below hb5)
  have HB5 := Lib.hid (Below.after HB4.out hb5)
  clear hS hb5 HX4 HL4 HO4 HB4 a2
  go_wp2_with fail
  have hD := depthV_any _ obT w5 (by rw [flat_ob]; exact HO5.out) (by rw [flat_ob]; decide) ob_val
  rw [depth_ob] at hD
  refine hD.mono ?_
  rintro e w6 ⟨rfl, hb6⟩
  have HO6 := Lib.hid (HO5.out.below hb6)
  have HB6 := Lib.hid (Below.after HB5.out hb6)
  clear hD hb6 HO5 HB5
  go_wp2_with fail
  have hR := rightV_any _ obL w6 HO6.out (by decide) (by
      intro n hn
      unfold maxLen
      simp [obL, nmN, hdN] at hn
      rcases hn with rfl | rfl | rfl | rfl <;> simp) (by
      intro n hn
      simp [obL, nmN, hdN] at hn
      rcases hn with rfl | rfl | rfl | rfl <;> simp) (HT.out.below HB6.out)
  rw [show rightL obL = true by rw [← flat_ob]; exact rightL_val ob_val] at hR
  refine hR.mono ?_
  rintro e w7 ⟨rfl, hb7⟩
  have HB7 := Lib.hid (Below.after HB6.out hb7)
  clear hR hb7 HO6 HB6
  go_wp2_with fail
  have hN := rightV_any _ [] w7 (Row.nil _) (by decide) (by intro n hn; cases hn) (by intro n hn; cases hn) (HT.out.below HB7.out)
  rw [rightL_empty] at hN
  refine hN.mono ?_
  rintro e w8 ⟨rfl, hb8⟩
  have HB8 := Lib.hid (Below.after HB7.out hb8)
  clear hN hb8 HB7
  go_wp2_with fail
  go_ret
  exact ⟨rfl, HB8.out⟩
end Go.Proofs.YtoomgpbfcpnefaaDoor
