/-
  What val's With and Without answer, of an object.
-/
import Derived.Test.YtoomgpbfcpnefaaDoorConcW
import Derived.Test.YtoomgpbfcpnefaaDoorPutP
import Derived.Test.YtoomgpbfcpnefaaDoorValW12
import Derived.StillTailTactics
namespace Go.Proofs.YtoomgpbfcpnefaaDoor
open Go.RowKit Np Rw Vp

theorem Row.front {α : Type} {enc : α → List Value} {sz g o c : Nat} {w : World} {l : List α} (h : Row enc sz w (.slice (some ⟨g, o, none⟩) l.length c) l) (k : Nat) (hk : k ≤ l.length) (hkc : k ≤ c) (hcm : c ≤ maxLen) :
    Row enc sz w (.slice (some ⟨g, o, none⟩) k c) (l.take k) := by
  have hl : (l.take k).length = k := by simp; omega
  refine ⟨_, c, by rw [hl], by rw [hl]; exact hkc, hcm, fun h => (by cases h), fun h0 => ?_⟩
  rw [hl] at h0
  obtain ⟨A, c', hv, hc, hm, -, H⟩ := h
  injection hv with e1 _ e3
  obtain ⟨g', o', hA, hg, hx⟩ := H (by omega)
  rw [hA] at e1
  injection e1 with e1
  injection e1 with e1 e2
  subst e1 e2
  refine ⟨g, o, rfl, hg, fun i y hi => hx i y ?_⟩
  rw [List.getElem?_take] at hi
  split at hi
  · exact hi
  · cases hi
/-- The rest of a row, wherever its slice is said to begin. -/
theorem Row.back {α : Type} {enc : α → List Value} {sz g o c : Nat} {w : World} {l : List α} (h : Row enc sz w (.slice (some ⟨g, o, none⟩) l.length c) l) (k : Nat) (hk : k ≤ l.length) (hc : l.length ≤ c) (_hcm : c ≤ maxLen) :
    Row enc sz w (.slice (some (if k = c then ⟨g, o, none⟩ else ⟨g, o + k * sz, none⟩)) (l.length - k) (c - k)) (l.drop k) := by
  split
  · rename_i e
    have e1 : l.length - k = 0 := by omega
    have e2 : l.drop k = [] := List.drop_of_length_le (by omega)
    rw [e1, e2]
    exact Row.empty _ _ _ (by omega)
  · exact h.rest k hk

/-- A row of the call's own that begins with an object's node: how many parts it has can be written. -/
theorem head_end {gs : Nat} {w : World} {A : Option Addr} {N c K : Nat} {rest : List Nd} (h : OwnN gs w (.slice A N c) (hdN 6 K :: rest)) :
    ∃ g', A = some ⟨g', 0, none⟩ ∧ N = rest.length + 1 ∧ N ≤ c ∧ w.cell? ⟨g', 1, none⟩ = some (.int .i64 K) ∧ w.frozen? ⟨g', 1, none⟩ = false ∧ gs ≤ g' ∧
      ∀ K' : Nat, OwnN gs (w.setCell ⟨g', 1, none⟩ (.int .i64 (K' : Int))) (.slice (some ⟨g', 0, none⟩) N c) (hdN 6 K' :: rest) := by
  obtain ⟨hN, hc, -⟩ := h.cap
  obtain ⟨g', cap, hv, hb, -⟩ := h.opened (by simp)
  injection hv with e1 e2 e3
  subst e1 e3
  have h' : OwnN gs w (.slice (some ⟨g', 0, none⟩) (hdN 6 K :: rest).length c) (hdN 6 K :: rest) := by rw [← hN]; exact h
  have h1 : w.cell? ⟨g', 0 * 6 + 1, none⟩ = some (.int .i64 (K : Int)) := Own.cell ndc_len (k := 0) (j := 1) h' rfl rfl
  refine ⟨g', rfl, by rw [hN]; rfl, hc, by simpa using h1, h'.free 1, hb, fun K' => ?_⟩
  have h2 := Own.put ndc_len (k := 0) (j := 1) (y := hdN 6 K') (u := .int .i64 (K' : Int)) h' rfl (by decide) rfl
  rw [hN]
  simpa using h2

set_option maxRecDepth 100000 in
set_option maxHeartbeats 4000000 in
theorem withV_any (v p : Value) (t x : Tr Nd) (nm : List UInt8) (w : World) (hv : Nds w v (flat t)) (hp : Nds w p (flat x)) (hl : (flat t).length ≤ 65536) (hlx : (flat x).length ≤ 65536) (ht : Val t) (hk : t.nd.kind = 6) :
    Calls Tryd.prog 32 #[v, .string ⟨nm.toArray⟩, p] w (OwnsN w (flat (withT nm x t))) := by
  have hvo : Nds w v (t.nd :: flats t.ks) := by rw [← flat_eq]; exact hv
  have HIO := Lib.hid (isObject_any v t.nd (flats t.ks) w hvo)
  clear hvo
  have hcut := ht.cut hk nm
  have hlen := len_parts ht hk nm
  have hnd : t.nd = hdN 6 t.ks.length := by have := ht.hd (.inr hk); rwa [hk] at this
  have hkl : t.ks.length = (loT nm t.ks).length + (eqT nm t.ks).length + (hiT nm t.ks).length := by
    have := congrArg List.length hcut.all; simp at this; omega
  have HFT : Hid (flat t = (t.nd :: flats (loT nm t.ks)) ++ (flats (eqT nm t.ks) ++ flats (hiT nm t.ks))) := Lib.hid (by
    rw [flat_eq]; conv => lhs; rw [hcut.all, flats_append, flats_append]
    rfl)
  have HWT : Hid (flat (withT nm x t) = hdN 6 ((loT nm t.ks).length + ((hiT nm t.ks).length + 1)) :: (flats (loT nm t.ks) ++ (setNm nm (flat x) ++ flats (hiT nm t.ks)))) := Lib.hid (by
    rw [withT, flat_objT, flats_append, flats_append]; simp [flat_nmd])
  obtain ⟨a, b, ha, hb, hab, hbn, hf⟩ : ∃ a b : Nat, a = (t.nd :: flats (loT nm t.ks)).length ∧ b = a + (flats (eqT nm t.ks)).length ∧ a ≤ b ∧ b ≤ (flat t).length ∧ Calls Tryd.prog 54 #[v, .string ⟨nm.toArray⟩] w fun e w' => e = .returned (.tuple #[.int .i64 a, .int .i64 b]) ∧ Below w.heap.size w w' := by
    have h := find_any v t nm w hv hl ht
    rw [hcut.find 1] at h
    exact ⟨1 + (flats (loT nm t.ks)).length, 1 + (flats (loT nm t.ks)).length + (flats (eqT nm t.ks)).length, by simp; omega, rfl, by omega, by omega, h⟩
  have HF := Lib.hid hf
  have HA := Lib.hid ha
  have HB := Lib.hid hb
  obtain ⟨g, o, c, rfl, hc, hcm, hg, -⟩ := hv.opened (flat_pos t)
  have HV := Lib.hid hv
  have HP := Lib.hid hp
  have HE : Hid (a = b ↔ eqT nm t.ks = []) := Lib.hid (by
    rw [hb]
    rcases eq_cases ht hk nm with h | ⟨u, h, -⟩
    · rw [h]; simp
    · rw [h]
      have h1 := flat_pos u
      rw [flats_cons, List.length_append]
      refine ⟨fun h2 => ?_, fun h2 => by cases h2⟩
      omega)
  have HONE := Lib.hid hcut.one
  have HND := Lib.hid hnd
  have HKL := Lib.hid hkl
  have HK : Hid (decide (t.nd.kind = 6) = true) := Lib.hid (by simp [hk])
  have HFR : Hid (Nds w (.slice (some ⟨g, o, none⟩) a c) (t.nd :: flats (loT nm t.ks))) := Lib.hid (by
    have := hv.front a (by omega) (by omega) hcm
    rwa [HFT.out, HA.out, List.take_left, ← HA.out] at this)
  have HBK : Hid (Nds w (.slice (some (if b = c then ⟨g, o, none⟩ else ⟨g, o + b * 6, none⟩)) ((flat t).length - b) (c - b)) (flats (hiT nm t.ks))) := Lib.hid (by
    have := hv.back b hbn hc hcm
    have e : (flat t).drop b = flats (hiT nm t.ks) := by rw [HFT.out, HB.out, HA.out, ← List.append_assoc, ← List.length_append, List.drop_left]
    rwa [e] at this)
  have hpv := HP.out
  obtain ⟨A2, c2, rfl, -, -, -, -⟩ := hpv
  have HLL := Lib.hid hlen
  clear hv hp hcut hf ha hb hlen hnd hkl hk
  have hapos : 1 ≤ a := by rw [HA.out]; simp
  generalize hn : (flat t).length = n at *
  have HN := Lib.hid hn; clear hn
  generalize hm : (flat x).length = m at *
  have HM := Lib.hid hm; clear hm
  have hmk := make_nodes 0 (n + m) (by omega) (by omega)
  have HMK := Lib.hid hmk; clear hmk
  have hnm1 : 1 ≤ n + m := by omega
  go_enter Tryd.func32, Tryd.ntmps32
  go_wp2_with (go_at_call 48; refine HIO.out.mono ?_; rintro e w1 ⟨rfl, rfl⟩; rw [HK.out])
  refine HF.out.mono ?_
  rintro e w1 ⟨rfl, hb1⟩
  have hmk := HMK.out w1
  have HO1 : Hid (OwnN w1.heap.size (w1.alloc (.cells (madeCells (ndc zeroN).toArray ((n + m) * 6)) 44)) (.slice (some ⟨w1.heap.size, 0, none⟩) 0 (n + m)) []) := Lib.hid (by
    have := Own.made (E := 44) (base := w1.heap.size) ndc_len (by decide) w1 zeroN (ndc zeroN).toArray rfl 0 (n + m) (by omega) (by unfold maxLen; omega) (Nat.le_refl _)
    simpa using this)
  simp only [Int.natCast_zero, Int.natCast_add] at hmk
  generalize madeCells (ndc zeroN).toArray ((n + m) * 6) = cs at hmk HO1
  have HB1 := Lib.hid hb1
  have HW2 : Hid (Below w1.heap.size w1 (w1.alloc (.cells cs 44))) := Lib.hid ((Below.refl _ _).alloc (Nat.le_refl _) _)
  have HLEN : Hid ((t.nd :: flats (loT nm t.ks)).length = a ∧ a ≤ 65536) := Lib.hid ⟨HA.out.symm, by omega⟩
  generalize hl1 : t.nd :: flats (loT nm t.ks) = l1 at HFR HLEN
  have HL1 := Lib.hid hl1
  clear hl1
  generalize hW : w1.alloc (.cells cs 44) = W2 at hmk HO1 HW2
  generalize hgs : w1.heap.size = gs at hmk HO1
  have hgs1 : w1.heap.size ≤ gs := by omega
  go_wp2_with (at_builtin; refine wpList_append_row (base := gs) elNode rfl _ _ rfl rfl HO1.out rfl (HFR.out.below (Below.after HB1.out HW2.out)) ?_ ?_ ?_ ?_)
  · have := HLEN.out; unfold maxLen; simp only [List.length_nil]; omega
  · have := HLEN.out; simp only [List.length_nil]; omega
  · have := HW2.out.size; omega
  · intro A3 c3 w3 hown3 hg3 _
    have HO3 : Hid (OwnN gs w3 (.slice A3 l1.length c3) l1) := Lib.hid hown3
    have HB3 : Hid (Below w1.heap.size w1 w3) := Lib.hid (HW2.out.trans (hgs ▸ HO1.out.kept hg3 (by have := HW2.out.size; omega)))
    clear hown3 hg3
    rw [HLEN.out.1] at HO3 ⊢
    go_wp2_with fail
    have hLY := lay_any gs _ _ l1 (flat x) nm w3 HO3.out (HP.out.below (Below.after HB1.out HB3.out)) (by have := HB3.out.size; have := HW2.out.size; omega) (by rw [HLEN.out.1, HM.out]; have := HLEN.out.2; omega)
    refine hLY.mono ?_
    rintro e w4 ⟨v4, rfl, ho4, hg4⟩
    have HL2 : Hid ((l1 ++ setNm nm (flat x)).length = a + m) := Lib.hid (by rw [List.length_append, HLEN.out.1, setNm_len, HM.out])
    generalize hl2 : l1 ++ setNm nm (flat x) = l2 at ho4 HL2
    have HE2 := Lib.hid hl2
    have HO4 := Lib.hid ho4
    have HB4 : Hid (Below w1.heap.size w1 w4) := Lib.hid (HB3.out.trans (hgs ▸ HO3.out.kept hg4 (by have := HB3.out.size; omega)))
    clear hLY hl2 ho4 hg4
    generalize hl3 : flats (hiT nm t.ks) = l3 at HBK
    have HE3 := Lib.hid hl3
    have HL3 : Hid (l3.length = n - b) := Lib.hid (by
      rw [← hl3]
      have h1 := HLL.out
      have h2 := HA.out
      have h3 := HB.out
      simp at h2
      omega)
    clear hl3
    have HBK2 : Hid (∃ ad : Addr, ((b = c ∧ ad = ⟨g, o, none⟩) ∨ (¬ b = c ∧ ad = ⟨g, o + b * 6, none⟩)) ∧ Nds w (.slice (some ad) (n - b) (c - b)) l3) := Lib.hid (by
      refine ⟨_, ?_, HBK.out⟩
      by_cases hbc : b = c
      · exact .inl ⟨hbc, if_pos hbc⟩
      · exact .inr ⟨hbc, if_neg hbc⟩)
    obtain ⟨ad, had, hbk⟩ := HBK2.out
    have HBKA := Lib.hid (hbk.below (Below.after HB1.out HB4.out))
    clear hbk
    have HR : Hid (l2 ++ l3 = hdN 6 t.ks.length :: (flats (loT nm t.ks) ++ (setNm nm (flat x) ++ flats (hiT nm t.ks)))) := Lib.hid (by
      rw [← HE2.out, ← HE3.out, ← HL1.out, ← HND.out]; simp)
    have HKS : Hid ((a = b → (loT nm t.ks).length + ((hiT nm t.ks).length + 1) = t.ks.length + 1) ∧ (¬ a = b → (loT nm t.ks).length + ((hiT nm t.ks).length + 1) = t.ks.length)) := Lib.hid (by
      have h1 := HKL.out
      have h2 := HONE.out
      refine ⟨fun h => ?_, fun h => ?_⟩
      · rw [HE.out.1 h] at h1; simp at h1; omega
      · have : (eqT nm t.ks).length ≠ 0 := fun h0 => h (HE.out.2 (List.eq_nil_of_length_eq_zero h0))
        omega)
    have HKB : Hid (t.ks.length ≤ 65536) := Lib.hid (by
      have h1 := flats_len t.ks
      have h2 := HN.out
      rw [flat_eq] at h2
      simp at h2
      omega)
    generalize flats (loT nm t.ks) ++ (setNm nm (flat x) ++ flats (hiT nm t.ks)) = rest at HR HWT
    generalize (loT nm t.ks).length + ((hiT nm t.ks).length + 1) = K2 at HKS HWT
    generalize t.ks.length = K at HR HKS HKB
    rcases had with ⟨hbc, rfl⟩ | ⟨hbc, rfl⟩
    · have hz : n - b = 0 ∧ c - b = 0 := by omega
      rw [hz.1, hz.2] at HBKA
      clear hz HBK HBK2
      subst hbc
      go_wp2_with (at_builtin; refine wpList_append_row (base := gs) elNode rfl _ _ rfl rfl HO4.out rfl HBKA.out ?_ ?_ ?_ ?_)
      · have := HL2.out; have := HL3.out; have := HLEN.out.2; unfold maxLen; omega
      · have := HL2.out; have := HL3.out; have := HLEN.out.2; omega
      · have := HB4.out.size; have := HW2.out.size; omega
      · intro A5 c5 w5 hown5 hg5 hwh5
        clear hwh5
        rw [HR.out] at hown5
        obtain ⟨g', rfl, hNr, hNc, hc1, hf1, hgg, hput⟩ := head_end hown5
        have HO5 := Lib.hid hown5
        have HPUT := Lib.hid hput
        have HB5 : Hid (Below w1.heap.size w1 w5) := Lib.hid (HB4.out.trans (hgs ▸ HO4.out.kept hg5 (by have := HB4.out.size; have := HW2.out.size; omega)))
        clear hown5 hput hg5
        have hKb := HKB.out
        generalize l2.length + l3.length = N5 at *
        have hN0 : 0 < N5 := by omega
        clear hNr
        by_cases hab2 : a = b
        · have HK1 : Hid (K2 = K + 1) := Lib.hid (HKS.out.1 hab2)
          subst hab2
          have hw1 : IntKind.i64.wrap ((K : Int) + 1) = K + 1 := IntWalk.i64_in _ (by omega)
          go_wp2_with fail
          go_ret
          refine ⟨_, rfl, ?_, Below.after HB1.out (HB5.out.setCell (by show w1.heap.size ≤ g'; omega) _)⟩
          rw [HWT.out, HK1.out]
          have h := (HPUT.out (K + 1)).mono (base' := w.heap.size) (by have := HB1.out.size; omega)
          rw [show (((K + 1 : Nat)) : Int) = (K : Int) + 1 from by omega] at h
          exact h
        · have HK1 : Hid (K2 = K) := Lib.hid (HKS.out.2 hab2)
          have hne : ((a : Int) == b) = false := by simp; omega
          go_wp2_with fail
          go_ret
          refine ⟨_, rfl, ?_, Below.after HB1.out HB5.out⟩
          rw [HWT.out, HK1.out]
          exact HO5.out.mono (base' := w.heap.size) (by have := HB1.out.size; omega)
    · clear HBK HBK2
      go_wp2_with (at_builtin; refine wpList_append_row (base := gs) elNode rfl _ _ rfl rfl HO4.out rfl HBKA.out ?_ ?_ ?_ ?_)
      · have := HL2.out; have := HL3.out; have := HLEN.out.2; unfold maxLen; omega
      · have := HL2.out; have := HL3.out; have := HLEN.out.2; omega
      · have := HB4.out.size; have := HW2.out.size; omega
      · intro A5 c5 w5 hown5 hg5 hwh5
        clear hwh5
        rw [HR.out] at hown5
        obtain ⟨g', rfl, hNr, hNc, hc1, hf1, hgg, hput⟩ := head_end hown5
        have HO5 := Lib.hid hown5
        have HPUT := Lib.hid hput
        have HB5 : Hid (Below w1.heap.size w1 w5) := Lib.hid (HB4.out.trans (hgs ▸ HO4.out.kept hg5 (by have := HB4.out.size; have := HW2.out.size; omega)))
        clear hown5 hput hg5
        have hKb := HKB.out
        generalize l2.length + l3.length = N5 at *
        have hN0 : 0 < N5 := by omega
        clear hNr
        by_cases hab2 : a = b
        · have HK1 : Hid (K2 = K + 1) := Lib.hid (HKS.out.1 hab2)
          subst hab2
          have hw1 : IntKind.i64.wrap ((K : Int) + 1) = K + 1 := IntWalk.i64_in _ (by omega)
          go_wp2_with fail
          go_ret
          refine ⟨_, rfl, ?_, Below.after HB1.out (HB5.out.setCell (by show w1.heap.size ≤ g'; omega) _)⟩
          rw [HWT.out, HK1.out]
          have h := (HPUT.out (K + 1)).mono (base' := w.heap.size) (by have := HB1.out.size; omega)
          rw [show (((K + 1 : Nat)) : Int) = (K : Int) + 1 from by omega] at h
          exact h
        · have HK1 : Hid (K2 = K) := Lib.hid (HKS.out.2 hab2)
          have hne : ((a : Int) == b) = false := by simp; omega
          go_wp2_with fail
          go_ret
          refine ⟨_, rfl, ?_, Below.after HB1.out HB5.out⟩
          rw [HWT.out, HK1.out]
          exact HO5.out.mono (base' := w.heap.size) (by have := HB1.out.size; omega)
set_option maxRecDepth 100000 in
set_option maxHeartbeats 4000000 in
theorem withoutV_any (v : Value) (t : Tr Nd) (nm : List UInt8) (w : World) (hv : Nds w v (flat t)) (hl : (flat t).length ≤ 65536) (ht : Val t) (hk : t.nd.kind = 6) :
    Calls Tryd.prog 34 #[v, .string ⟨nm.toArray⟩] w (OwnsN w (flat (lessT nm t))) := by
  have hvo : Nds w v (t.nd :: flats t.ks) := by rw [← flat_eq]; exact hv
  have HIO := Lib.hid (isObject_any v t.nd (flats t.ks) w hvo)
  clear hvo
  have hcut := ht.cut hk nm
  have hlen := len_parts ht hk nm
  have hnd : t.nd = hdN 6 t.ks.length := by have := ht.hd (.inr hk); rwa [hk] at this
  have hkl : t.ks.length = (loT nm t.ks).length + (eqT nm t.ks).length + (hiT nm t.ks).length := by
    have := congrArg List.length hcut.all; simp at this; omega
  have HFT : Hid (flat t = (t.nd :: flats (loT nm t.ks)) ++ (flats (eqT nm t.ks) ++ flats (hiT nm t.ks))) := Lib.hid (by
    rw [flat_eq]; conv => lhs; rw [hcut.all, flats_append, flats_append]
    rfl)
  have HWT : Hid (flat (lessT nm t) = hdN 6 ((loT nm t.ks).length + (hiT nm t.ks).length) :: (flats (loT nm t.ks) ++ flats (hiT nm t.ks))) := Lib.hid (by
    rw [lessT, flat_objT, flats_append, flats_append]; simp)
  obtain ⟨a, b, ha, hb, hab, hbn, hf⟩ : ∃ a b : Nat, a = (t.nd :: flats (loT nm t.ks)).length ∧ b = a + (flats (eqT nm t.ks)).length ∧ a ≤ b ∧ b ≤ (flat t).length ∧ Calls Tryd.prog 54 #[v, .string ⟨nm.toArray⟩] w fun e w' => e = .returned (.tuple #[.int .i64 a, .int .i64 b]) ∧ Below w.heap.size w w' := by
    have h := find_any v t nm w hv hl ht
    rw [hcut.find 1] at h
    exact ⟨1 + (flats (loT nm t.ks)).length, 1 + (flats (loT nm t.ks)).length + (flats (eqT nm t.ks)).length, by simp; omega, rfl, by omega, by omega, h⟩
  have HF := Lib.hid hf
  have HA := Lib.hid ha
  have HB := Lib.hid hb
  obtain ⟨g, o, c, rfl, hc, hcm, hg, -⟩ := hv.opened (flat_pos t)
  have HV := Lib.hid hv
  have HE : Hid (a = b ↔ eqT nm t.ks = []) := Lib.hid (by
    rw [hb]
    rcases eq_cases ht hk nm with h | ⟨u, h, -⟩
    · rw [h]; simp
    · rw [h]
      have h1 := flat_pos u
      rw [flats_cons, List.length_append]
      refine ⟨fun h2 => ?_, fun h2 => by cases h2⟩
      omega)
  have HONE := Lib.hid hcut.one
  have HND := Lib.hid hnd
  have HKL := Lib.hid hkl
  have HK : Hid (decide (t.nd.kind = 6) = true) := Lib.hid (by simp [hk])
  have HFR : Hid (Nds w (.slice (some ⟨g, o, none⟩) a c) (t.nd :: flats (loT nm t.ks))) := Lib.hid (by
    have := hv.front a (by omega) (by omega) hcm
    rwa [HFT.out, HA.out, List.take_left, ← HA.out] at this)
  have HBK : Hid (Nds w (.slice (some (if b = c then ⟨g, o, none⟩ else ⟨g, o + b * 6, none⟩)) ((flat t).length - b) (c - b)) (flats (hiT nm t.ks))) := Lib.hid (by
    have := hv.back b hbn hc hcm
    have e : (flat t).drop b = flats (hiT nm t.ks) := by rw [HFT.out, HB.out, HA.out, ← List.append_assoc, ← List.length_append, List.drop_left]
    rwa [e] at this)
  have HLL := Lib.hid hlen
  clear hv hcut hf ha hb hlen hnd hkl hk
  have hapos : 1 ≤ a := by rw [HA.out]; simp
  generalize hn : (flat t).length = n at *
  have HN := Lib.hid hn; clear hn
  have HLEN : Hid ((t.nd :: flats (loT nm t.ks)).length = a ∧ a ≤ 65536) := Lib.hid ⟨HA.out.symm, by omega⟩
  generalize hl1 : t.nd :: flats (loT nm t.ks) = l1 at HFR HLEN
  have HL1 := Lib.hid hl1
  generalize hl3 : flats (hiT nm t.ks) = l3 at HBK
  have HE3 := Lib.hid hl3
  have HL3 : Hid (l3.length = n - b) := Lib.hid (by
    rw [← hl3]
    have h1 := HLL.out
    have h2 := HA.out
    have h3 := HB.out
    simp at h2
    omega)
  have HR : Hid (l1 ++ l3 = hdN 6 t.ks.length :: (flats (loT nm t.ks) ++ flats (hiT nm t.ks))) := Lib.hid (by
    rw [← HE3.out, ← HL1.out, ← HND.out]; simp)
  clear hl1 hl3
  have HKS : Hid ((a = b → (loT nm t.ks).length + (hiT nm t.ks).length = t.ks.length) ∧ (¬ a = b → (loT nm t.ks).length + (hiT nm t.ks).length + 1 = t.ks.length)) := Lib.hid (by
    have h1 := HKL.out
    have h2 := HONE.out
    refine ⟨fun h => ?_, fun h => ?_⟩
    · rw [HE.out.1 h] at h1; simp at h1; omega
    · have : (eqT nm t.ks).length ≠ 0 := fun h0 => h (HE.out.2 (List.eq_nil_of_length_eq_zero h0))
      omega)
  have HKB : Hid (t.ks.length ≤ 65536) := Lib.hid (by
    have h1 := flats_len t.ks
    have h2 := HN.out
    rw [flat_eq] at h2
    simp at h2
    omega)
  generalize flats (loT nm t.ks) ++ flats (hiT nm t.ks) = rest at HR HWT
  generalize (loT nm t.ks).length + (hiT nm t.ks).length = K2 at HKS HWT
  generalize t.ks.length = K at HR HKS HKB
  have HBK2 : Hid (∃ ad : Addr, ((b = c ∧ ad = ⟨g, o, none⟩) ∨ (¬ b = c ∧ ad = ⟨g, o + b * 6, none⟩)) ∧ Nds w (.slice (some ad) (n - b) (c - b)) l3) := Lib.hid (by
    refine ⟨_, ?_, HBK.out⟩
    by_cases hbc : b = c
    · exact .inl ⟨hbc, if_pos hbc⟩
    · exact .inr ⟨hbc, if_neg hbc⟩)
  obtain ⟨ad, had, hbk⟩ := HBK2.out
  have HBKA := Lib.hid hbk
  clear hbk HBK HBK2
  rcases had with ⟨hbc, rfl⟩ | ⟨hbc, rfl⟩
  · have hz : n - b = 0 ∧ c - b = 0 := by omega
    rw [hz.1, hz.2] at HBKA
    clear hz
    subst hbc
    go_enter Tryd.func34, Tryd.ntmps34
    go_wp2_with (go_at_call 48; refine HIO.out.mono ?_; rintro e w1 ⟨rfl, rfl⟩; rw [HK.out])
    refine HF.out.mono ?_
    rintro e w1 ⟨rfl, hb1⟩
    have HB1 := Lib.hid hb1
    clear hb1
    go_wp2_with fail
    go_still_tail 6, (by kernel_rfl)
    change wpList _ _ _ _ _ w1.drew
    have HB2 : Hid (Below w.heap.size w w1.drew) := Lib.hid HB1.out.drew
    generalize w1.drew = w2 at HB2 ⊢
    go_wp2_with fail
    have hC := concat_any _ [l1, l3] _ (vls_two w2 _ rfl 23 _ _ _ _ (HFR.out.below HB2.out) (HBKA.out.below HB2.out)) (by simp) (by have := HLEN.out; have := HL3.out; simp; omega)
    refine hC.mono ?_
    rintro e w3 h3
    obtain ⟨v3, rfl, hown3, hb3⟩ := h3
    rw [show [l1, l3].flatten = l1 ++ l3 by simp, HR.out] at hown3
    obtain ⟨A5, c5, rfl, -⟩ := hown3.form
    have hN5 : 0 < (hdN 6 K :: rest).length := by simp
    generalize (hdN 6 K :: rest).length = N5 at hown3 hN5 ⊢
    obtain ⟨g', rfl, -, hNc, hc1, hf1, hgg, hput⟩ := head_end hown3
    have HO5 := Lib.hid hown3
    have HPUT := Lib.hid hput
    have HB3 : Hid (Below w2.heap.size w2 w3) := Lib.hid (((Below.refl _ _).alloc (Nat.le_refl _) _).trans (hb3.mono (by simp)))
    have hs2 : w.heap.size ≤ w2.heap.size := HB2.out.size
    have hgs : w2.heap.size ≤ g' := by simp at hgg; omega
    have hKb := HKB.out
    clear hC hown3 hput hb3 hgg
    by_cases hab2 : a = b
    · have HK1 : Hid (K2 = K) := Lib.hid (HKS.out.1 hab2)
      have hnl : decide ((a : Int) < b) = false := by simp; omega
      have hnl2 : decide (a < b) = false := by simp; omega
      go_wp2_with fail
      go_ret
      refine ⟨_, rfl, ?_, Below.after HB2.out HB3.out⟩
      rw [HWT.out, HK1.out]
      exact HO5.out.mono (base' := w.heap.size) (by simp; omega)
    · have HK1 : Hid (K2 + 1 = K) := Lib.hid (HKS.out.2 hab2)
      have hnl : (a : Int) < b := by omega
      have hk1 : 1 ≤ K := by rw [← HK1.out]; omega
      have hw1 : IntKind.i64.wrap ((K : Int) - 1) = K - 1 := IntWalk.i64_in _ (by omega)
      go_wp2_with fail
      go_ret
      refine ⟨.slice (some ⟨g', 0, none⟩) N5 c5, rfl, ?_, Below.after HB2.out (HB3.out.setCell (by show w2.heap.size ≤ g'; omega) _)⟩
      rw [HWT.out]
      have h := (HPUT.out K2).mono (base' := w.heap.size) (by simp; omega)
      rw [show (K2 : Int) = (K : Int) - 1 from by rw [← HK1.out]; omega] at h
      exact h
  · have i1 : (b : Int) ≤ c := by omega
    have i2 : (a : Int) ≤ c := by omega
    have i3 : (b : Int) < c := by omega
    have i4 : b ≤ c := by omega
    have i5 : a ≤ c := by omega
    have i6 : (b : Int) ≤ n := by omega
    go_enter Tryd.func34, Tryd.ntmps34
    go_wp2_with (go_at_call 48; refine HIO.out.mono ?_; rintro e w1 ⟨rfl, rfl⟩; rw [HK.out])
    refine HF.out.mono ?_
    rintro e w1 ⟨rfl, hb1⟩
    have HB1 := Lib.hid hb1
    clear hb1
    go_wp2_with fail
    go_still_tail 6, (by kernel_rfl)
    change wpList _ _ _ _ _ w1.drew
    have HB2 : Hid (Below w.heap.size w w1.drew) := Lib.hid HB1.out.drew
    generalize w1.drew = w2 at HB2 ⊢
    go_wp2_with fail
    have hC := concat_any _ [l1, l3] _ (vls_two w2 _ rfl 23 _ _ _ _ (HFR.out.below HB2.out) (HBKA.out.below HB2.out)) (by simp) (by have := HLEN.out; have := HL3.out; simp; omega)
    refine hC.mono ?_
    rintro e w3 h3
    obtain ⟨v3, rfl, hown3, hb3⟩ := h3
    rw [show [l1, l3].flatten = l1 ++ l3 by simp, HR.out] at hown3
    obtain ⟨A5, c5, rfl, -⟩ := hown3.form
    have hN5 : 0 < (hdN 6 K :: rest).length := by simp
    generalize (hdN 6 K :: rest).length = N5 at hown3 hN5 ⊢
    obtain ⟨g', rfl, -, hNc, hc1, hf1, hgg, hput⟩ := head_end hown3
    have HO5 := Lib.hid hown3
    have HPUT := Lib.hid hput
    have HB3 : Hid (Below w2.heap.size w2 w3) := Lib.hid (((Below.refl _ _).alloc (Nat.le_refl _) _).trans (hb3.mono (by simp)))
    have hs2 : w.heap.size ≤ w2.heap.size := HB2.out.size
    have hgs : w2.heap.size ≤ g' := by simp at hgg; omega
    have hKb := HKB.out
    clear hC hown3 hput hb3 hgg
    by_cases hab2 : a = b
    · have HK1 : Hid (K2 = K) := Lib.hid (HKS.out.1 hab2)
      have hnl : decide ((a : Int) < b) = false := by simp; omega
      have hnl2 : decide (a < b) = false := by simp; omega
      go_wp2_with fail
      go_ret
      refine ⟨_, rfl, ?_, Below.after HB2.out HB3.out⟩
      rw [HWT.out, HK1.out]
      exact HO5.out.mono (base' := w.heap.size) (by simp; omega)
    · have HK1 : Hid (K2 + 1 = K) := Lib.hid (HKS.out.2 hab2)
      have hnl : (a : Int) < b := by omega
      have hk1 : 1 ≤ K := by rw [← HK1.out]; omega
      have hw1 : IntKind.i64.wrap ((K : Int) - 1) = K - 1 := IntWalk.i64_in _ (by omega)
      go_wp2_with fail
      go_ret
      refine ⟨.slice (some ⟨g', 0, none⟩) N5 c5, rfl, ?_, Below.after HB2.out (HB3.out.setCell (by show w2.heap.size ≤ g'; omega) _)⟩
      rw [HWT.out]
      have h := (HPUT.out K2).mono (base' := w.heap.size) (by simp; omega)
      rw [show (K2 : Int) = (K : Int) - 1 from by rw [← HK1.out]; omega] at h
      exact h
end Go.Proofs.YtoomgpbfcpnefaaDoor
