/-
  What val's Field answers.
-/
import Derived.Test.YtoomgpbfcpnefaaDoorValW9
import Derived.Test.YtoomgpbfcpnefaaDoorTreeP
namespace Go.Proofs.YtoomgpbfcpnefaaDoor
open Go.RowKit Np Rw Vp

/-- An object's part of that name, if there is one. -/
def midT (nm : List UInt8) (t : Tr Nd) : List (Tr Nd) := if t.nd.kind = 6 then t.ks.filter (fun u => decide (u.nd.name = nm)) else []
def fieldB (nm : List UInt8) (t : Tr Nd) : Bool := !(midT nm t).isEmpty
def fieldV (nm : List UInt8) (t : Tr Nd) : List Nd := match midT nm t with | [] => [] | u :: _ => flat (nmd [] u)
theorem midT_cut {nm : List UInt8} {t : Tr Nd} {pre mid post : List (Tr Nd)} (hk : t.nd.kind = 6) (h : Cut nm t.ks pre mid post) : midT nm t = mid := by
  have hlt : ∀ {a b : List UInt8}, a < b → ¬ a = b := fun h1 h2 => List.lt_irrefl _ (h2 ▸ h1)
  rw [midT, if_pos hk, h.all, List.filter_append, List.filter_append, List.filter_eq_nil_iff.2 (fun u hu => by simpa using hlt (h.lo u hu)), List.filter_eq_self.2 (fun u hu => by simpa using h.eq u hu),
    List.filter_eq_nil_iff.2 (fun u hu => by simpa using fun e => hlt (h.hi u hu) e.symm)]
  simp
/-- What val.Field hands back. -/
def GivesF (w : World) (nm : List UInt8) (t : Tr Nd) (e : Ending) (w' : World) : Prop := ∃ v', e = .returned (.tuple #[v', .bool (fieldB nm t)]) ∧ Nds w' v' (fieldV nm t) ∧ Below w.heap.size w w'
theorem GivesF.no {w w' : World} {nm : List UInt8} {t : Tr Nd} {e : Ending} (h : midT nm t = []) (he : e = .returned (.tuple #[.slice none 0 0, .bool false])) (hb : Below w.heap.size w w') : GivesF w nm t e w' :=
  ⟨_, by rw [fieldB, h]; exact he, by rw [fieldV, h]; exact Row.nil _, hb⟩

set_option maxRecDepth 100000 in
set_option maxHeartbeats 2000000 in
theorem field_any (v : Value) (t : Tr Nd) (nm : List UInt8) (w : World) (hv : Nds w v (flat t)) (hl : (flat t).length ≤ 65536) (ht : Val t) :
    Calls Tryd.prog 29 #[v, .string ⟨nm.toArray⟩] w (GivesF w nm t) := by
  have hvo : Nds w v (t.nd :: flats t.ks) := by rw [← flat_eq]; exact hv
  have HIO := Lib.hid (isObject_any v t.nd (flats t.ks) w hvo)
  clear hvo
  by_cases hk : t.nd.kind = 6
  · obtain ⟨pre, mid, post, hcut⟩ := cut_ex nm t.ks (ht.named hk).1
    have HM := Lib.hid (midT_cut hk hcut)
    have hlen : (flat t).length = 1 + (flats pre).length + (flats mid).length + (flats post).length := by
      have h := congrArg List.length (flat_eq t)
      rw [hcut.all, flats_append, flats_append] at h
      simp only [List.length_cons, List.length_append] at h
      omega
    have HFT : Hid (flat t = (t.nd :: flats pre) ++ (flats mid ++ flats post)) := Lib.hid (by rw [flat_eq, hcut.all, flats_append, flats_append]; rfl)
    obtain ⟨a, b, ha, hb, hab, hbn, hf⟩ : ∃ a b : Nat, a = (t.nd :: flats pre).length ∧ b = a + (flats mid).length ∧ a ≤ b ∧ b ≤ (flat t).length ∧ Calls Tryd.prog 54 #[v, .string ⟨nm.toArray⟩] w fun e w' => e = .returned (.tuple #[.int .i64 a, .int .i64 b]) ∧ Below w.heap.size w w' := by
      have h := find_any v t nm w hv hl ht
      rw [hcut.find 1] at h
      exact ⟨1 + (flats pre).length, 1 + (flats pre).length + (flats mid).length, by simp; omega, rfl, by omega, by omega, h⟩
    have HF := Lib.hid hf
    have HA := Lib.hid ha
    have HB := Lib.hid hb
    obtain ⟨g, o, c, rfl, hc, hcm, hg, -⟩ := hv.opened (flat_pos t)
    have HV := Lib.hid hv
    have HPR := Lib.hid ht.parts
    have HC := Lib.hid hcut
    have HMP : Hid (mid = [] ↔ a = b) := Lib.hid (by
      rw [hb]
      rcases mid with _ | ⟨m, mid⟩
      · simp
      · have h1 := flat_pos m
        refine ⟨fun h => (by cases h), fun h => ?_⟩
        rw [flats_cons, List.length_append] at h
        omega)
    clear hv hcut hf ha hb hlen
    have HK : Hid (decide (t.nd.kind = 6) = true) := Lib.hid (by simp [hk])
    clear hk
    by_cases he : a = b
    · have HM0 := Lib.hid (HMP.out.2 he)
      subst he
      generalize hn : (flat t).length = n at *
      have HN := Lib.hid hn
      clear hn
      go_enter Tryd.func29, Tryd.ntmps29
      go_wp2_with (first | (go_at_call 48; refine HIO.out.mono ?_; rintro e w1 ⟨rfl, rfl⟩; rw [HK.out]) | (go_at_call 54; refine HF.out.mono ?_; rintro e w1 ⟨rfl, hb1⟩))
      go_ret2
      exact GivesF.no (by rw [HM.out, HM0.out]) rfl hb1
    · have hne : ((a : Int) == b) = false := by simp; omega
      have hlt : a < b := by omega
      obtain ⟨m, hm⟩ : ∃ m, mid = [m] := by
        have h1 := HC.out.one
        rcases mid with _ | ⟨m, mid⟩
        · exact absurd (HMP.out.1 rfl) he
        · exact ⟨m, by rw [List.eq_nil_of_length_eq_zero (l := mid) (by simp at h1; simp [h1])]⟩
      subst hm
      have HROW : Hid (Nds w (.slice (some ⟨g, o + a * 6, none⟩) (b - a) (c - a)) (m.nd :: flats m.ks)) := Lib.hid (by
        have h1 := HV.out.piece a (b - a) (by omega)
        have h2 : ((flat t).drop a).take (b - a) = m.nd :: flats m.ks := by
          rw [HFT.out, HA.out, List.drop_left, ← HA.out, ← flat_eq]
          have : b - a = (flat m).length := by rw [HB.out]; simp
          rw [this]; simp
        rwa [h2] at h1)
      have HML : Hid ((m.nd :: flats m.ks).length ≤ 65536) := Lib.hid (by
        have : b - a = (flat m).length := by rw [HB.out]; simp
        rw [← flat_eq]; omega)
      clear he HV
      generalize hn : (flat t).length = n at *
      have HN := Lib.hid hn
      clear hn
      have hwa : ((b : Int) - a) = (b - a : Nat) := by omega
      go_enter Tryd.func29, Tryd.ntmps29
      go_wp2_with (first | (go_at_call 48; refine HIO.out.mono ?_; rintro e w1 ⟨rfl, rfl⟩; rw [HK.out]) | (go_at_call 54; refine HF.out.mono ?_; rintro e w1 ⟨rfl, hb1⟩))
      refine (own_any _ m.nd (flats m.ks) _ (HROW.out.below hb1) HML.out).mono ?_
      rintro e w2 ⟨v2, rfl, ho2, hb2⟩
      have HO2 := Lib.hid ho2
      clear ho2
      go_wp2_with fail
      go_ret2
      refine ⟨_, by rw [fieldB, HM.out]; rfl, ?_, Below.after hb1 hb2⟩
      rw [fieldV, HM.out]
      show Nds _ _ (flat (nmd [] m))
      rw [nmd, flat_mk]
      exact HO2.out.row ndc_len
  · have HK : Hid (decide (t.nd.kind = 6) = false) := Lib.hid (by simp [hk])
    have HM : Hid (midT nm t = []) := Lib.hid (by rw [midT, if_neg hk])
    obtain ⟨g, o, c, rfl, hc, hcm, hg, -⟩ := hv.opened (flat_pos t)
    clear hv
    go_enter Tryd.func29, Tryd.ntmps29
    go_wp2_with (go_at_call 48; refine HIO.out.mono ?_; rintro e w1 ⟨rfl, rfl⟩; rw [HK.out])
    go_ret2
    exact GivesF.no HM.out rfl (Below.refl _ _)
end Go.Proofs.YtoomgpbfcpnefaaDoor
