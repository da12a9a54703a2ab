/-
  Joined: NumR, RefW4, RefW5, RefW6, ValW1, PaB2, PT2, PT3, Own2.
-/
import Derived.Test.YtldioobbfkaebaaGreatDoorEvalHoldsJ2
import Derived.Test.YtldioobbfkaebaaGreatDoorEvalHoldsJ1
import Derived.Deep.Light
import Derived.Test.YtldioobbfkaebaaGreatDoorEvalHoldsJ7
import Derived.Sort.Walk0
import Derived.Test.YtldioobbfkaebaaGreatDoorEvalHoldsJ3
import Derived.Test.YtldioobbfkaebaaGreatDoorEvalHoldsJ6
import Derived.Test.YtldioobbfkaebaaGreatDoorEvalHoldsJ5
import Derived.Deep.MidRow
import Derived.Deep.OwnRows
set_option maxHeartbeats 8000000
set_option maxRecDepth 100000
namespace Go.Proofs.YtldioobbfkaebaaGreatDoor
section
open Go.RowKit Np
theorem fig_out {c : UInt8} (h : c.toNat < 48 ∨ 57 < c.toNat) : fig c = false := by
 rw [← Bool.not_eq_true, fig_iff]; omega
theorem fig_in {c : UInt8} (h : 48 ≤ c.toNat) (h2 : c.toNat ≤ 57) : fig c = true := (fig_iff c).2 ⟨h, h2⟩
theorem refFigures_any (s : ByteArray) (w : World) (hs : s.size ≤ maxLen) :
  Calls Tryz.prog 148 #[.string s] w fun e w' => e = .returned (.bool (figs s.data.toList)) ∧ w = w' := by
 unfold maxLen at hs
 go_enter Tryz.func148, Tryz.ntmps148
 go_wp2
 go_loop [3] (fun i => ∃ k : Nat, k ≤ s.size ∧ i = .int .i64 k ∧ figs (s.data.toList.take k) = true) (fun i => s.size - (intOf i).toNat)
 case atStart => exact ⟨0, Nat.zero_le _, rfl, rfl⟩
 case round =>
  obtain ⟨k, hk, rfl, hf⟩ := hrel
  have HF := Lib.hid hf; clear hf
  by_cases hlt : k < s.size
  ·have HN : Hid (fig s[k] = false → figs s.data.toList = false) := Lib.hid (fun h => figs_of_not (k := k) (by simpa using hlt) (by rw [get_toList s k hlt]; exact h))
   have HY : Hid (fig s[k] = true → figs (s.data.toList.take (k + 1)) = true) := Lib.hid (fun h => by rw [take_snoc _ k (by simpa using hlt), figs_snoc, HF.out, get_toList s k hlt, h]; rfl)
   go_wp2
   ·go_ret
    exact ⟨ret_bool (HN.out (fig_out (by omega))).symm, rfl⟩
   ·go_round
    case rel => exact ⟨k + 1, by omega, by go_num, HY.out (fig_in (by omega) (by omega))⟩
    case measure => simp [intOf]; omega
   ·go_ret
    exact ⟨ret_bool (HN.out (fig_out (by omega))).symm, rfl⟩
  ·have HC : Hid (figs s.data.toList = true) := Lib.hid (by have h := HF.out; rwa [List.take_of_length_le (by simp; omega)] at h)
   go_wp2
   go_ret
   exact ⟨ret_bool HC.out.symm, rfl⟩
theorem refRight_any (k m : Int) (nm s : ByteArray) (g : Bool) (x : Int) (w : World) (hs : s.size ≤ maxLen) :
  Calls Tryz.prog 107 #[.agg #[.int .i64 k, .int .i64 m, .string nm, .string s, .bool g, .int .i64 x]] w fun e w' => e = .returned (.bool (right ⟨k, m, nm.data.toList, s.data.toList, g, x⟩)) ∧ Below w.heap.size w w' := by
 have hB : Below w.heap.size w w := Below.refl _ _
 have hs2 := hs
 unfold maxLen at hs2
 cases hf : figs s.data.toList
 ·have HV := Lib.hid (right_figs (n := ⟨k, m, nm.data.toList, s.data.toList, g, x⟩) hf)
  have HF := Lib.hid hf; clear hf
  go_enter Tryz.func107, Tryz.ntmps107
  go_wp2_with (go_at_call 148; refine (refFigures_any _ _ hs).mono ?_; rintro e w' ⟨rfl, rfl⟩; rw [HF.out])
  all_goals go_ret
  all_goals exact ⟨ret_bool HV.out.symm, hB.alloc (Nat.le_refl _) _⟩
 ·cases hne : s.toList.isEmpty
  ·have hpos := pos_of_notEmpty hne
   have HV : Hid (∀ k m : Int, right ⟨k, m, nm.data.toList, s.data.toList, g, x⟩ = (decide (k = 3) && decide (m = 0) && decide (nm.toList = []) && (decide (s.size ≤ 100) && ((s[0].toNat : Int) != 48) && ((s[s.size - 1].toNat : Int) != 48) && decide (-1000 ≤ x) && decide (x ≤ 1000 - s.size)))) := Lib.hid (fun k m => by
    rw [right_some' (by intro h; rw [ByteArray.toList_eq, h] at hne; cases hne) hf, headD_eq s hpos, getLastD_eq s hpos, size_toList, toNat_beq, toNat_beq, ByteArray.toList_eq])
   have HF := Lib.hid hf; clear hf
   go_enter Tryz.func107, Tryz.ntmps107
   go_wp2_with (go_at_call 148; refine (refFigures_any _ _ hs).mono ?_; rintro e w' ⟨rfl, rfl⟩; rw [HF.out])
   all_goals (go_ret; refine ⟨ret_bool ?_, hB.alloc (Nat.le_refl _) _⟩)
   all_goals (rw [HV.out]; go_light; clear HV HF hB; grind)
  ·have HV : Hid (∀ k m : Int, right ⟨k, m, nm.data.toList, s.data.toList, g, x⟩ = (decide (k = 3) && decide (m = 0) && decide (nm.toList = []) && (!g && decide (x = 0)))) := Lib.hid (fun k m => by
    rw [right_empty' (by rw [← ByteArray.toList_eq]; exact List.isEmpty_iff.1 hne), ByteArray.toList_eq])
   have hz : s.size = 0 := by rw [← size_toList, ← ByteArray.toList_eq, List.isEmpty_iff.1 hne]; rfl
   have HF := Lib.hid hf; clear hf
   go_enter Tryz.func107, Tryz.ntmps107
   go_wp2_with (go_at_call 148; refine (refFigures_any _ _ hs).mono ?_; rintro e w' ⟨rfl, rfl⟩; rw [HF.out])
   all_goals (go_ret; refine ⟨ret_bool ?_, hB.alloc (Nat.le_refl _) _⟩)
   all_goals (rw [HV.out]; go_light; clear HV HF hB; grind)
end
section
open Go.RowKit Np Rw Vp
theorem plainN_low {n : Nd} (h : n.kind = 0 ∨ n.kind = 1 ∨ n.kind = 2) : plainN n = (decide (n.many = 0) && decide (n.s = []) && !n.neg && decide (n.e = 0)) := by rw [plainN, if_pos h]
theorem plainN_num {n : Nd} (h : n.kind = 3) : plainN n = right { n with name := [] } := by rw [plainN, if_neg (by omega), if_pos h]
theorem plainN_str {n : Nd} (h : n.kind = 4) : plainN n = (decide (n.many = 0) && vld n.s && !n.neg && decide (n.e = 0)) := by rw [plainN, if_neg (by omega), if_neg (by omega), if_pos h]
theorem plainN_cont {n : Nd} (h : n.kind = 5 ∨ n.kind = 6) : plainN n = (decide (0 ≤ n.many) && decide (n.s = []) && !n.neg && decide (n.e = 0)) := by rw [plainN, if_neg (by omega), if_neg (by omega), if_neg (by omega), if_pos h]
theorem plainN_none {n : Nd} (h : n.kind < 0 ∨ 6 < n.kind) : plainN n = false := by rw [plainN, if_neg (by omega), if_neg (by omega), if_neg (by omega), if_neg (by omega)]
theorem sameNode_self (k m : Int) (s : List UInt8) (g : Bool) (x : Int) (m2 : Int) (s2 : ByteArray) : sameNode k m ⟨#[]⟩ ⟨s.toArray⟩ g x k m2 ⟨#[]⟩ s2 false 0 = (decide (m = m2) && decide (s = s2.data.toList) && !g && decide (x = 0)) := by
 unfold sameNode
 have : (ByteArray.mk s.toArray = s2) = (s = s2.data.toList) := by
  apply propext
  constructor
  ·rintro rfl; rfl
  ·rintro rfl; rfl
 rw [Bool.eq_iff_iff]
 simp [this]
 cases g <;> simp [and_assoc]
theorem refPlain_any (n : Nd) (w : World) (hs : n.s.length ≤ maxLen) :
  Calls Tryz.prog 73 #[nda n] w fun e w' => e = .returned (.bool (plainN n)) ∧ Below w.heap.size w w' := by
 have hB : Below w.heap.size w w := Below.refl _ _
 have heql := eql_node
 obtain ⟨k, m, nm, s, g, x⟩ := n
 simp only at hs ⊢
 have hs' : (ByteArray.mk s.toArray).size ≤ maxLen := hs
 by_cases h3 : k = 3
 ·have HP := Lib.hid (plainN_num (n := ⟨k, m, nm, s, g, x⟩) h3)
  subst h3
  go_enter Tryz.func73, Tryz.ntmps73
  go_wp2_with fail
  refine (refRight_any _ _ _ _ _ _ _ hs').mono ?_
  rintro e w1 ⟨rfl, hb1⟩
  go_wp2_with fail
  go_ret
  refine ⟨ret_bool (by rw [HP.out]), ?_⟩
  exact (hB.alloc (Nat.le_refl _) _).trans (hb1.mono (by simp))
 by_cases h4 : k = 4
 ·have HP := Lib.hid (plainN_str (n := ⟨k, m, nm, s, g, x⟩) h4)
  subst h4
  cases hv : vld s
  ·have HV := Lib.hid hv; clear hv
   go_enter Tryz.func73, Tryz.ntmps73
   go_wp2_with fail
   refine (refUtf_any _ _ hs').mono ?_
   rintro e w1 ⟨rfl, rfl⟩
   rw [show Lib.validD (ByteArray.mk s.toArray).data.toList = false from HV.out]
   go_wp2_with fail
   go_ret
   exact ⟨ret_bool (by rw [HP.out]; simp [HV.out]), hB.alloc (Nat.le_refl _) _⟩
  ·have HV := Lib.hid hv; clear hv
   go_enter Tryz.func73, Tryz.ntmps73
   go_wp2_with fail
   refine (refUtf_any _ _ hs').mono ?_
   rintro e w1 ⟨rfl, rfl⟩
   rw [show Lib.validD (ByteArray.mk s.toArray).data.toList = true from HV.out]
   go_wp2_with fail
   go_ret
   refine ⟨ret_bool ?_, hB.alloc (Nat.le_refl _) _⟩
   rw [HP.out, sameNode_self]
   simp [HV.out]
 by_cases h0 : k = 0 ∨ k = 1 ∨ k = 2
 ·have HP := Lib.hid (plainN_low (n := ⟨k, m, nm, s, g, x⟩) h0)
  rcases h0 with rfl | rfl | rfl
  all_goals
   go_enter Tryz.func73, Tryz.ntmps73
   go_wp2_with fail
   go_ret
   refine ⟨ret_bool ?_, hB.alloc (Nat.le_refl _) _⟩
   rw [HP.out, sameNode_self]
 by_cases h5 : k = 5 ∨ k = 6
 ·have HP := Lib.hid (plainN_cont (n := ⟨k, m, nm, s, g, x⟩) h5)
  rcases h5 with rfl | rfl
  all_goals
   clear h0
   go_enter Tryz.func73, Tryz.ntmps73
   go_wp2_with fail
   ·go_ret
    refine ⟨ret_bool ?_, hB.alloc (Nat.le_refl _) _⟩
    have h : 0 ≤ m := by assumption
    rw [HP.out, sameNode_self]
    simp [h]
   ·go_ret
    refine ⟨ret_bool ?_, hB.alloc (Nat.le_refl _) _⟩
    have h : m < 0 := by assumption
    rw [HP.out, show decide (0 ≤ m) = false by simp; omega]
    rfl
 ·have HP := Lib.hid (plainN_none (n := ⟨k, m, nm, s, g, x⟩) (by simp only; omega))
  have e0 : (k == 0) = false := by simp; omega
  have e1 : (k == 1) = false := by simp; omega
  have e2 : (k == 2) = false := by simp; omega
  have e3 : (k == 3) = false := by simp; omega
  have e4 : (k == 4) = false := by simp; omega
  have e5 : (k == 5) = false := by simp; omega
  have e6 : (k == 6) = false := by simp; omega
  clear h0 h3 h4 h5
  go_enter Tryz.func73, Tryz.ntmps73
  go_wp2_with fail
  go_ret
  exact ⟨ret_bool HP.out.symm, hB.alloc (Nat.le_refl _) _⟩
end
section
open Go.RowKit Np Rw Vp
def Short (l : List Nd) : Prop := ∀ n ∈ l, n.name.length ≤ maxLen ∧ n.s.length ≤ maxLen
theorem rising_bad {kind : Int} {t : Tr Nd} {ts : List (Tr Nd)} (h : nameOk kind t = false) : rising kind (t :: ts) = false := by
 cases ts <;> simp [rising, h]
theorem rising_six {t u : Tr Nd} {ts : List (Tr Nd)} (h : nameOk 6 t = true) : rising 6 (t :: u :: ts) = (decide (t.nd.name < u.nd.name) && rising 6 (u :: ts)) := by simp [rising, h]
theorem rising_not {kind : Int} {t : Tr Nd} {ts : List (Tr Nd)} (hk : kind ≠ 6) (h : nameOk kind t = true) : rising kind (t :: ts) = rising kind ts := by
 cases ts <;> simp [rising, h, hk]
theorem rising_one {kind : Int} {t : Tr Nd} (h : nameOk kind t = true) : rising kind [t] = true := by simp [rising, h]
theorem nameOk_arr {t : Tr Nd} (h : t.nd.name ≠ []) : nameOk 5 t = false := by simp [nameOk, h]
theorem nameOk_arr' {t : Tr Nd} (h : t.nd.name = []) : nameOk 5 t = true := by simp [nameOk, h]; rfl
theorem nameOk_vld {kind : Int} {t : Tr Nd} (h : vld t.nd.name = false) : nameOk kind t = false := by simp [nameOk]; intro _; exact h
theorem nameOk_not {kind : Int} {t : Tr Nd} (hk : kind ≠ 5) : nameOk kind t = vld t.nd.name := by simp [nameOk, hk]
theorem part_at {l r : List Nd} {at_ : Nat} {s : Tr Nd} {pre post : List (Tr Nd)} (h : l.drop at_ = flat s ++ r) (hk : s.ks = pre ++ post) : l.drop (at_ + 1 + (flats pre).length) = flats post ++ r := by
 rw [Nat.add_assoc, Nat.add_comm 1, ← List.drop_drop]
 rw [h, flat_eq, hk, flats_append, List.cons_append, List.drop_succ_cons, List.append_assoc, List.drop_left]
theorem head_at {l r : List Nd} {k : Nat} {t : Tr Nd} (h : l.drop k = flat t ++ r) : l[k]? = some t.nd := by
 have : (l.drop k)[0]? = some t.nd := by rw [h, flat_eq]; rfl
 rwa [List.getElem?_drop, Nat.add_zero] at this
theorem part_lt {l r : List Nd} {k : Nat} {t : Tr Nd} (h : l.drop k = flat t ++ r) : k + (flat t).length ≤ l.length := by
 have := congrArg List.length h
 have := flat_pos t
 simp at *; omega
theorem nxt_at {l r : List Nd} {k : Nat} {t : Tr Nd} (h : l.drop k = flat t ++ r) (ho : okT many t) : nxtL l.length (l.drop k) 1 k = (k + (flat t).length : Nat) := by
 have hl := part_lt h
 rw [h, show (1 : Nat) = 0 + 1 from rfl, nxt_flat t _ r 0 k ho (by omega), nxtL_zero]
theorem refRising_any (v : Value) (l : List Nd) (at_ : Nat) (s : Tr Nd) (r : List Nd) (w : World) (hv : Nds w v l) (hl : l.length ≤ 65536) (hsh : Short l) (hs : l.drop at_ = flat s ++ r) (ho : okT many s) :
  Calls Tryz.prog 74 #[v, .int .i64 at_] w fun e w' => e = .returned (.bool (rising s.nd.kind s.ks)) ∧ ∃ n, w' = w.drewN n := by
 generalize hans : rising s.nd.kind s.ks = ans
 have HANS := Lib.hid hans; clear hans
 have hat := part_lt hs
 have hfp := flat_pos s
 have hvH := Lib.hid hv
 obtain ⟨g, o, c, rfl, hc, hcm, hg, hx⟩ := hv.opened (by omega)
 have HX := Lib.hid hx; clear hx
 have HS := Lib.hid hs; clear hs
 have HSH := Lib.hid hsh; clear hsh
 obtain ⟨a0, a1, -, -, -, -⟩ := (HX.out at_ _ (head_at HS.out)).nd
 have hmany : s.nd.many = s.ks.length := (okT_eq.1 ho).1
 rw [hmany] at a1
 have HKS : Hid (okTs many s.ks) := Lib.hid (okT_eq.1 ho).2
 clear hmany ho
 have hkl : s.ks.length ≤ 65536 := by
  have h1 := flats_len s.ks
  have h2 : (flat s).length = 1 + (flats s.ks).length := by rw [flat_eq]; simp; omega
  omega
 generalize s.nd.kind = kd at HANS a0
 generalize hn : l.length = n at *
 have HN := Lib.hid hn; clear hn
 go_enter Tryz.func74, Tryz.ntmps74
 go_wp2
 go_loopw [5, 6] (fun i k wr => ∃ pre post : List (Tr Nd), s.ks = pre ++ post ∧ i = .int .i64 (at_ + 1 + (flats pre).length : Nat) ∧ k = .int .i64 pre.length ∧ (∃ m, wr = w.drewN m) ∧ rising kd post = ans) (fun _ k _ => s.ks.length - (intOf k).toNat)
 case atStart => exact ⟨[], s.ks, rfl, by simp, rfl, ⟨0, rfl⟩, HANS.out⟩
 case round =>
  obtain ⟨pre, post, hpp, rfl, rfl, hq, hrs⟩ := hrel
  have HQ := Lib.hid hq
  have HR := Lib.hid hrs
  have HP := Lib.hid hpp
  have HPA := Lib.hid (part_at HS.out HP.out)
  have hlen : pre.length + post.length = s.ks.length := by rw [hpp]; simp
  clear hq hrs hpp
  have a0 := cell_quiet a0 HQ.out
  have a1 := cell_quiet a1 HQ.out
  generalize hi : at_ + 1 + (flats pre).length = i at *
  have HI := Lib.hid hi; clear hi
  cases post with
  | nil =>
   have HE : Hid (ans = true) := Lib.hid HR.out.symm
   simp only [List.length_nil, Nat.add_zero] at hlen
   go_wp2
   go_ret
   exact ⟨ret_bool HE.out.symm, HQ.out⟩
  | cons t rest =>
   have hti : l.drop i = flat t ++ (flats rest ++ r) := by have := HPA.out; rwa [flats_cons, List.append_assoc] at this
   have hokt : okT many t := by have := HKS.out; rw [HP.out, okTs_append, okTs_cons] at this; exact this.2.1
   have hlt := part_lt hti
   have htp := flat_pos t
   rw [HN.out] at hlt
   obtain ⟨-, -, b2, -, -, -⟩ := (HX.out i _ (head_at hti)).nd.quiet HQ.out
   have HNX : Hid (nxtL l.length (l.drop i) 1 i = (i + (flat t).length : Nat)) := Lib.hid (nxt_at hti hokt)
   have HNI : Hid (at_ + 1 + (flats (pre ++ [t])).length = i + (flat t).length) := Lib.hid (by rw [flats_append, flats_cons, flats_nil, List.append_nil, List.length_append, ← HI.out]; omega)
   have HSN : Hid ((ByteArray.mk t.nd.name.toArray).size ≤ maxLen) := Lib.hid (HSH.out _ (List.mem_of_getElem? (head_at hti))).1
   have HVR : Hid (Nds wr (.slice (some ⟨g, o, none⟩) n c) l) := Lib.hid (hvH.out.quiet HQ.out)
   have HTI := Lib.hid hti
   have hnm : ∃ nm, t.nd.name = nm := ⟨_, rfl⟩
   obtain ⟨nm, hnm⟩ := hnm
   rw [hnm] at b2 HSN
   have HNM := Lib.hid hnm
   clear hnm hti hokt HPA HI
   simp only [List.length_cons] at hlen
   by_cases h5 : kd = 5
   ·by_cases hne : nm = []
    ·have HV : Hid (vld nm = true) := Lib.hid (by rw [hne]; rfl)
     have HC : Hid (rising kd rest = ans) := Lib.hid (by rw [← HR.out, rising_not (by omega) (by rw [h5]; exact nameOk_arr' (HNM.out.trans hne))])
     subst h5 hne
     have e6 : ((5 : Int) == 6) = false := by decide
     go_wp2_with (first | (go_at_call 18; refine (refUtf_any _ _ HSN.out).mono ?_; rintro e w' ⟨rfl, rfl⟩; rw [show Lib.validD (ByteArray.mk #[]).data.toList = true from rfl]) | (go_at_call 67; refine (refNext_any _ l i _ HVR.out (by rw [HN.out]; exact hl) (by rw [HN.out]; omega)).mono ?_; rintro e w' ⟨rfl, rfl⟩; rw [HNX.out]))
     go_quiet (fail)
     go_wp2
     go_roundw
     case rel => exact ⟨pre ++ [t], rest, by rw [HP.out]; simp, by rw [HNI.out, Int.natCast_add], by simp, quiet_more HQ.out _, HC.out⟩
     case measure => simp [intOf]; omega
    ·have HC : Hid (ans = false) := Lib.hid (by rw [← HR.out, h5]; exact rising_bad (nameOk_arr (by rw [HNM.out]; exact hne)))
     have hne1 : nm.isEmpty = false := by cases nm <;> simp_all
     have hne2 : (!nm.isEmpty) = true := by simp [hne1]
     subst h5
     clear HNX HVR
     go_wp2_with fail
     go_ret
     exact ⟨ret_bool HC.out.symm, HQ.out⟩
   ·have e5 : (kd == 5) = false := by simp [h5]
    cases hvl : vld nm
    ·have HV := Lib.hid hvl
     have HC : Hid (ans = false) := Lib.hid (by rw [← HR.out]; exact rising_bad (nameOk_vld (by rw [HNM.out]; exact hvl)))
     clear hvl
     go_wp2_with (first | (go_at_call 18; refine (refUtf_any _ _ HSN.out).mono ?_; rintro e w' ⟨rfl, rfl⟩; rw [show Lib.validD (ByteArray.mk nm.toArray).data.toList = false from HV.out]) | (go_at_call 67; refine (refNext_any _ l i _ HVR.out (by rw [HN.out]; exact hl) (by rw [HN.out]; omega)).mono ?_; rintro e w' ⟨rfl, rfl⟩; rw [HNX.out]))
     go_ret
     exact ⟨ret_bool HC.out.symm, HQ.out⟩
    ·have HV := Lib.hid hvl
     have HO : Hid (nameOk kd t = true) := Lib.hid (by rw [nameOk_not h5, HNM.out]; exact hvl)
     clear hvl
     by_cases h6 : kd = 6
     ·subst h6
      cases rest with
      | nil =>
       have HC : Hid (rising 6 [] = ans) := Lib.hid (by rw [← HR.out, rising_one HO.out]; rfl)
       simp only [List.length_nil] at hlen
       have hg1 : decide ((pre.length : Int) + 1 < s.ks.length) = false := by simp; omega
       have hg2 : decide (pre.length + 1 < s.ks.length) = false := by simp; omega
       go_wp2_with (first | (go_at_call 18; refine (refUtf_any _ _ HSN.out).mono ?_; rintro e w' ⟨rfl, rfl⟩; rw [show Lib.validD (ByteArray.mk nm.toArray).data.toList = true from HV.out]) | (go_at_call 67; refine (refNext_any _ l i _ HVR.out (by rw [HN.out]; exact hl) (by rw [HN.out]; omega)).mono ?_; rintro e w' ⟨rfl, rfl⟩; rw [HNX.out]))
       go_quiet (fail)
       go_wp2
       go_roundw
       case rel => exact ⟨pre ++ [t], [], by rw [HP.out]; simp, by rw [HNI.out, Int.natCast_add], by simp, quiet_more HQ.out _, HC.out⟩
       case measure => simp [intOf]; omega
      | cons u rest =>
       have htu : l.drop (i + (flat t).length) = flat u ++ (flats rest ++ r) := by
        rw [← List.drop_drop, HTI.out, List.drop_left, flats_cons, List.append_assoc]
       have hlu := part_lt htu
       have hup := flat_pos u
       rw [HN.out] at hlu
       obtain ⟨-, -, c2, -, -, -⟩ := (HX.out _ _ (head_at htu)).nd.quiet HQ.out
       have HRS := Lib.hid (rising_six (u := u) (ts := rest) HO.out)
       have hum : ∃ um, u.nd.name = um := ⟨_, rfl⟩
       obtain ⟨um, hum⟩ := hum
       rw [hum] at c2
       have HUM := Lib.hid hum
       clear hum htu
       simp only [List.length_cons] at hlen
       have hg1 : decide ((pre.length : Int) + 1 < s.ks.length) = true := by simp; omega
       have hg2 : decide (pre.length + 1 < s.ks.length) = true := by simp; omega
       by_cases hlx : nm < um
       ·have HC : Hid (rising 6 (u :: rest) = ans) := Lib.hid (by rw [← HR.out, HRS.out, HNM.out, HUM.out]; simp [hlx])
        have hbl : Op.bytesLess nm um = true := by rw [bytesLess_eq]; simp [hlx]
        clear hlx
        go_wp2_with (first | (go_at_call 18; refine (refUtf_any _ _ HSN.out).mono ?_; rintro e w' ⟨rfl, rfl⟩; rw [show Lib.validD (ByteArray.mk nm.toArray).data.toList = true from HV.out]) | (go_at_call 67; refine (refNext_any _ l i _ HVR.out (by rw [HN.out]; exact hl) (by rw [HN.out]; omega)).mono ?_; rintro e w' ⟨rfl, rfl⟩; rw [HNX.out]))
        go_quiet (fail)
        go_wp2
        go_roundw
        case rel => exact ⟨pre ++ [t], u :: rest, by rw [HP.out]; simp, by rw [HNI.out, Int.natCast_add], by simp, quiet_more HQ.out _, HC.out⟩
        case measure => simp [intOf]; omega
       ·have HC : Hid (ans = false) := Lib.hid (by rw [← HR.out, HRS.out, HNM.out, HUM.out]; simp [hlx])
        have hbl : Op.bytesLess nm um = false := by rw [bytesLess_eq]; simp [hlx]
        clear hlx
        go_wp2_with (first | (go_at_call 18; refine (refUtf_any _ _ HSN.out).mono ?_; rintro e w' ⟨rfl, rfl⟩; rw [show Lib.validD (ByteArray.mk nm.toArray).data.toList = true from HV.out]) | (go_at_call 67; refine (refNext_any _ l i _ HVR.out (by rw [HN.out]; exact hl) (by rw [HN.out]; omega)).mono ?_; rintro e w' ⟨rfl, rfl⟩; rw [HNX.out]))
        go_quiet (fail)
        go_wp2
        go_ret
        exact ⟨ret_bool HC.out.symm, quiet_more HQ.out _⟩
     ·have e6 : (kd == 6) = false := by simp [h6]
      have HC : Hid (rising kd rest = ans) := Lib.hid (by rw [← HR.out, rising_not h6 HO.out])
      go_wp2_with (first | (go_at_call 18; refine (refUtf_any _ _ HSN.out).mono ?_; rintro e w' ⟨rfl, rfl⟩; rw [show Lib.validD (ByteArray.mk nm.toArray).data.toList = true from HV.out]) | (go_at_call 67; refine (refNext_any _ l i _ HVR.out (by rw [HN.out]; exact hl) (by rw [HN.out]; omega)).mono ?_; rintro e w' ⟨rfl, rfl⟩; rw [HNX.out]))
      go_quiet (fail)
      go_wp2
      go_roundw
      case rel => exact ⟨pre ++ [t], rest, by rw [HP.out]; simp, by rw [HNI.out, Int.natCast_add], by simp, quiet_more HQ.out _, HC.out⟩
      case measure => simp [intOf]; omega
end
section
open Go.RowKit Np Rw Vp
theorem rightL_all {t : Tr Nd} (h : okT many t) (hn : t.nd.name = []) : rightL (flat t) = (subs t).all nodeOk := by
 rw [rightL_flat h, hn, rightT_subs t h]; simp
theorem all_snoc {α : Type} {p : α → Bool} {l : List α} {k : Nat} {x : α} (h : (l.take k).all p = true) (hx : l[k]? = some x) (hp : p x = true) : (l.take (k + 1)).all p = true := by
 rw [List.take_add_one, List.all_append, h, hx]; simp [hp]
theorem all_bad {α : Type} {p : α → Bool} {l : List α} {k : Nat} {x : α} (hx : l[k]? = some x) (hp : p x = false) : l.all p = false := by
 rw [List.all_eq_false]
 exact ⟨x, List.mem_of_getElem? hx, by simp [hp]⟩
theorem refRightV_any (v : Value) (l : List Nd) (w : World) (hv : Nds w v l) (hl : l.length ≤ 65536) (hsh : Short l) :
  Calls Tryz.prog 43 #[v] w fun e w' => e = .returned (.bool (rightL l)) ∧ Below w.heap.size w w' := by
 have hB : Below w.heap.size w w := Below.refl _ _
 have HSH := Lib.hid hsh; clear hsh
 cases l with
 | nil =>
  obtain ⟨A, c, rfl, -⟩ := hv
  simp only [List.length_nil]
  go_enter Tryz.func43, Tryz.ntmps43
  go_wp2_with fail
  go_ret
  exact ⟨ret_bool rightL_empty.symm, hB⟩
 | cons n l' =>
  have hvH := Lib.hid hv
  obtain ⟨g, o, c, rfl, hc, hcm, hg, hx⟩ := hv.opened (by simp)
  obtain ⟨-, -, a2, -, -, -⟩ := (hx 0 n rfl).nd
  simp only [Nat.zero_mul, Nat.add_zero] at a2
  have HX := Lib.hid hx; clear hx
  by_cases hnm : n.name = []
  ·rw [hnm] at a2
   by_cases hnx : nxtL (n :: l').length (n :: l') 1 0 = (n :: l').length
   ·obtain ⟨t, ht, hfl⟩ := skip_one (nxt_whole.1 hnx)
    have hnd : t.nd = n := by rw [flat_eq] at hfl; exact ((List.cons.inj hfl).1).symm
    have HV : Hid (rightL (n :: l') = (subs t).all nodeOk) := Lib.hid (by rw [hfl]; exact rightL_all ht (by rw [hnd]; exact hnm))
    have HFL := Lib.hid hfl
    have HT := Lib.hid ht
    have HNX := Lib.hid hnx
    have hsl : (subs t).length = (n :: l').length := by rw [subs_length, ← hfl]
    have hpos : 0 < (n :: l').length := by simp
    clear ht hfl hnd hnx hnm
    generalize n :: l' = l at *
    generalize hn : l.length = N at *
    have HN := Lib.hid hn; clear hn
    have HSL := Lib.hid hsl; clear hsl
    have e0 : ((N : Int) == 0) = false := by simp; omega
    have hvS := hvH.out
    go_enter Tryz.func43, Tryz.ntmps43
    go_wp2_with (go_at_call 67; refine (refNext_any _ l 0 _ hvH.out (by rw [HN.out]; exact hl) (Nat.zero_le _)).mono ?_; rintro e w' ⟨rfl, rfl⟩; rw [HN.out, List.drop_zero, HNX.out])
    go_loopw [3] (fun i wr => ∃ k : Nat, k ≤ N ∧ i = .int .i64 k ∧ Below w.heap.size w wr ∧ ((subs t).take k).all nodeOk = true) (fun i _ => N - (intOf i).toNat)
    case atStart => exact ⟨0, Nat.zero_le _, rfl, Below.refl _ _, rfl⟩
    case round =>
     obtain ⟨k, hk, rfl, hbw, hal⟩ := hrel
     have HAL := Lib.hid hal; clear hal
     by_cases hlt : k < N
     ·obtain ⟨s, hs⟩ : ∃ s, (subs t)[k]? = some s := ⟨_, List.getElem?_eq_getElem (by rw [HSL.out]; exact hlt)⟩
      obtain ⟨q, hq⟩ := subs_drop t [] k s hs
      rw [List.append_nil, ← HFL.out] at hq
      have hat := head_at hq
      have hok : okT many s := subs_ok t HT.out s (List.mem_of_getElem? hs)
      obtain ⟨a0, a1, a2, a3, a4, a5⟩ := (HX.out k _ hat).nd.below hg hbw
      have HS := Lib.hid hs
      have HSN : Hid (s.nd.s.length ≤ maxLen) := Lib.hid (HSH.out _ (List.mem_of_getElem? hat)).2
      have HND : Hid (nodeOk s = (plainN s.nd && rising s.nd.kind s.ks)) := Lib.hid rfl
      have HQ := Lib.hid hq
      have HO := Lib.hid hok
      clear hs hq hat hok
      cases hp : plainN s.nd
      ·have HP := Lib.hid hp
       have HE : Hid ((subs t).all nodeOk = false) := Lib.hid (all_bad HS.out (by rw [HND.out, hp]; rfl))
       clear hp
       go_wp2_with fail
       refine (refPlain_any s.nd _ HSN.out).mono ?_
       rintro e w1 ⟨rfl, hb1⟩
       rw [HP.out]
       go_wp2_with fail
       go_ret
       exact ⟨ret_bool (by rw [HV.out, HE.out]), Below.after hbw hb1⟩
      ·have HP := Lib.hid hp
       clear hp
       cases hr : rising s.nd.kind s.ks
       ·have HR := Lib.hid hr
        have HE : Hid ((subs t).all nodeOk = false) := Lib.hid (all_bad HS.out (by rw [HND.out, HP.out, hr]; rfl))
        clear hr
        go_wp2_with fail
        refine (refPlain_any s.nd _ HSN.out).mono ?_
        rintro e w1 ⟨rfl, hb1⟩
        rw [HP.out]
        go_wp2_with fail
        refine (refRising_any _ l k s q _ (hvH.out.below (Below.after hbw hb1)) (by rw [HN.out]; exact hl) HSH.out HQ.out HO.out).mono ?_
        rintro e w2 ⟨rfl, hq2⟩
        rw [HR.out]
        go_wp2_with fail
        go_ret
        exact ⟨ret_bool (by rw [HV.out, HE.out]), Below.after (Below.after hbw hb1) (below_quiet hq2)⟩
       ·have HR := Lib.hid hr
        have HE : Hid (((subs t).take (k + 1)).all nodeOk = true) := Lib.hid (all_snoc HAL.out HS.out (by rw [HND.out, HP.out, hr]; rfl))
        clear hr
        go_wp2_with fail
        refine (refPlain_any s.nd _ HSN.out).mono ?_
        rintro e w1 ⟨rfl, hb1⟩
        rw [HP.out]
        go_wp2_with fail
        refine (refRising_any _ l k s q _ (hvH.out.below (Below.after hbw hb1)) (by rw [HN.out]; exact hl) HSH.out HQ.out HO.out).mono ?_
        rintro e w2 ⟨rfl, hq2⟩
        rw [HR.out]
        go_wp2_with fail
        go_roundw
        case rel => exact ⟨k + 1, by omega, by go_num, Below.after (Below.after hbw hb1) (below_quiet hq2), HE.out⟩
        case measure => simp [intOf]; omega
     ·have HE : Hid ((subs t).all nodeOk = true) := Lib.hid (by have := HAL.out; rwa [List.take_of_length_le (by rw [HSL.out]; omega)] at this)
      go_wp2
      go_ret
      exact ⟨ret_bool (by rw [HV.out, HE.out]), hbw⟩
   ·have HV := Lib.hid (rightL_next hnx)
    have hpos : 0 < (n :: l').length := by simp
    generalize n :: l' = l at *
    generalize hn : l.length = N at *
    have HN := Lib.hid hn; clear hn
    have e0 : ((N : Int) == 0) = false := by simp; omega
    obtain ⟨x, hx⟩ : ∃ x, nxtL N l 1 0 = x := ⟨_, rfl⟩
    rw [hx] at hnx
    have HNX := Lib.hid hx
    have hne : (x == (N : Int)) = false := by simp [hnx]
    have hne' : (x != (N : Int)) = true := by simp [hnx]
    clear hx hnx hnm
    go_enter Tryz.func43, Tryz.ntmps43
    go_wp2_with (go_at_call 67; refine (refNext_any _ l 0 _ hvH.out (by rw [HN.out]; exact hl) (Nat.zero_le _)).mono ?_; rintro e w' ⟨rfl, rfl⟩; rw [HN.out, List.drop_zero, HNX.out])
    go_ret
    exact ⟨ret_bool HV.out.symm, hB⟩
  ·have HV := Lib.hid (rightL_name (l := l') hnm)
   have hpos : 0 < (n :: l').length := by simp
   have hne1 : n.name.isEmpty = false := by cases h : n.name <;> simp_all
   have hne2 : (!n.name.isEmpty) = true := by simp [hne1]
   generalize hn : (n :: l').length = N at *
   have HN := Lib.hid hn; clear hn
   have e0 : ((N : Int) == 0) = false := by simp; omega
   go_enter Tryz.func43, Tryz.ntmps43
   go_wp2_with fail
   go_ret
   exact ⟨ret_bool HV.out.symm, hB⟩
def shortN (n : Nd) : Bool := decide (n.s.length ≤ 200) && decide (n.name.length ≤ 200)
def few (m : Nat) (l : List Nd) : Bool := decide (l.length ≤ m) && l.all shortN && rightL l
theorem few_short {l : List Nd} (h : l.all shortN = true) : Short l := by
 intro n hn
 have := List.all_eq_true.1 h n hn
 simp [shortN] at this
 unfold maxLen
 omega
theorem refFew_any (v : Value) (l : List Nd) (m : Nat) (w : World) (hv : Nds w v l) (hm : m ≤ 65536) :
  Calls Tryz.prog 17 #[v, .int .i64 m] w fun e w' => e = .returned (.bool (few m l)) ∧ Below w.heap.size w w' := by
 have hB : Below w.heap.size w w := Below.refl _ _
 have hlen := hv.len
 unfold maxLen at hlen
 by_cases hlm : l.length ≤ m
 ·rcases Nat.eq_zero_or_pos l.length with h0 | h0
  ·have e1 := List.eq_nil_of_length_eq_zero h0
   subst e1
   have hvH := Lib.hid hv
   obtain ⟨A, c, rfl, -⟩ := hv
   have HE : Hid (few m [] = false) := Lib.hid (by simp [few, rightL_empty])
   clear h0 hlm hlen
   simp only [List.length_nil] at hvH ⊢
   go_enter Tryz.func17, Tryz.ntmps17
   go_wp2
   go_loopw [5] (fun i wr => i = .int .i64 0 ∧ wr = w) (fun _ _ => 0)
   case atStart => exact ⟨rfl, rfl⟩
   case round =>
    obtain ⟨rfl, rfl⟩ := hrel
    go_wp2_with (go_at_call 43; refine (refRightV_any _ [] _ hvH.out (by simp) (fun _ h => by cases h)).mono ?_; rintro e w1 ⟨rfl, hb1⟩)
    go_ret
    exact ⟨ret_bool (by rw [HE.out]; rfl), hb1⟩
  ·have hvH := Lib.hid hv
   obtain ⟨g, o, c, rfl, hc, hcm, hg, hx⟩ := hv.opened h0
   have HX := Lib.hid hx; clear hx
   have HF : Hid (few m l = (l.all shortN && rightL l)) := Lib.hid (by simp [few, hlm])
   generalize hn : l.length = n at *
   have HN := Lib.hid hn; clear hn
   have e0 : decide (m < n) = false := by simp; omega
   go_enter Tryz.func17, Tryz.ntmps17
   go_wp2
   go_loopw [5] (fun i wr => ∃ k : Nat, k ≤ n ∧ i = .int .i64 k ∧ wr = w ∧ (l.take k).all shortN = true) (fun i _ => n - (intOf i).toNat)
   case atStart => exact ⟨0, Nat.zero_le _, rfl, rfl, rfl⟩
   case round =>
    obtain ⟨k, hk, rfl, rfl, hal⟩ := hrel
    have HAL := Lib.hid hal; clear hal
    by_cases hlt : k < n
    ·obtain ⟨x, hx⟩ : ∃ s, l[k]? = some s := ⟨_, List.getElem?_eq_getElem (by rw [HN.out]; exact hlt)⟩
     obtain ⟨-, -, a2, a3, -, -⟩ := (HX.out k _ hx).nd
     have HXX := Lib.hid hx; clear hx
     have HS : Hid (shortN x = (decide (x.s.length ≤ 200) && decide (x.name.length ≤ 200))) := Lib.hid rfl
     by_cases h1 : x.s.length ≤ 200
     ·by_cases h2 : x.name.length ≤ 200
      ·have HE : Hid ((l.take (k + 1)).all shortN = true) := Lib.hid (all_snoc HAL.out HXX.out (by rw [HS.out]; simp [h1, h2]))
       have e1 : decide (200 < x.s.length) = false := by simp; omega
       have e2 : decide (200 < x.name.length) = false := by simp; omega
       go_wp2
       go_roundw
       case rel => exact ⟨k + 1, by omega, by go_num, by simp, HE.out⟩
       case measure => simp [intOf]; omega
      ·have HE : Hid (l.all shortN = false) := Lib.hid (all_bad HXX.out (by rw [HS.out]; simp [h2]))
       have e1 : decide (200 < x.s.length) = false := by simp; omega
       have e2 : decide (200 < x.name.length) = true := by simp; omega
       go_wp2
       go_ret
       exact ⟨ret_bool (by rw [HF.out, HE.out]; rfl), hB⟩
     ·have HE : Hid (l.all shortN = false) := Lib.hid (all_bad HXX.out (by rw [HS.out]; simp [h1]))
      have e1 : decide (200 < x.s.length) = true := by simp; omega
      go_wp2
      go_ret
      exact ⟨ret_bool (by rw [HF.out, HE.out]; rfl), hB⟩
    ·have HE : Hid (l.all shortN = true) := Lib.hid (by have := HAL.out; rwa [List.take_of_length_le (by rw [HN.out]; omega)] at this)
     go_wp2_with (go_at_call 43; refine (refRightV_any _ l _ hvH.out (by rw [HN.out]; omega) (few_short HE.out)).mono ?_; rintro e w1 ⟨rfl, hb1⟩)
     go_ret
     exact ⟨ret_bool (by rw [HF.out, HE.out]; rfl), hb1⟩
 ·have HE : Hid (few m l = false) := Lib.hid (by simp [few, hlm])
  obtain ⟨A, c, rfl, -⟩ := hv
  go_enter Tryz.func17, Tryz.ntmps17
  go_wp2
  go_ret
  exact ⟨ret_bool HE.out.symm, hB⟩
theorem sum_take {L : List (List Nd)} {k : Nat} {x : List Nd} (hx : L[k]? = some x) : ((L.take (k + 1)).map List.length).sum = ((L.take k).map List.length).sum + x.length := by
 rw [List.take_add_one, hx]; simp
theorem sum_take_le (L : List (List Nd)) (k : Nat) : ((L.take k).map List.length).sum ≤ (L.map List.length).sum := by
 conv => rhs; rw [← List.take_append_drop k L, List.map_append, List.sum_append]
 omega
end
section
open Go.RowKit Np Rw Vp
def Tabs (w : World) : Prop := Lib.Utf8Tabs 0 1 w
theorem Tabs.below {w w' : World} (h : Tabs w) (hb : Below w.heap.size w w') : Tabs w' := Utf8Tabs_below h hb
theorem valid_any (s : ByteArray) (w : World) (hs : s.size ≤ maxLen) (hT : Tabs w) :
  Calls Tryz.prog 195 #[.string s] w fun e w' => e = .returned (.bool (vld s.data.toList)) ∧ Below w.heap.size w w' :=
 Any.utf8_ValidString Tryz.laysValid s w (by unfold maxLen at hs; omega) hT
def hdc (h : Hd) : List Value := [.int .i64 h.kind, .int .i64 h.left, .bool h.begun, .string ⟨h.ahead.toArray⟩]
end
section
open Go.RowKit Np Rw Vp Up Qp Pw
theorem cat_one (c : UInt8) (l : List UInt8) : (ByteArray.mk #[c]) ++ (ByteArray.mk l.toArray) = ⟨(c :: l).toArray⟩ := ByteArray.ext (by simp)
theorem wrs_le : ∀ l : List UInt8, (wrs l).length ≤ 6 * l.length
 | [] => by simp [wrs]
 | c :: r => by
  have h := wrs_le r
  have h2 : (wr c).length ≤ 6 := by
   unfold wr
   repeat' split
   all_goals simp
  have : wrs (c :: r) = wr c ++ wrs r := by simp [wrs]
  rw [this, List.length_append, List.length_cons]
  omega
theorem written_any (s : St) (w : World) (hs : s.name.length ≤ 1073741824) (h0 : -9223372036854775808 ≤ s.n) (h1 : s.n ≤ 9223372036854775807) (hT : PowTab w) :
  Calls Tryz.prog 167 #[sta s] w fun e w' => e = .returned (.string ⟨(stT s).toArray⟩) ∧ Below w.heap.size w w' := by
 obtain ⟨p, nm, n⟩ := s
 have hb := (Below.refl w.heap.size w).alloc (Nat.le_refl _) (.cells #[.bool p, .string ⟨nm.toArray⟩, .int .i64 n] 49)
 have HB := Lib.hid hb
 cases p with
 | true =>
  have HL : Hid ((ByteArray.mk #[91]) ++ (ByteArray.mk (Lib.itoa n).toArray) ++ (ByteArray.mk #[93]) = ⟨(stT ⟨true, nm, n⟩).toArray⟩) := Lib.hid (by
   rw [stT, if_pos rfl]
   exact ByteArray.ext (by simp))
  have HI := Lib.hid (Tryz.strconv_Itoa n h0 h1 _ (hT.below hb))
  have hil := Lib.itoa_length_le n h0 h1
  clear hb hT
  generalize Lib.itoa n = it at *
  generalize stT ⟨true, nm, n⟩ = R at *
  go_enter Tryz.func167, Tryz.ntmps167
  go_wp2_with fail
  refine HI.out.mono ?_
  rintro e w1 ⟨rfl, k, os, rfl⟩
  have HB1 : Hid (Below w.heap.size w (Sort.grow ((w.alloc (.cells #[.bool true, .string ⟨nm.toArray⟩, .int .i64 n] 49)).drewN k) os)) := Lib.hid (HB.out.trans ((grow_below' _ k os).mono HB.out.size))
  generalize Sort.grow ((w.alloc (.cells #[.bool true, .string ⟨nm.toArray⟩, .int .i64 n] 49)).drewN k) os = w1 at *
  go_wp2_with fail
  go_ret
  exact ⟨ret_str HL.out, HB1.out⟩
 | false =>
  have HQ : Hid (∀ W, Calls Tryz.prog 194 #[.string ⟨nm.toArray⟩] W fun e w' => e = .returned (.string ⟨(quo nm).toArray⟩) ∧ Below W.heap.size W w') := Lib.hid (fun W => quote_any ⟨nm.toArray⟩ W hs)
  have HW : Hid (∀ W, Calls Tryz.prog 193 #[.string ⟨nm.toArray⟩] W fun e w' => e = .returned (.string ⟨(wrd nm).toArray⟩) ∧ w' = W) := Lib.hid (fun W => word_any ⟨nm.toArray⟩ W (by unfold maxLen; exact Nat.le_trans hs (by decide)))
  have hql : (quo nm).length ≤ 6442450950 := by
   have h := quo_len nm
   have h2 := wrs_le nm
   have h3 : nm.length ≤ 1073741824 := hs
   omega
  clear hb hT
  by_cases hne : nm = []
  ·subst hne
   have HL : Hid ((ByteArray.mk #[46]) ++ (ByteArray.mk (quo []).toArray) = ⟨(stT ⟨false, [], n⟩).toArray⟩) := Lib.hid (by
    rw [stT, if_neg (by simp), if_neg (by simp [isW]), cat_one])
   generalize stT ⟨false, [], n⟩ = R at *
   generalize quo [] = qn at *
   go_enter Tryz.func167, Tryz.ntmps167
   go_upto_region 3 with fail
   go_quiet (fail)
   go_wp2_with fail
   refine (HQ.out _).mono ?_
   rintro e w1 ⟨rfl, hb1⟩
   have HB1 : Hid (Below w.heap.size w w1) := Lib.hid ((drewN_below HB.out _).trans (hb1.mono HB.out.size))
   clear hb1
   go_wp2_with fail
   go_ret
   exact ⟨ret_str HL.out, HB1.out⟩
  ·have hz : (nm == []) = false := by simpa using hne
   have hz2 : (nm != []) = true := by simpa using hne
   have hz3 : nm.isEmpty = false := by simpa using hne
   by_cases hw : wrd nm = nm
   ·have hw2 : (wrd nm == nm) = true := by simpa using hw
    have HL : Hid ((ByteArray.mk #[46]) ++ (ByteArray.mk nm.toArray) = ⟨(stT ⟨false, nm, n⟩).toArray⟩) := Lib.hid (by
     rw [stT, if_neg (by simp), if_pos (by simp [isW, hne]; simpa using hw2), cat_one])
    generalize stT ⟨false, nm, n⟩ = R at *
    generalize quo nm = qn at *
    go_enter Tryz.func167, Tryz.ntmps167
    generalize wrd nm = wn at *
    go_upto_region 3 with fail
    go_region_with (first | (go_at_call 193; refine (HW.out _).mono ?_; rintro e w3 ⟨rfl, rfl⟩))
    all_goals go_wp2_with fail
    all_goals go_ret
    all_goals exact ⟨ret_str HL.out, drewN_below HB.out _⟩
   ·have hw2 : (wrd nm == nm) = false := by simpa using hw
    have HL : Hid ((ByteArray.mk #[46]) ++ (ByteArray.mk (quo nm).toArray) = ⟨(stT ⟨false, nm, n⟩).toArray⟩) := Lib.hid (by
     rw [stT, if_neg (by simp), if_neg (by simp [isW, hw]), cat_one])
    generalize stT ⟨false, nm, n⟩ = R at *
    generalize quo nm = qn at *
    go_enter Tryz.func167, Tryz.ntmps167
    generalize wrd nm = wn at *
    go_upto_region 3 with fail
    go_region_with (first | (go_at_call 193; refine (HW.out _).mono ?_; rintro e w3 ⟨rfl, rfl⟩))
    all_goals go_wp2_with fail
    all_goals refine (HQ.out _).mono ?_
    all_goals rintro e w1 ⟨rfl, hb1⟩
    all_goals have HB1 : Hid (Below w.heap.size w w1) := Lib.hid ((drewN_below HB.out _).trans (hb1.mono HB.out.size))
    all_goals clear hb1
    all_goals go_wp2_with fail
    all_goals go_ret
    all_goals exact ⟨ret_str HL.out, HB1.out⟩
end
section
open Go.RowKit Np Rw Vp Up Qp Pw
def aheadD (m : Nat) : List UInt8 := if m < 10 then [] else Lib.decDigits (m / 10)
theorem dec_ahead (m : Nat) : Lib.decDigits m = aheadD m ++ [UInt8.ofNat (48 + m % 10)] := by
 unfold aheadD
 by_cases h : m < 10
 ·rw [Lib.decDigits_one h, if_pos h, show m % 10 = m by omega]; rfl
 ·rw [if_neg h, Lib.decDigits, dif_neg h]
theorem refDecimal_any (n : Nat) (w : World) (hn : n ≤ 1000000) : Calls Tryz.prog 19 #[.int .i64 n] w fun e w' => e = .returned (.string ⟨(Lib.decDigits n).toArray⟩) ∧ Below w.heap.size w w' := by
 have hcv := any_byte (w.alloc (.cells #[.int .u8 (48 + (n : Int) % 10)] 5)) w.heap.size (48 + (n : Int) % 10) (by simp)
 have hnl := dec_len hn
 have HD0 := Lib.hid (dec_ahead n)
 have HV0 : Hid (UInt8.ofNat (48 + (n : Int) % 10).toNat = UInt8.ofNat (48 + n % 10)) := Lib.hid (by congr 1 <;> omega)
 have HB0 : Hid (Below w.heap.size w (w.alloc (.cells #[.int .u8 (48 + (n : Int) % 10)] 5))) := Lib.hid ((Below.refl _ _).alloc (Nat.le_refl _) _)
 go_enter Tryz.func19, Tryz.ntmps19
 go_wp2_with fail
 go_loopw [0, 3] (fun nv sv wr => ∃ (m : Nat) (d : List UInt8), m ≤ n ∧ nv = .int .i64 m ∧ sv = .string ⟨d.toArray⟩ ∧ Hid (Lib.decDigits n = aheadD m ++ d) ∧ Hid (Below w.heap.size w wr)) (fun nv _ _ => (intOf nv).toNat)
 case atStart =>
  refine ⟨n, [UInt8.ofNat (48 + n % 10)], Nat.le_refl _, rfl, ?_, HD0, HB0⟩
  have := HV0.out
  simp at this ⊢
  first | done | exact this | (rw [← this])
 case round =>
  obtain ⟨m, d, hm, rfl, rfl, HD, HB⟩ := hrel
  have hdl : d.length ≤ 7 := by
   have h1 := congrArg List.length HD.out
   rw [List.length_append] at h1
   omega
  by_cases h10 : m < 10
  ·have HE : Hid (Lib.decDigits n = d) := Lib.hid (by rw [HD.out]; unfold aheadD; rw [if_pos h10]; rfl)
   go_wp2_with fail
   go_ret
   exact ⟨ret_list HE.out.symm, HB.out⟩
  ·have HD2 : Hid (Lib.decDigits n = aheadD (m / 10) ++ (UInt8.ofNat (48 + m / 10 % 10) :: d)) := Lib.hid (by
    rw [HD.out]
    have : aheadD m = Lib.decDigits (m / 10) := by unfold aheadD; rw [if_neg h10]
    rw [this, dec_ahead (m / 10)]
    simp)
   have hcv2 := any_byte (wr.alloc (.cells #[.int .u8 (48 + (m : Int) / 10 % 10)] 5)) wr.heap.size (48 + (m : Int) / 10 % 10) (by simp)
   go_wp2_with fail
   refine ⟨⟨m / 10, UInt8.ofNat (48 + m / 10 % 10) :: d, by omega, by rw [Int.natCast_ediv]; rfl, ?_, HD2, Lib.hid (HB.out.alloc HB.out.size _)⟩, ?_⟩
   ·have h5 : (48 + UInt8.ofNat (m / 10 % 10) : UInt8) = UInt8.ofNat (48 + m / 10 % 10) := by simp
    rw [h5, cat_one]
   ·simp [intOf]; omega
end
section
open Go.RowKit Np Rw Vp Up Qp Pw
def tkQ (p : List St) (k : Nat) : List UInt8 := if k = 0 then [] else textK p k
theorem tkQ_zero (p : List St) : tkQ p 0 = [] := rfl
theorem tkQ_one {p : List St} {s : St} (h : p[0]? = some s) : tkQ p 1 = (if s.part then [46] else []) ++ stT s := by
 unfold tkQ
 rw [if_neg (by omega), textK_succ h, textK_zero]
 cases p with
 | nil => simp at h
 | cons a r => simp at h; subst h; rfl
theorem tkQ_succ {p : List St} {k : Nat} {s : St} (hk : k ≠ 0) (h : p[k]? = some s) : tkQ p (k + 1) = tkQ p k ++ stT s := by
 unfold tkQ
 rw [if_neg (by omega), if_neg hk, textK_succ h]
theorem tkQ_len (p : List St) (k : Nat) : (tkQ p k).length ≤ (textP p).length := by
 unfold tkQ
 split
 ·simp
 ·exact textK_len p k
theorem refTextP_any (pv : Value) (p : List St) (w : World) (hp : Sps w pv p) (hr : p.all rightS = true) (hs : ∀ s ∈ p, s.name.length ≤ 140737488355328) (hlen : (textP p).length ≤ 72057594037927936) (hpl : p.length ≤ 100) :
  Calls Tryz.prog 7 #[pv] w fun e w' => e = .returned (.string ⟨(textP p).toArray⟩) ∧ Below w.heap.size w w' := by
 have HS := Lib.hid hs
 have HR := Lib.hid hr
 have HLEN := Lib.hid hlen
 have HXP : Hid (∀ k s, p[k]? = some s → ∃ g o c, pv = .slice (some ⟨g, o, none⟩) p.length c ∧ g < w.heap.size ∧ Sp3 w g (o + k * 3) s) := Lib.hid fun k s hs => by
  obtain ⟨g, o, c, hv, -, -, hg, hx⟩ := hp.opened (by have := (List.getElem?_eq_some_iff.1 hs).1; omega)
  exact ⟨g, o, c, hv, hg, (hx k s hs).sp⟩
 obtain ⟨P, pc, rfl, -⟩ := hp
 clear hs hlen hr
 by_cases h0 : p.length = 0
 ·have hz : ((p.length : Int) == 0) = true := by simp [h0]
  have htx : textP p = [46] := by
   have : p = [] := List.eq_nil_of_length_eq_zero h0
   rw [this]; rfl
  rw [htx]
  go_enter Tryz.func7, Tryz.ntmps7
  go_wp2_with fail
  go_ret
  exact ⟨rfl, Below.refl _ _⟩
 ·have hz : ((p.length : Int) == 0) = false := by simpa using h0
  have HFIN : Hid (tkQ p p.length = textP p) := Lib.hid (by unfold tkQ; rw [if_neg h0, textK_all (Nat.le_refl _)])
  generalize hpp : p.length = n at *
  have HP := Lib.hid hpp
  clear hpp
  go_enter Tryz.func7, Tryz.ntmps7
  go_wp2_with fail
  go_loopw [3, 4] (fun sv iv wr => ∃ k : Nat, k ≤ n ∧ iv = .int .i64 k ∧ sv = .string ⟨(tkQ p k).toArray⟩ ∧ Hid (Below w.heap.size w wr)) (fun _ iv _ => n - (intOf iv).toNat)
  case atStart => exact ⟨0, Nat.zero_le _, rfl, rfl, Lib.hid (Below.refl _ _)⟩
  case round =>
   obtain ⟨k, hk, rfl, rfl, HB⟩ := hrel
   by_cases hlt : k < n
   ·have hkp : k < p.length := by rw [HP.out]; exact hlt
    obtain ⟨gp, op, cp, e1, hgp, hs3⟩ := HXP.out k _ (List.getElem?_eq_getElem hkp)
    injection e1 with e1 e2 e3
    subst e1 e3
    have HSP : Hid (∀ W, Below w.heap.size w W → Sp3 W gp (op + k * 3) p[k]) := Lib.hid (fun W hb => ⟨(hb.cell (p := ⟨gp, op + k * 3, none⟩) hgp).trans hs3.c0, (hb.cell (p := ⟨gp, op + k * 3 + 1, none⟩) hgp).trans hs3.c1, (hb.cell (p := ⟨gp, op + k * 3 + 2, none⟩) hgp).trans hs3.c2⟩)
    have HRK : Hid (rightS p[k] = true) := Lib.hid (List.all_eq_true.1 HR.out _ (List.getElem_mem hkp))
    have HNK := Lib.hid (HS.out _ (List.getElem_mem hkp))
    have HTK : Hid (tkQ p (k + 1) = (if k = 0 then (if p[k].part then [46] else []) else tkQ p k) ++ stT p[k]) := Lib.hid (by
     by_cases hk0 : k = 0
     ·subst hk0
      rw [if_pos rfl]
      exact tkQ_one (List.getElem?_eq_getElem hkp)
     ·rw [if_neg hk0]
      exact tkQ_succ hk0 (List.getElem?_eq_getElem hkp))
    have htl := Nat.le_trans (tkQ_len p k) HLEN.out
    obtain ⟨s0, s1, s2⟩ := HSP.out wr HB.out
    clear e2 hs3
    generalize p[k] = s at *
    obtain ⟨pt, nm, N⟩ := s
    cases pt with
    | true =>
     obtain ⟨M, rfl, hM⟩ : ∃ M : Nat, N = M ∧ M ≤ 1000000 := by
      have h1 := HRK.out
      unfold rightS at h1
      simp only [if_true, Bool.and_eq_true, decide_eq_true_eq] at h1
      exact ⟨N.toNat, by omega, by omega⟩
     have HD := Lib.hid (fun W => refDecimal_any M W hM)
     have hdl := dec_len hM
     have HST : Hid (stT ⟨true, nm, (M : Int)⟩ = 91 :: (Lib.decDigits M ++ [93])) := Lib.hid (by rw [stT, if_pos rfl, itoa_nat (n := (M : Int)) (by omega), Int.toNat_natCast])
     generalize Lib.decDigits M = dd at *
     by_cases hk0 : k = 0
     ·subst hk0
      simp only [Nat.zero_mul, Nat.add_zero] at s0 s1 s2
      have HF : Hid (tkQ p (0 + 1) = 46 :: 91 :: (dd ++ [93])) := Lib.hid (by rw [HTK.out, if_pos rfl, HST.out]; rfl)
      clear HTK HRK HST
      go_wp2_with fail
      refine (HD.out _).mono ?_
      rintro e w2 ⟨rfl, hb2⟩
      have HB2 := Lib.hid (Below.after HB.out hb2)
      clear hb2
      go_wp2_with fail
      refine ⟨⟨0 + 1, by omega, by first | rfl | go_num, ?_, HB2⟩, by simp [intOf]; omega⟩
      rw [HF.out]
      exact congrArg Value.string (ByteArray.ext (by simp))
     ·have hk1 : ((k : Int) == 0) = false := by simpa using hk0
      have HF : Hid (tkQ p (k + 1) = tkQ p k ++ 91 :: (dd ++ [93])) := Lib.hid (by rw [HTK.out, if_neg hk0, HST.out])
      clear HTK HRK HST
      generalize tkQ p k = tk at *
      go_wp2_with fail
      refine (HD.out _).mono ?_
      rintro e w2 ⟨rfl, hb2⟩
      have HB2 := Lib.hid (Below.after HB.out hb2)
      clear hb2
      go_wp2_with fail
      refine ⟨⟨k + 1, by omega, by go_num, ?_, HB2⟩, by simp [intOf]; omega⟩
      rw [HF.out]
      exact congrArg Value.string (ByteArray.ext (by simp))
    | false =>
     have HST : Hid (tkQ p (k + 1) = tkQ p k ++ stT ⟨false, nm, N⟩) := Lib.hid (by
      rw [HTK.out]
      by_cases hk0 : k = 0
      ·subst hk0; simp [tkQ_zero]
      ·rw [if_neg hk0])
     have HW := Lib.hid (fun W => refWordP_any ⟨nm.toArray⟩ W (by have := HNK.out; unfold maxLen; rw [mk_size]; simp only at this; omega))
     have HQ := Lib.hid (fun W => refQuote_any ⟨nm.toArray⟩ W (by have := HNK.out; rw [mk_size]; simp only at this; omega))
     have hnl : nm.length ≤ 140737488355328 := HNK.out
     have hql : (quo nm).length ≤ 844424930131970 := by
      have h1 := quo_len nm
      have h2 := wrs_le nm
      omega
     clear HTK HRK
     generalize tkQ p k = tk at *
     cases hw : isW nm with
     | true =>
      have HF : Hid (tkQ p (k + 1) = tk ++ 46 :: nm) := Lib.hid (by rw [HST.out, stT, if_neg (by simp), if_pos hw])
      simp only [hw] at HW
      clear hw HST HQ hql
      go_wp2_with fail
      refine (HW.out _).mono ?_
      rintro e w1 ⟨rfl, rfl⟩
      go_wp2_with fail
      refine ⟨⟨k + 1, by omega, by go_num, ?_, HB⟩, by simp [intOf]; omega⟩
      rw [HF.out]
      exact congrArg Value.string (ByteArray.ext (by simp))
     | false =>
      have HF : Hid (tkQ p (k + 1) = tk ++ 46 :: quo nm) := Lib.hid (by rw [HST.out, stT, if_neg (by simp), if_neg (by rw [hw]; simp)])
      simp only [hw] at HW
      simp only at HQ
      clear hw HST
      generalize quo nm = qn at *
      go_wp2_with fail
      refine (HW.out _).mono ?_
      rintro e w1 ⟨rfl, rfl⟩
      go_wp2_with fail
      refine (HQ.out _).mono ?_
      rintro e w2 ⟨rfl, hb2⟩
      have HB2 := Lib.hid (Below.after HB.out hb2)
      clear hb2
      go_wp2_with fail
      refine ⟨⟨k + 1, by omega, by go_num, ?_, HB2⟩, by simp [intOf]; omega⟩
      rw [HF.out]
      exact congrArg Value.string (ByteArray.ext (by simp))
   ·obtain rfl : k = n := by omega
    go_wp2_with fail
    go_ret
    exact ⟨ret_list HFIN.out, HB.out⟩
end
section
open Go.RowKit Np
theorem made_take {α : Type} {enc : α → List Value} {sz : Nat} (hl : ∀ x, (enc x).length = sz) (hp : 0 < sz) (x : α) (zc : Array Value) (hz : zc.toList = enc x) (n c : Nat) (hn : n ≤ c) :
  (madeCells zc (c * sz)).toList.take (n * sz) = (List.replicate n x).flatMap enc := by
 have hzs : zc.size = sz := by rw [← Array.length_toList, hz, hl]
 apply List.ext_getElem?
 intro i
 by_cases hi : i < n * sz
 ·have h1 : i / sz < n := (Nat.div_lt_iff_lt_mul hp).2 hi
  have h2 : i < c * sz := Nat.lt_of_lt_of_le hi (Nat.mul_le_mul_right _ hn)
  have hm := Nat.mod_lt i hp
  have := flat_at hl (List.replicate n x) (i / sz) x (i % sz) (by rw [List.getElem?_replicate, if_pos h1]) hm
  rw [Nat.div_add_mod' i sz] at this
  rw [this, List.getElem?_take, if_pos hi, ← hz, Array.getElem?_toList, Array.getElem?_toList]
  simp [madeCells, h2, hzs, hm]
 ·rw [List.getElem?_take, if_neg hi, List.getElem?_eq_none (by rw [flat_len hl, List.length_replicate]; omega)]
section
variable {α : Type} {enc : α → List Value} {sz E base : Nat} {w : World} {l : List α}
theorem Own.made (hl : ∀ x, (enc x).length = sz) (hp : 0 < sz) (w : World) (x : α) (zc : Array Value) (hz : zc.toList = enc x) (n c : Nat) (hn : n ≤ c) (hm : c ≤ maxLen) (hb : base ≤ w.heap.size) :
  Own enc sz E base (w.alloc (.cells (madeCells zc (c * sz)) E)) (.slice (some ⟨w.heap.size, 0, none⟩) n c) (List.replicate n x) := by
 refine ⟨flat_len hl _, .inr ⟨w.heap.size, c, _, by simp, hb, heap_alloc_new w _, by simpa using hn, hm, size_madeCells _ _, ?_⟩⟩
 rw [List.length_replicate]
 exact made_take hl hp x zc hz n c hn
theorem Own.made1 (hl : ∀ x, (enc x).length = 1) (w : World) (x : α) (z : Value) (hz : [z] = enc x) (n : Nat) (hm : n ≤ maxLen) (hb : base ≤ w.heap.size) :
  Own enc 1 E base (w.alloc (.cells (madeCells #[z] n) E)) (.slice (some ⟨w.heap.size, 0, none⟩) n n) (List.replicate n x) := by
 have := Own.made (E := E) hl (by decide) w x #[z] hz n n (Nat.le_refl _) hm hb
 rwa [Nat.mul_one] at this
theorem set_row (xs : List Value) : ∀ (vs : List Value) (a : List Value) (o : Nat), a.length = o → ∀ (x b : List Value), x.length = vs.length → xs = a ++ x ++ b →
  ∀ {w : World} {g cap n : Nat}, w.ownsRow base E sz (.slice (some ⟨g, 0, none⟩) n cap) n xs → (w.setCells g o vs).ownsRow base E sz (.slice (some ⟨g, 0, none⟩) n cap) n (a ++ vs ++ b)
 | [], a, o, _, x, b, hx, hxs, w, g, cap, n, h => by
  have := List.eq_nil_of_length_eq_zero hx
  subst this
  rw [← hxs]; exact h
 | v :: vs, a, o, ho, [], b, hx, _, w, g, cap, n, h => by simp at hx
 | v :: vs, a, o, ho, c :: x, b, hx, hxs, w, g, cap, n, h => by
  have h1 := (World.ownsRow.stored h o v).1
  have e1 : xs.set o v = (a ++ [v]) ++ x ++ b := by
   rw [hxs, ← ho, List.append_assoc, List.set_append_right _ _ (Nat.le_refl _)]; simp
  have := set_row (xs.set o v) vs (a ++ [v]) (o + 1) (by simp [ho]) x b (by simpa using hx) e1 h1
  rw [World.setCells]
  simpa using this
theorem flat_split_at {k : Nat} {x : α} (hk : l[k]? = some x) : l = l.take k ++ x :: l.drop (k + 1) := by
 obtain ⟨h1, h2⟩ := List.getElem?_eq_some_iff.1 hk
 rw [← h2, List.getElem_cons_drop h1, List.take_append_drop]
theorem Own.puts (hl : ∀ x, (enc x).length = sz) {g cap k : Nat} {x y : α} (h : Own enc sz E base w (.slice (some ⟨g, 0, none⟩) l.length cap) l) (hk : l[k]? = some x) :
  Own enc sz E base (w.setCells g (k * sz) (enc y)) (.slice (some ⟨g, 0, none⟩) l.length cap) (l.set k y) := by
 have hkl : k < l.length := (List.getElem?_eq_some_iff.1 hk).1
 have e1 : l.flatMap enc = (l.take k).flatMap enc ++ enc x ++ (l.drop (k + 1)).flatMap enc := by
  conv => lhs; rw [flat_split_at hk]
  simp
 have e2 : (l.set k y).flatMap enc = (l.take k).flatMap enc ++ enc y ++ (l.drop (k + 1)).flatMap enc := by
  rw [List.set_eq_take_append_cons_drop, if_pos hkl]; simp
 unfold Own
 rw [e2, List.length_set]
 exact set_row _ (enc y) _ _ (by rw [flat_len hl, List.length_take]; congr 1; omega) (enc x) _ (by rw [hl, hl]) e1 h
theorem Own.there (hl : ∀ x, (enc x).length = sz) {g cap k : Nat} {x : α} (h : Own enc sz E base w (.slice (some ⟨g, 0, none⟩) l.length cap) l) (hk : l[k]? = some x) : w.there g (k * sz) sz := by
 intro j hj
 have hj' : j < (enc x).length := by rw [hl]; exact hj
 refine ⟨?_, h.free _⟩
 rw [Own.cell hl h hk (List.getElem?_eq_getElem hj')]
 rfl
end
theorem Below.setCells {B : Nat} {a : World} {g : Nat} (hg : B ≤ g) : ∀ (vs : List Value) (o : Nat) {w : World}, Below B a w → Below B a (w.setCells g o vs)
 | [], _, _, h => h
 | v :: vs, o, _, h => Below.setCells hg vs (o + 1) (h.setCell (p := ⟨g, o, none⟩) hg v)
theorem wpList_store_node {ops : Array Oper} {rest : List Oper} {op : Oper} {a : Act} {w : World} {Q : Exit → Act → World → Prop} (hgd : op.guard = none) (x y : Operand) (ho : op.op = .store 30 x y)
  (g o : Nat) (n : Nd) (hx : a.eval x = .pointer (some ⟨g, o, none⟩)) (hy : a.eval y = nda n) (ht : w.there g o 6) (h : wpList Tryz.prog ops Q rest (a.put op.dst undef) (w.setCells g o (ndc n))) : wpList Tryz.prog ops Q (op :: rest) a w := by
 refine wpList_store_mid hgd 30 x y ho g o _ hx hy ht ?_ (all_oneCell_toArray (cs := ndc n) (elNode.one n)) h
 have := node_info
 cases h : Tryz.prog.info? 30 with
 | none => rw [h] at this; cases this
 | some i => rw [h] at this; simp at this; simp [this.2.1]
end
end Go.Proofs.YtldioobbfkaebaaGreatDoor
