/-
  Joined: Ev7, Ev8, EvD, EvE.
-/
import Derived.Test.YtldioobbfkaebaaGreatDoorEvalHoldsJ21
import Derived.Test.YtldioobbfkaebaaGreatDoorEvalHoldsJ13
import Derived.Test.YtldioobbfkaebaaGreatDoorEvalHoldsJ19
import Derived.Test.YtldioobbfkaebaaGreatDoorEvalHoldsJ22
import Derived.Test.YtldioobbfkaebaaGreatDoorEvalHoldsJ9
set_option maxHeartbeats 4000000
set_option maxRecDepth 100000
namespace Go.Proofs.YtldioobbfkaebaaGreatDoor
section
open Go.RowKit Go.Shelf Np Rw Vp Pw Ev
theorem rowz_two (W : World) (n : Nat) (hn : W.heap.size = n) (E : TypeId) (a b : Value) (l1 l2 : List (Option Addr)) (h1 : Row ptc 1 W a l1) (h2 : Row ptc 1 W b l2) : Rowz ptc 1 (W.alloc (.cells #[a, b] E)) (.slice (some ⟨n, 0, none⟩) 2 2) [l1, l2] := by
 subst hn
 have hb : Below W.heap.size W (W.alloc (.cells #[a, b] E)) := (Below.refl _ _).alloc (Nat.le_refl _) _
 refine ⟨[a, b], rfl, Row.lit vac_len W E _ [a, b] (by unfold maxLen; simp) rfl, fun k x l hx hk => ?_⟩
 match k, hx, hk with
 | 0, hx, hk => simp at hx hk; subst hx hk; exact h1.below hb
 | 1, hx, hk => simp at hx hk; subst hx hk; exact h2.below hb
 | k + 2, hx, hk => simp at hx
theorem rowz_three (W : World) (n : Nat) (hn : W.heap.size = n) (E : TypeId) (a b d : Value) (l1 l2 l3 : List (Option Addr)) (h1 : Row ptc 1 W a l1) (h2 : Row ptc 1 W b l2) (h3 : Row ptc 1 W d l3) : Rowz ptc 1 (W.alloc (.cells #[a, b, d] E)) (.slice (some ⟨n, 0, none⟩) 3 3) [l1, l2, l3] := by
 subst hn
 have hb : Below W.heap.size W (W.alloc (.cells #[a, b, d] E)) := (Below.refl _ _).alloc (Nat.le_refl _) _
 refine ⟨[a, b, d], rfl, Row.lit vac_len W E _ [a, b, d] (by unfold maxLen; simp) rfl, fun k x l hx hk => ?_⟩
 match k, hx, hk with
 | 0, hx, hk => simp at hx hk; subst hx hk; exact h1.below hb
 | 1, hx, hk => simp at hx hk; subst hx hk; exact h2.below hb
 | 2, hx, hk => simp at hx hk; subst hx hk; exact h3.below hb
 | k + 3, hx, hk => simp at hx
theorem rowS_ahead {S : Nat → Prop} {w W : World} {g o N c k : Nat} {ps : List (Option Addr)} (h : RowS S w (.slice (some ⟨g, o, none⟩) N c) (ps.map Value.pointer)) (hW : Below w.heap.size w W) (hk : k ≤ ps.length) (hc : k ≤ c) : Row ptc 1 W (.slice (some ⟨g, o, none⟩) k c) (ps.take k) := by
 have h1 := (h.same hW.size (fun b _ hl => hW.block b hl)).pc 0 k c (by simp; exact hk) hc (Nat.le_refl _)
 rw [Nat.add_zero, List.drop_zero, ← List.map_take] at h1
 exact h1.ptrs
theorem rowS_behind {S : Nat → Prop} {w W : World} {g o N c k : Nat} {ps : List (Option Addr)} (h : RowS S w (.slice (some ⟨g, o, none⟩) N c) (ps.map Value.pointer)) (hW : Below w.heap.size w W) (hN : N = ps.length) (hk : k ≤ N) (hc : N ≤ c) : Row ptc 1 W (.slice (some ⟨g, o + k, none⟩) (N - k) (c - k)) (ps.drop k) := by
 have h1 := (h.same hW.size (fun b _ hl => hW.block b hl)).pc k (N - k) (c - k) (by simp; omega) (by omega) (by omega)
 rw [← List.map_drop, ← List.map_take, List.take_of_length_le (by simp; omega)] at h1
 exact h1.ptrs
theorem flat_kid_len {t u : Tr Nd} (h : u ∈ t.ks) : (flat u).length < (flat t).length := by
 have : ∀ ks : List (Tr Nd), u ∈ ks → (flat u).length ≤ (flats ks).length := by
  intro ks
  induction ks with
  | nil => intro h; simp at h
  | cons k ks ih =>
   intro h
   rw [flats_cons, List.length_append]
   rcases List.mem_cons.1 h with rfl | h
   ·omega
   ·have := ih h; omega
 have := this t.ks h
 rw [flat_eq t, List.length_cons]; omega
theorem erase_split {α : Type} (l : List α) (k : Nat) : l.eraseIdx k = l.take k ++ l.drop (k + 1) := List.eraseIdx_eq_take_drop_succ l k
theorem set_split {α : Type} {l : List α} {k : Nat} (y : α) (h : k < l.length) : l.set k y = l.take k ++ ([y] ++ l.drop (k + 1)) := by rw [List.set_eq_take_append_cons_drop, if_pos h]; simp
theorem evCut_any : ∀ (p : List St) (S : Nat → Prop) (t : Tr Nd) (v sl : Value) (w : World), p ≠ [] → TrS S w t v → Rgt t → Sps w sl p → (∀ s ∈ p, rightS s = true) → (flat t).length ≤ 1000000000000 →
  Calls Tryz.prog 66 #[v, sl] w (OutR S w (ofO (cutE p t)))
 | [], _, _, _, _, _, hne, _, _, _, _, _ => absurd rfl hne
 | s :: p, S, t, v, sl, w, _, h, ht, hp, hps, hlen => by
  have HP := Lib.hid (fun W (hW : Below w.heap.size w W) => evPlace_any S t v s W (h.below hW) ht (hps s (by simp)))
  have HH := Lib.hid h
  have HPS := Lib.hid hp
  obtain ⟨g, m, A, c, vs, rfl, hS, hg, hn, h6, hr, hk⟩ := h.opened
  obtain ⟨gp, op, cp, rfl, hcp, hcmp, hgp, hxp⟩ := hp.opened (by simp)
  obtain ⟨a0, a1, a2⟩ := (hxp 0 s rfl).sp
  rw [Nat.zero_mul, Nat.add_zero] at a0 a1 a2
  have HR := Lib.hid hr
  have HK := Lib.hid hk
  have H6 := Lib.hid h6
  have HRT := Lib.hid ht
  have HBD := Lib.hid (fun ha => plcV_bad (s := s) (t := t) ha)
  have HOK := Lib.hid (fun ha => plcV_ok (s := s) (t := t) ha)
  have HKL := Lib.hid (fun k (h : kid s t = some k) => kid_at h)
  have HCE := Lib.hid (cutE_cons s p t)
  have HB0 := Lib.hid (Below.refl w.heap.size w)
  clear h ht hp hr hk h6 hn hxp
  generalize plcV s t = pl at *
  generalize hcu : cutE (s :: p) t = R at *
  clear hcu
  generalize hkd : kid s t = kd at *
  clear hkd
  cases ha : asks s t
  ·have h1 := HBD.out ha
   have h2 : R = none := by have := HCE.out; rw [if_neg (by rw [ha]; decide)] at this; exact this
   subst h1 h2
   go_enter Tryz.func66, Tryz.ntmps66
   go_wp2_with fail
   refine (HP.out _ HB0.out).mono ?_
   rintro e w1 ⟨rfl, hb1⟩
   go_wp2_with fail
   go_ret2
   exact ⟨rfl, hb1⟩
  ·have h1 := HOK.out ha
   have hce := HCE.out
   rw [if_pos ha] at hce
   cases kd with
   | none =>
    simp only at h1 hce
    subst h1 hce
    go_enter Tryz.func66, Tryz.ntmps66
    go_wp2_with fail
    refine (HP.out _ HB0.out).mono ?_
    rintro e w1 ⟨rfl, hb1⟩
    go_wp2_with fail
    go_ret2
    exact ⟨g, rfl, (HH.out.below hb1).mono (fun _ _ => Or.l), hb1⟩
   | some k =>
    simp only at h1 hce
    obtain ⟨u, hu, hgd, hum, -, hkl, -⟩ := HKL.out k rfl
    rw [hgd] at hce
    subst h1
    obtain ⟨pv, hpv, hpt⟩ := TrsS_at HK.out hu
    obtain ⟨gu, _, _, _, _, rfl, -⟩ := hpt.opened
    obtain ⟨A', c', hv, hc', hcm', -, HH6⟩ := HR.out
    injection hv with e1 e2 e3
    subst e1 e3
    have hvl := TrsS_len HK.out
    obtain ⟨g2, o2, rfl, hS2, hg2, hx⟩ := HH6 (by omega)
    have hx0 := hx k _ hpv
    have HX0 := Lib.hid hx0
    have HU := Lib.hid hpt
    rw [hvl] at hc'
    clear hx HH6 e2 hgd hpv hpt hx0 hvl
    obtain ⟨ps, hpsv⟩ := TrsS_ptrs HK.out
    subst hpsv
    have hpl : ps.length = t.ks.length := by have := TrsS_len HK.out; simpa using this
    have HCE2 := Lib.hid hce
    have HKN := Lib.hid hkl
    have HUM := Lib.hid hu
    have HPSV := Lib.hid hps
    clear hce hu hps
    generalize hNN : t.ks.length = N at *
    have HNN := Lib.hid hNN
    have HPL := Lib.hid hpl
    clear hNN hpl
    unfold maxLen at hcm'
    have hN6 : N ≤ 1000000000000 := by
     have h1 := flats_len t.ks
     rw [flat_eq] at hlen
     rw [HNN.out] at h1
     simp at hlen; omega
    have hw1 : IntKind.i64.wrap ((k : Int) + 1) = (k : Int) + 1 := by
     unfold IntKind.wrap IntKind.signed IntKind.bits
     simp only
     split
     ·rename_i h; simp at h; omega
     ·omega
    have q1 : (0 : Int) ≤ (k : Int) := by omega
    have q2 : k ≤ c := by omega
    have q3 : k + 1 ≤ N := hkl
    have q4 : (k : Int) + 1 ≤ (N : Int) := by omega
    have HRA := Lib.hid (fun W (hW : Below w.heap.size w W) => rowS_ahead (k := k) HR.out hW (by rw [HPL.out]; omega) q2)
    have HRBE := Lib.hid (fun W (hW : Below w.heap.size w W) => rowS_behind (k := k + 1) HR.out hW HPL.out.symm hkl hc')
    have HNIL : Hid (k + 1 = c → ps.drop (k + 1) = []) := Lib.hid (fun h => List.drop_of_length_le (by rw [HPL.out]; omega))
    have HLN6 : Hid (ps.length ≤ 1000000000000) := Lib.hid (by rw [HPL.out]; exact hN6)
    have HTAK : Hid (∀ W, Below w.heap.size w W → TrsS S W (t.ks.take k) ((ps.take k).map Value.pointer)) := Lib.hid (fun W hW => by have := TrsS_take (HK.out.below hW) k; rwa [← List.map_take] at this)
    have HDRO : Hid (∀ W, Below w.heap.size w W → TrsS S W (t.ks.drop (k + 1)) ((ps.drop (k + 1)).map Value.pointer)) := Lib.hid (fun W hW => by have := TrsS_drop (HK.out.below hW) (k + 1); rwa [← List.map_drop] at this)
    have HWT := Lib.hid (fun (S' : Nat → Prop) (W : World) (slc : Value) (us : List Value) (ls : List (Tr Nd)) (hW : Below w.heap.size w W) (hS' : ∀ b, S b → S' b) (h1 : RowS S' W slc us) (h2 : TrsS S' W ls us) => evWith_any S' t (.pointer (some ⟨g, 0, none⟩)) slc us ls W ((HH.out.below hW).mono (fun b _ h => hS' b h)) h1 h2)
    cases p with
    | nil =>
     by_cases hkc : k + 1 = c
     ·simp only [List.length_cons, List.length_nil] at *
      go_enter Tryz.func66, Tryz.ntmps66
      go_wp2_with fail
      refine (HP.out _ HB0.out).mono ?_
      rintro e w1 ⟨rfl, hb1⟩
      have HB1 := Lib.hid hb1
      have c6 := (hb1.cell (p := ⟨g, 6, none⟩) hg).trans H6.out
      clear a0 a1 a2
      go_wp2_with fail
      go_quiet (fail)
      go_wp2_with fail
      have HBQ := Lib.hid (drewN_below HB1.out nq)
      have HRZ := Lib.hid (rowz_two (w1.drewN nq) w1.heap.size rfl 122 (.slice (some ⟨g2, o2, none⟩) k c) (.slice (some ⟨g2, o2, none⟩) 0 0) (ps.take k) (ps.drop (k + 1)) (HRA.out _ HBQ.out) (by rw [HNIL.out hkc]; exact Row.empty _ _ 0 (Nat.zero_le _)))
      have hba := HBQ.out.alloc HBQ.out.size (.cells #[.slice (some ⟨g2, o2, none⟩) k c, .slice (some ⟨g2, o2, none⟩) 0 0] 122)
      have HBA := Lib.hid hba
      clear hba
      refine (tconcat_any _ _ _ HRZ.out (by simp) (by have := HLN6.out; simp; omega)).mono ?_
      rintro e w2 ⟨v2, rfl, ho2, hb2⟩
      have HB2 := Lib.hid (HBA.out.trans (hb2.mono HBA.out.size))
      have HO2 : Hid (Own ptc 1 61 w.heap.size w2 v2 (ps.take k ++ ps.drop (k + 1))) := Lib.hid (by have := ho2.mono HBA.out.size; simpa using this)
      clear ho2 hb2 c6
      have HRS2 := Lib.hid (own_rowS (S := Or S w.heap.size) HO2.out (fun g' hg' => .inr (World.ownsRow.lt HO2.out g' hg').1))
      have HTS2 : Hid (TrsS (Or S w.heap.size) w2 (t.ks.eraseIdx k) ((ps.take k ++ ps.drop (k + 1)).map Value.pointer)) := Lib.hid (by rw [erase_split, List.map_append]; exact (TrsS_append (HTAK.out _ HB2.out) (HDRO.out _ HB2.out)).mono (fun _ _ => Or.l))
      obtain ⟨A9, n9, d9, rfl⟩ : ∃ A n d, v2 = .slice A n d := by obtain ⟨A, d, h, -⟩ := HO2.out.form; exact ⟨A, _, d, h⟩
      have hR : R = some (withK t (t.ks.eraseIdx k)) := by simpa using HCE2.out
      subst hR
      go_wp2_with fail
      refine (HWT.out (Or S w.heap.size) w2 _ _ _ HB2.out (fun _ => Or.l) HRS2.out HTS2.out).mono ?_
      rintro e w3 ⟨g3, rfl, ht3, hb3⟩
      have HT3 := Lib.hid ht3
      clear ht3
      go_wp2_with fail
      go_ret2
      exact ⟨g3, rfl, HT3.out.mono (fun b _ h => h.elim id (fun h => .inr (Nat.le_trans HB2.out.size h))), HB2.out.trans (hb3.mono HB2.out.size)⟩
     ·simp only [List.length_cons, List.length_nil] at *
      go_enter Tryz.func66, Tryz.ntmps66
      go_wp2_with fail
      refine (HP.out _ HB0.out).mono ?_
      rintro e w1 ⟨rfl, hb1⟩
      have HB1 := Lib.hid hb1
      have c6 := (hb1.cell (p := ⟨g, 6, none⟩) hg).trans H6.out
      clear a0 a1 a2
      go_wp2_with fail
      go_quiet (fail)
      go_wp2_with fail
      have HBQ := Lib.hid (drewN_below HB1.out nq)
      have HRZ := Lib.hid (rowz_two (w1.drewN nq) w1.heap.size rfl 122 (.slice (some ⟨g2, o2, none⟩) k c) (.slice (some ⟨g2, o2 + (k + 1), none⟩) (N - (k + 1)) (c - (k + 1))) (ps.take k) (ps.drop (k + 1)) (HRA.out _ HBQ.out) (HRBE.out _ HBQ.out))
      have hba := HBQ.out.alloc HBQ.out.size (.cells #[.slice (some ⟨g2, o2, none⟩) k c, .slice (some ⟨g2, o2 + (k + 1), none⟩) (N - (k + 1)) (c - (k + 1))] 122)
      have HBA := Lib.hid hba
      clear hba
      refine (tconcat_any _ _ _ HRZ.out (by simp) (by have := HLN6.out; simp; omega)).mono ?_
      rintro e w2 ⟨v2, rfl, ho2, hb2⟩
      have HB2 := Lib.hid (HBA.out.trans (hb2.mono HBA.out.size))
      have HO2 : Hid (Own ptc 1 61 w.heap.size w2 v2 (ps.take k ++ ps.drop (k + 1))) := Lib.hid (by have := ho2.mono HBA.out.size; simpa using this)
      clear ho2 hb2 c6
      have HRS2 := Lib.hid (own_rowS (S := Or S w.heap.size) HO2.out (fun g' hg' => .inr (World.ownsRow.lt HO2.out g' hg').1))
      have HTS2 : Hid (TrsS (Or S w.heap.size) w2 (t.ks.eraseIdx k) ((ps.take k ++ ps.drop (k + 1)).map Value.pointer)) := Lib.hid (by rw [erase_split, List.map_append]; exact (TrsS_append (HTAK.out _ HB2.out) (HDRO.out _ HB2.out)).mono (fun _ _ => Or.l))
      obtain ⟨A9, n9, d9, rfl⟩ : ∃ A n d, v2 = .slice A n d := by obtain ⟨A, d, h, -⟩ := HO2.out.form; exact ⟨A, _, d, h⟩
      have hR : R = some (withK t (t.ks.eraseIdx k)) := by simpa using HCE2.out
      subst hR
      go_wp2_with fail
      refine (HWT.out (Or S w.heap.size) w2 _ _ _ HB2.out (fun _ => Or.l) HRS2.out HTS2.out).mono ?_
      rintro e w3 ⟨g3, rfl, ht3, hb3⟩
      have HT3 := Lib.hid ht3
      clear ht3
      go_wp2_with fail
      go_ret2
      exact ⟨g3, rfl, HT3.out.mono (fun b _ h => h.elim id (fun h => .inr (Nat.le_trans HB2.out.size h))), HB2.out.trans (hb3.mono HB2.out.size)⟩
    | cons s2 p2 =>
     have hz2 : ¬ ((p2.length : Int) + 1 + 1 = 1) := by omega
     have HIC := Lib.hid (fun W (hW : Below w.heap.size w W) => evCut_any (s2 :: p2) S u (.pointer (some ⟨gu, 0, none⟩)) (.slice (some ⟨gp, op + 3, none⟩) (p2.length + 1) (cp - 1)) W (by simp) (HU.out.below hW) (HRT.out.kid hum) (by have := (HPS.out.below hW).pc 1 (p2.length + 1) (cp - 1) (by simp; omega) (by simp at hcp; omega) (by omega); simpa using this) (fun s' hs' => HPSV.out s' (by simp [hs'])) (by have h1 := flat_kid_len hum; omega))
     have hcp2 : p2.length + 1 + 1 ≤ cp := by simpa using hcp
     have q5 : (1 : Int) ≤ (p2.length : Int) + 1 + 1 := by omega
     have q6 : ¬ (1 = cp) := by omega
     have q7 : ¬ (cp = 1) := by omega
     by_cases hkc : k + 1 = c
     ·simp only [List.length_cons] at *
      go_enter Tryz.func66, Tryz.ntmps66
      go_wp2_with fail
      refine (HP.out _ HB0.out).mono ?_
      rintro e w1 ⟨rfl, hb1⟩
      have HB1 := Lib.hid hb1
      have c6 := (hb1.cell (p := ⟨g, 6, none⟩) hg).trans H6.out
      clear a0 a1 a2
      go_wp2_with fail
      go_quiet (fail)
      go_wp2_with fail
      have HBQ := Lib.hid (drewN_below HB1.out nq)
      have hg1 : g < w1.heap.size := Nat.lt_of_lt_of_le hg HB1.out.size
      have hg21 : g2 < w1.heap.size := Nat.lt_of_lt_of_le hg2 HB1.out.size
      have C6 := Lib.hid c6
      have CU := Lib.hid ((HB1.out.cell (p := ⟨g2, o2 + k, none⟩) hg2).trans HX0.out)
      clear c6
      cases hcy : cutE (s2 :: p2) u with
      | none =>
       rw [hcy] at HIC
       have hR : R = none := by have := HCE2.out; rw [if_neg (by simp), hcy] at this; exact this
       subst hR
       refine wp_region_held_drew (S := fun w' => Below w1.heap.size w1 w') (by kernel_rfl) ((drewN_below (Below.refl _ _) nq).drew) (fun hH => ?_)
       refine rtk 0 (.pointer (some ⟨g, 0, none⟩)) ?_ ?_
       ·intro w' hSw; go_simp
       try simp only [ls1, ls0]
       refine rtk 1 (.pointer (some ⟨g, 0, none⟩)) ?_ ?_
       ·intro w' hSw; go_simp
       try simp only [ls1, ls0]
       refine rtk 2 (.pointer (some ⟨g, 6, none⟩)) ?_ ?_
       ·intro w' hSw; go_simp
       try simp only [ls1, ls0]
       refine rtk 3 (.slice (some ⟨g2, o2, none⟩) N c) ?_ ?_
       ·intro w' hSw; have c6' := (hSw.cell (p := ⟨g, 6, none⟩) hg1).trans C6.out; go_simp
       try simp only [ls1, ls0]
       refine rtk 4 (.int .i64 (k : Int)) ?_ ?_
       ·intro w' hSw; go_simp
       try simp only [ls1, ls0]
       refine rtk 5 (.pointer (some ⟨g2, o2 + k, none⟩)) ?_ ?_
       ·intro w' hSw; go_simp
       try simp only [ls1, ls0]
       refine rtk 6 (.pointer (some ⟨gu, 0, none⟩)) ?_ ?_
       ·intro w' hSw; have cu' := (hSw.cell (p := ⟨g2, o2 + k, none⟩) hg21).trans CU.out; go_simp
       try simp only [ls1, ls0]
       refine rtk 7 (.slice (some ⟨gp, op, none⟩) (p2.length + 1 + 1) cp) ?_ ?_
       ·intro w' hSw; go_simp
       try simp only [ls1, ls0]
       refine rtk 8 (.slice (some ⟨gp, op + 3, none⟩) (p2.length + 1) (cp - 1)) ?_ ?_
       ·intro w' hSw; go_simp
       try simp only [ls1, ls0]
       refine wpAnyH_ready (rs := [9]) (by kernel_rfl) (by simp) ?_
       refine AllReadyH.cons rfl (fun K9 hK9 => ?_) AllReadyH.nil
       go_simp
       go_at_call 66
       refine (HIC.out _ (HB1.out.trans (hH.mono HB1.out.size))).mono ?_
       rintro e w2 ⟨rfl, hb2⟩
       have hb2' := hH.trans (hb2.mono hH.size)
       go_wp2_with fail
       refine hK9.out _ _ hb2' (fun hH9 => ?_)
       clear hK9 K9
       try simp only [ls1, ls0]
       refine rtk 10 (.tuple #[.pointer none, .int .i64 5]) ?_ ?_
       ·intro w' hSw; go_simp
       try simp only [ls1, ls0]
       refine rtk 11 (.pointer none) ?_ ?_
       ·intro w' hSw; go_simp
       try simp only [ls1, ls0]
       refine rtk 12 (.int .i64 5) ?_ ?_
       ·intro w' hSw; go_simp
       try simp only [ls1, ls0]
       refine rtk 13 (.pointer none) ?_ ?_
       ·intro w' hSw; go_simp
       try simp only [ls1, ls0]
       refine rtk 14 (.int .i64 5) ?_ ?_
       ·intro w' hSw; go_simp
       try simp only [ls1, ls0]
       refine wpAnyH_done (by kernel_rfl) ?_ _
       have HB2 := Lib.hid (HB1.out.trans (hH9.mono HB1.out.size))
       go_wp2_with fail
       go_ret2
       exact ⟨rfl, HB2.out⟩
      | some y =>
       rw [hcy] at HIC
       have hR : R = some (withK t (t.ks.set k y)) := by have := HCE2.out; rw [if_neg (by simp), hcy] at this; exact this
       subst hR
       refine wp_region_held_drew (S := fun w' => Below w1.heap.size w1 w') (by kernel_rfl) ((drewN_below (Below.refl _ _) nq).drew) (fun hH => ?_)
       refine rtk 0 (.pointer (some ⟨g, 0, none⟩)) ?_ ?_
       ·intro w' hSw; go_simp
       try simp only [ls1, ls0]
       refine rtk 1 (.pointer (some ⟨g, 0, none⟩)) ?_ ?_
       ·intro w' hSw; go_simp
       try simp only [ls1, ls0]
       refine rtk 2 (.pointer (some ⟨g, 6, none⟩)) ?_ ?_
       ·intro w' hSw; go_simp
       try simp only [ls1, ls0]
       refine rtk 3 (.slice (some ⟨g2, o2, none⟩) N c) ?_ ?_
       ·intro w' hSw; have c6' := (hSw.cell (p := ⟨g, 6, none⟩) hg1).trans C6.out; go_simp
       try simp only [ls1, ls0]
       refine rtk 4 (.int .i64 (k : Int)) ?_ ?_
       ·intro w' hSw; go_simp
       try simp only [ls1, ls0]
       refine rtk 5 (.pointer (some ⟨g2, o2 + k, none⟩)) ?_ ?_
       ·intro w' hSw; go_simp
       try simp only [ls1, ls0]
       refine rtk 6 (.pointer (some ⟨gu, 0, none⟩)) ?_ ?_
       ·intro w' hSw; have cu' := (hSw.cell (p := ⟨g2, o2 + k, none⟩) hg21).trans CU.out; go_simp
       try simp only [ls1, ls0]
       refine rtk 7 (.slice (some ⟨gp, op, none⟩) (p2.length + 1 + 1) cp) ?_ ?_
       ·intro w' hSw; go_simp
       try simp only [ls1, ls0]
       refine rtk 8 (.slice (some ⟨gp, op + 3, none⟩) (p2.length + 1) (cp - 1)) ?_ ?_
       ·intro w' hSw; go_simp
       try simp only [ls1, ls0]
       refine wpAnyH_ready (rs := [9]) (by kernel_rfl) (by simp) ?_
       refine AllReadyH.cons rfl (fun K9 hK9 => ?_) AllReadyH.nil
       go_simp
       go_at_call 66
       refine (HIC.out _ (HB1.out.trans (hH.mono HB1.out.size))).mono ?_
       rintro e w2 ⟨gy, rfl, hty, hb2⟩
       have HTY : Hid (TrS (Or S w.heap.size) w2 y (.pointer (some ⟨gy, 0, none⟩))) := Lib.hid (hty.mono (fun _ _ => Or.mono (HB1.out.trans (hH.mono HB1.out.size)).size))
       clear hty
       have hb2' := hH.trans (hb2.mono hH.size)
       go_wp2_with fail
       refine hK9.out _ _ hb2' (fun hH9 => ?_)
       clear hK9 K9
       try simp only [ls1, ls0]
       refine rtk 10 (.tuple #[.pointer (some ⟨gy, 0, none⟩), .int .i64 0]) ?_ ?_
       ·intro w' hSw; go_simp
       try simp only [ls1, ls0]
       refine rtk 11 (.pointer (some ⟨gy, 0, none⟩)) ?_ ?_
       ·intro w' hSw; go_simp
       try simp only [ls1, ls0]
       refine rtk 12 (.int .i64 0) ?_ ?_
       ·intro w' hSw; go_simp
       try simp only [ls1, ls0]
       refine rtk 13 (.pointer (some ⟨gy, 0, none⟩)) ?_ ?_
       ·intro w' hSw; go_simp
       try simp only [ls1, ls0]
       refine rtk 14 (.int .i64 0) ?_ ?_
       ·intro w' hSw; go_simp
       try simp only [ls1, ls0]
       refine wpAnyH_done (by kernel_rfl) ?_ _
       have HB2 := Lib.hid (HB1.out.trans (hH9.mono HB1.out.size))
       have hk9 : k < t.ks.length := by rw [HNN.out]; exact hkl
       have ha1 := HB2.out.alloc HB2.out.size (.cells #[.pointer (some ⟨gy, 0, none⟩)] 61)
       have hl1 : Row ptc 1 (w2.alloc (.cells #[.pointer (some ⟨gy, 0, none⟩)] 61)) (.slice (some ⟨w2.heap.size, 0, none⟩) 1 1) [some ⟨gy, 0, none⟩] := Row.lit ptc_len w2 61 #[.pointer (some ⟨gy, 0, none⟩)] [some ⟨gy, 0, none⟩] (by show 1 ≤ maxLen; decide) rfl
       have HRZ := Lib.hid (rowz_three (w2.alloc (.cells #[.pointer (some ⟨gy, 0, none⟩)] 61)) (w2.heap.size + 1) (by simp) 122 (.slice (some ⟨g2, o2, none⟩) k c) (.slice (some ⟨w2.heap.size, 0, none⟩) 1 1) (.slice (some ⟨g2, o2, none⟩) 0 0) (ps.take k) [some ⟨gy, 0, none⟩] (ps.drop (k + 1)) (HRA.out _ ha1) hl1 (by rw [HNIL.out hkc]; exact Row.empty _ _ 0 (Nat.zero_le _)))
       have HBA := Lib.hid (ha1.alloc ha1.size (.cells #[.slice (some ⟨g2, o2, none⟩) k c, .slice (some ⟨w2.heap.size, 0, none⟩) 1 1, .slice (some ⟨g2, o2, none⟩) 0 0] 122))
       clear ha1 hl1
       go_wp2_with fail
       refine (tconcat_any _ _ _ HRZ.out (by simp) (by have := HLN6.out; simp; omega)).mono ?_
       rintro e w3 ⟨v3, rfl, ho3, hb3⟩
       have HB3 := Lib.hid (HBA.out.trans (hb3.mono HBA.out.size))
       have hs23 : Below w2.heap.size w2 w3 := (((Below.refl _ _).alloc (Nat.le_refl _) _).alloc (by simp) _).trans (hb3.mono (by simp; omega))
       have HO3 : Hid (Own ptc 1 61 w.heap.size w3 v3 (ps.take k ++ ([some (⟨gy, 0, none⟩ : Addr)] ++ ps.drop (k + 1)))) := Lib.hid (by have := ho3.mono HBA.out.size; simpa using this)
       have HTY3 := Lib.hid (HTY.out.below hs23)
       clear ho3 hb3 hs23
       have HRS3 := Lib.hid (own_rowS (S := Or S w.heap.size) HO3.out (fun g' hg' => .inr (World.ownsRow.lt HO3.out g' hg').1))
       have HTS3 : Hid (TrsS (Or S w.heap.size) w3 (t.ks.set k y) ((ps.take k ++ ([some (⟨gy, 0, none⟩ : Addr)] ++ ps.drop (k + 1))).map Value.pointer)) := Lib.hid (by rw [set_split y hk9, List.map_append, List.map_append]; exact TrsS_append ((HTAK.out _ HB3.out).mono (fun _ _ => Or.l)) (TrsS_append (TrsS_cons.2 ⟨HTY3.out, TrsS_nil⟩) ((HDRO.out _ HB3.out).mono (fun _ _ => Or.l))))
       obtain ⟨A9, n9, d9, rfl⟩ : ∃ A n d, v3 = .slice A n d := by obtain ⟨A, d, h, -⟩ := HO3.out.form; exact ⟨A, _, d, h⟩
       go_wp2_with fail
       refine (HWT.out (Or S w.heap.size) w3 _ _ _ HB3.out (fun _ => Or.l) HRS3.out HTS3.out).mono ?_
       rintro e w4 ⟨g4, rfl, ht4, hb4⟩
       have HT4 := Lib.hid ht4
       clear ht4
       go_wp2_with fail
       go_ret2
       exact ⟨g4, rfl, HT4.out.mono (fun b _ h => h.elim id (fun h => .inr (Nat.le_trans HB3.out.size h))), HB3.out.trans (hb4.mono HB3.out.size)⟩
     ·simp only [List.length_cons] at *
      go_enter Tryz.func66, Tryz.ntmps66
      go_wp2_with fail
      refine (HP.out _ HB0.out).mono ?_
      rintro e w1 ⟨rfl, hb1⟩
      have HB1 := Lib.hid hb1
      have c6 := (hb1.cell (p := ⟨g, 6, none⟩) hg).trans H6.out
      clear a0 a1 a2
      go_wp2_with fail
      go_quiet (fail)
      go_wp2_with fail
      have HBQ := Lib.hid (drewN_below HB1.out nq)
      have hg1 : g < w1.heap.size := Nat.lt_of_lt_of_le hg HB1.out.size
      have hg21 : g2 < w1.heap.size := Nat.lt_of_lt_of_le hg2 HB1.out.size
      have C6 := Lib.hid c6
      have CU := Lib.hid ((HB1.out.cell (p := ⟨g2, o2 + k, none⟩) hg2).trans HX0.out)
      clear c6
      cases hcy : cutE (s2 :: p2) u with
      | none =>
       rw [hcy] at HIC
       have hR : R = none := by have := HCE2.out; rw [if_neg (by simp), hcy] at this; exact this
       subst hR
       refine wp_region_held_drew (S := fun w' => Below w1.heap.size w1 w') (by kernel_rfl) ((drewN_below (Below.refl _ _) nq).drew) (fun hH => ?_)
       refine rtk 0 (.pointer (some ⟨g, 0, none⟩)) ?_ ?_
       ·intro w' hSw; go_simp
       try simp only [ls1, ls0]
       refine rtk 1 (.pointer (some ⟨g, 0, none⟩)) ?_ ?_
       ·intro w' hSw; go_simp
       try simp only [ls1, ls0]
       refine rtk 2 (.pointer (some ⟨g, 6, none⟩)) ?_ ?_
       ·intro w' hSw; go_simp
       try simp only [ls1, ls0]
       refine rtk 3 (.slice (some ⟨g2, o2, none⟩) N c) ?_ ?_
       ·intro w' hSw; have c6' := (hSw.cell (p := ⟨g, 6, none⟩) hg1).trans C6.out; go_simp
       try simp only [ls1, ls0]
       refine rtk 4 (.int .i64 (k : Int)) ?_ ?_
       ·intro w' hSw; go_simp
       try simp only [ls1, ls0]
       refine rtk 5 (.pointer (some ⟨g2, o2 + k, none⟩)) ?_ ?_
       ·intro w' hSw; go_simp
       try simp only [ls1, ls0]
       refine rtk 6 (.pointer (some ⟨gu, 0, none⟩)) ?_ ?_
       ·intro w' hSw; have cu' := (hSw.cell (p := ⟨g2, o2 + k, none⟩) hg21).trans CU.out; go_simp
       try simp only [ls1, ls0]
       refine rtk 7 (.slice (some ⟨gp, op, none⟩) (p2.length + 1 + 1) cp) ?_ ?_
       ·intro w' hSw; go_simp
       try simp only [ls1, ls0]
       refine rtk 8 (.slice (some ⟨gp, op + 3, none⟩) (p2.length + 1) (cp - 1)) ?_ ?_
       ·intro w' hSw; go_simp
       try simp only [ls1, ls0]
       refine wpAnyH_ready (rs := [9]) (by kernel_rfl) (by simp) ?_
       refine AllReadyH.cons rfl (fun K9 hK9 => ?_) AllReadyH.nil
       go_simp
       go_at_call 66
       refine (HIC.out _ (HB1.out.trans (hH.mono HB1.out.size))).mono ?_
       rintro e w2 ⟨rfl, hb2⟩
       have hb2' := hH.trans (hb2.mono hH.size)
       go_wp2_with fail
       refine hK9.out _ _ hb2' (fun hH9 => ?_)
       clear hK9 K9
       try simp only [ls1, ls0]
       refine rtk 10 (.tuple #[.pointer none, .int .i64 5]) ?_ ?_
       ·intro w' hSw; go_simp
       try simp only [ls1, ls0]
       refine rtk 11 (.pointer none) ?_ ?_
       ·intro w' hSw; go_simp
       try simp only [ls1, ls0]
       refine rtk 12 (.int .i64 5) ?_ ?_
       ·intro w' hSw; go_simp
       try simp only [ls1, ls0]
       refine rtk 13 (.pointer none) ?_ ?_
       ·intro w' hSw; go_simp
       try simp only [ls1, ls0]
       refine rtk 14 (.int .i64 5) ?_ ?_
       ·intro w' hSw; go_simp
       try simp only [ls1, ls0]
       refine wpAnyH_done (by kernel_rfl) ?_ _
       have HB2 := Lib.hid (HB1.out.trans (hH9.mono HB1.out.size))
       go_wp2_with fail
       go_ret2
       exact ⟨rfl, HB2.out⟩
      | some y =>
       rw [hcy] at HIC
       have hR : R = some (withK t (t.ks.set k y)) := by have := HCE2.out; rw [if_neg (by simp), hcy] at this; exact this
       subst hR
       refine wp_region_held_drew (S := fun w' => Below w1.heap.size w1 w') (by kernel_rfl) ((drewN_below (Below.refl _ _) nq).drew) (fun hH => ?_)
       refine rtk 0 (.pointer (some ⟨g, 0, none⟩)) ?_ ?_
       ·intro w' hSw; go_simp
       try simp only [ls1, ls0]
       refine rtk 1 (.pointer (some ⟨g, 0, none⟩)) ?_ ?_
       ·intro w' hSw; go_simp
       try simp only [ls1, ls0]
       refine rtk 2 (.pointer (some ⟨g, 6, none⟩)) ?_ ?_
       ·intro w' hSw; go_simp
       try simp only [ls1, ls0]
       refine rtk 3 (.slice (some ⟨g2, o2, none⟩) N c) ?_ ?_
       ·intro w' hSw; have c6' := (hSw.cell (p := ⟨g, 6, none⟩) hg1).trans C6.out; go_simp
       try simp only [ls1, ls0]
       refine rtk 4 (.int .i64 (k : Int)) ?_ ?_
       ·intro w' hSw; go_simp
       try simp only [ls1, ls0]
       refine rtk 5 (.pointer (some ⟨g2, o2 + k, none⟩)) ?_ ?_
       ·intro w' hSw; go_simp
       try simp only [ls1, ls0]
       refine rtk 6 (.pointer (some ⟨gu, 0, none⟩)) ?_ ?_
       ·intro w' hSw; have cu' := (hSw.cell (p := ⟨g2, o2 + k, none⟩) hg21).trans CU.out; go_simp
       try simp only [ls1, ls0]
       refine rtk 7 (.slice (some ⟨gp, op, none⟩) (p2.length + 1 + 1) cp) ?_ ?_
       ·intro w' hSw; go_simp
       try simp only [ls1, ls0]
       refine rtk 8 (.slice (some ⟨gp, op + 3, none⟩) (p2.length + 1) (cp - 1)) ?_ ?_
       ·intro w' hSw; go_simp
       try simp only [ls1, ls0]
       refine wpAnyH_ready (rs := [9]) (by kernel_rfl) (by simp) ?_
       refine AllReadyH.cons rfl (fun K9 hK9 => ?_) AllReadyH.nil
       go_simp
       go_at_call 66
       refine (HIC.out _ (HB1.out.trans (hH.mono HB1.out.size))).mono ?_
       rintro e w2 ⟨gy, rfl, hty, hb2⟩
       have HTY : Hid (TrS (Or S w.heap.size) w2 y (.pointer (some ⟨gy, 0, none⟩))) := Lib.hid (hty.mono (fun _ _ => Or.mono (HB1.out.trans (hH.mono HB1.out.size)).size))
       clear hty
       have hb2' := hH.trans (hb2.mono hH.size)
       go_wp2_with fail
       refine hK9.out _ _ hb2' (fun hH9 => ?_)
       clear hK9 K9
       try simp only [ls1, ls0]
       refine rtk 10 (.tuple #[.pointer (some ⟨gy, 0, none⟩), .int .i64 0]) ?_ ?_
       ·intro w' hSw; go_simp
       try simp only [ls1, ls0]
       refine rtk 11 (.pointer (some ⟨gy, 0, none⟩)) ?_ ?_
       ·intro w' hSw; go_simp
       try simp only [ls1, ls0]
       refine rtk 12 (.int .i64 0) ?_ ?_
       ·intro w' hSw; go_simp
       try simp only [ls1, ls0]
       refine rtk 13 (.pointer (some ⟨gy, 0, none⟩)) ?_ ?_
       ·intro w' hSw; go_simp
       try simp only [ls1, ls0]
       refine rtk 14 (.int .i64 0) ?_ ?_
       ·intro w' hSw; go_simp
       try simp only [ls1, ls0]
       refine wpAnyH_done (by kernel_rfl) ?_ _
       have HB2 := Lib.hid (HB1.out.trans (hH9.mono HB1.out.size))
       have hk9 : k < t.ks.length := by rw [HNN.out]; exact hkl
       have ha1 := HB2.out.alloc HB2.out.size (.cells #[.pointer (some ⟨gy, 0, none⟩)] 61)
       have hl1 : Row ptc 1 (w2.alloc (.cells #[.pointer (some ⟨gy, 0, none⟩)] 61)) (.slice (some ⟨w2.heap.size, 0, none⟩) 1 1) [some ⟨gy, 0, none⟩] := Row.lit ptc_len w2 61 #[.pointer (some ⟨gy, 0, none⟩)] [some ⟨gy, 0, none⟩] (by show 1 ≤ maxLen; decide) rfl
       have HRZ := Lib.hid (rowz_three (w2.alloc (.cells #[.pointer (some ⟨gy, 0, none⟩)] 61)) (w2.heap.size + 1) (by simp) 122 (.slice (some ⟨g2, o2, none⟩) k c) (.slice (some ⟨w2.heap.size, 0, none⟩) 1 1) (.slice (some ⟨g2, o2 + (k + 1), none⟩) (N - (k + 1)) (c - (k + 1))) (ps.take k) [some ⟨gy, 0, none⟩] (ps.drop (k + 1)) (HRA.out _ ha1) hl1 (HRBE.out _ ha1))
       have HBA := Lib.hid (ha1.alloc ha1.size (.cells #[.slice (some ⟨g2, o2, none⟩) k c, .slice (some ⟨w2.heap.size, 0, none⟩) 1 1, .slice (some ⟨g2, o2 + (k + 1), none⟩) (N - (k + 1)) (c - (k + 1))] 122))
       clear ha1 hl1
       go_wp2_with fail
       refine (tconcat_any _ _ _ HRZ.out (by simp) (by have := HLN6.out; simp; omega)).mono ?_
       rintro e w3 ⟨v3, rfl, ho3, hb3⟩
       have HB3 := Lib.hid (HBA.out.trans (hb3.mono HBA.out.size))
       have hs23 : Below w2.heap.size w2 w3 := (((Below.refl _ _).alloc (Nat.le_refl _) _).alloc (by simp) _).trans (hb3.mono (by simp; omega))
       have HO3 : Hid (Own ptc 1 61 w.heap.size w3 v3 (ps.take k ++ ([some (⟨gy, 0, none⟩ : Addr)] ++ ps.drop (k + 1)))) := Lib.hid (by have := ho3.mono HBA.out.size; simpa using this)
       have HTY3 := Lib.hid (HTY.out.below hs23)
       clear ho3 hb3 hs23
       have HRS3 := Lib.hid (own_rowS (S := Or S w.heap.size) HO3.out (fun g' hg' => .inr (World.ownsRow.lt HO3.out g' hg').1))
       have HTS3 : Hid (TrsS (Or S w.heap.size) w3 (t.ks.set k y) ((ps.take k ++ ([some (⟨gy, 0, none⟩ : Addr)] ++ ps.drop (k + 1))).map Value.pointer)) := Lib.hid (by rw [set_split y hk9, List.map_append, List.map_append]; exact TrsS_append ((HTAK.out _ HB3.out).mono (fun _ _ => Or.l)) (TrsS_append (TrsS_cons.2 ⟨HTY3.out, TrsS_nil⟩) ((HDRO.out _ HB3.out).mono (fun _ _ => Or.l))))
       obtain ⟨A9, n9, d9, rfl⟩ : ∃ A n d, v3 = .slice A n d := by obtain ⟨A, d, h, -⟩ := HO3.out.form; exact ⟨A, _, d, h⟩
       go_wp2_with fail
       refine (HWT.out (Or S w.heap.size) w3 _ _ _ HB3.out (fun _ => Or.l) HRS3.out HTS3.out).mono ?_
       rintro e w4 ⟨g4, rfl, ht4, hb4⟩
       have HT4 := Lib.hid ht4
       clear ht4
       go_wp2_with fail
       go_ret2
       exact ⟨g4, rfl, HT4.out.mono (fun b _ h => h.elim id (fun h => .inr (Nat.le_trans HB3.out.size h))), HB3.out.trans (hb4.mono HB3.out.size)⟩
end
section
open Go.RowKit Go.Shelf Np Rw Vp Pw Ev
theorem withoutC_any (S : Nat → Prop) (p : List St) (t : Tr Nd) (v sl : Value) (b : Nat) (w : World) (hb : w.cell? ⟨b, 0, none⟩ = some sl) (hp : Sps w sl p) (hps : ∀ s ∈ p, rightS s = true) (h : TrS S w t v) (ht : Val t) (hl : (flat t).length ≤ 1000000000000) :
  Calls Tryz.prog 64 #[v, .pointer (some ⟨b, 0, none⟩)] w (OutR S w (ofO (cutE p t))) := by
 have HC := Lib.hid (fun hne => evCut_any p S t v sl w hne h (rgt_of ht) hp hps hl)
 obtain ⟨g0, _, _, _, _, rfl, -⟩ := h.opened
 obtain ⟨A, c, rfl, hc, hcm, -⟩ := hp
 cases p with
 | nil =>
  simp only [List.length_nil] at *
  clear HC
  go_enter Tryz.func64, Tryz.ntmps64
  go_wp2_with fail
  refine (evNull_any S w).mono ?_
  rintro e w1 ⟨g1, rfl, ht1, hb1⟩
  have HT1 := Lib.hid ht1
  clear ht1
  go_wp2_with fail
  go_ret2
  exact ⟨g1, rfl, HT1.out, hb1⟩
 | cons s p =>
  have HC2 := Lib.hid (HC.out (by simp))
  have hz : ¬ ((p.length : Int) + 1 = 0) := by omega
  cases hcu : cutE (s :: p) t with
  | none =>
   rw [hcu] at HC2
   simp only [List.length_cons] at *
   clear HC hcu
   go_enter Tryz.func64, Tryz.ntmps64
   go_wp2_with fail
   refine HC2.out.mono ?_
   rintro e w1 ⟨rfl, hb1⟩
   go_wp2_with fail
   go_ret2
   exact ⟨rfl, hb1⟩
  | some y =>
   rw [hcu] at HC2
   simp only [List.length_cons] at *
   clear HC hcu
   go_enter Tryz.func64, Tryz.ntmps64
   go_wp2_with fail
   refine HC2.out.mono ?_
   rintro e w1 ⟨gy, rfl, hty, hb1⟩
   have HTY := Lib.hid hty
   clear hty
   go_wp2_with fail
   go_ret2
   exact ⟨gy, rfl, HTY.out, hb1⟩
theorem evWithout_any (sl : Value) (p : List St) (w : World) (hp : Sps w sl p) (hps : ∀ s ∈ p, rightS s = true) :
  Calls Tryz.prog 34 #[sl] w (GivesE 1000000000000 w fun t => ofO (cutE p t)) := by
 have eK : ∀ args w, (callFunc 64 args).run Tryz.prog w = .ok (.enter 64 args) w := enters_of Tryz.func64 (by kernel_rfl) rfl
 have hmf : ∀ (fn : Fn) (first cap : Array Value) (w : World), (Instr.makeFunc fn first cap).run Tryz.prog w = .ok (.func fn first cap) w := fun _ _ _ _ => rfl
 have hb := (Below.refl w.heap.size w).alloc (Nat.le_refl _) (.cells #[sl] 25)
 have HB := Lib.hid hb
 have HG : Hid (Gives 1000000000000 (w.alloc (.cells #[sl] 25)) (.func (.func 64) #[] #[.pointer (some ⟨w.heap.size, 0, none⟩)]) fun t => ofO (cutE p t)) := Lib.hid (by
  refine ⟨_, _, rfl, eK, fun W S t v hW h ht hl => ?_⟩
  have hc : (w.alloc (.cells #[sl] 25)).cell? ⟨w.heap.size, 0, none⟩ = some sl := by simp [World.cell?_alloc_new]
  exact withoutC_any S p t v sl w.heap.size W ((hW.cell (World.block_lt_of_cell? _ _ hc)).trans hc) ((hp.below hb).below hW) hps h ht hl)
 obtain ⟨A, c, rfl, -⟩ := hp
 clear hb hps eK
 go_enter Tryz.func34, Tryz.ntmps34
 go_wp2_with fail
 go_ret
 exact ⟨_, _, rfl, HG.out, HB.out⟩
end
section
open Go.RowKit Go.Shelf Np Rw Vp Pw Ev
def OutV (w : World) (r : Rz) (e : Ending) (w' : World) : Prop := match r with
 | .ok t => ∃ v', e = .returned (.tuple #[v', .int .i64 0]) ∧ Nds w' v' (flat t) ∧ Below w.heap.size w w'
 | .bad k => e = .returned (.tuple #[.slice none 0 0, .int .i64 k]) ∧ Below w.heap.size w w'
theorem evGiven_any (B : Nat) (t : Tr Nd) (v fv : Value) (F : Tr Nd → Rz) (w : World) (hF : Gives B w fv F) (hv : Nds w v (flat t)) (ht : Val t) (hl : (flat t).length ≤ B) (hl2 : (flat t).length ≤ 1000000000000)
  (hok : ∀ u, F t = .ok u → okT many u ∧ (flat u).length ≤ 1000000000000) (hbad : ∀ k, F t = .bad k → k ≠ 0) :
  Calls Tryz.prog 30 #[fv, v] w (OutV w (F t)) := by
 obtain ⟨K, cap, rfl, eK, hC⟩ := hF
 have HG := Lib.hid (evGrow_any t v w ht.ok hv hl2)
 have HC := Lib.hid (fun (W : World) (x : Value) (hW : Below w.heap.size w W) (h : TrS (fun b => w.heap.size ≤ b) W t x) => hC W _ t x hW h ht hl)
 have HOK := Lib.hid hok
 have HBAD := Lib.hid hbad
 obtain ⟨A, c, rfl, -⟩ := hv
 clear hC hok hbad ht
 generalize F t = R at *
 go_enter Tryz.func30, Tryz.ntmps30
 go_wp2_with fail
 refine HG.out.mono ?_
 rintro e w1 ⟨g, rfl, htr, hb1⟩
 have HC1 := Lib.hid (HC.out w1 _ hb1 htr)
 have HB1 := Lib.hid hb1
 clear htr hb1 HC HG
 cases R with
 | bad k =>
  have hk := HBAD.out k rfl
  have hk2 : (k == 0) = false := by simpa using hk
  clear hk HBAD HOK
  go_wp2_with fail
  refine HC1.out.mono ?_
  rintro e w2 ⟨rfl, hb2⟩
  go_wp2_with fail
  go_ret2
  exact ⟨rfl, Below.after HB1.out hb2⟩
 | ok u =>
  obtain ⟨hu1, hu2⟩ := HOK.out u rfl
  clear HOK HBAD
  go_wp2_with fail
  refine HC1.out.mono ?_
  rintro e w2 ⟨gu, rfl, htu, hb2⟩
  have HB2 := Lib.hid (Below.after HB1.out hb2)
  have HTU : Hid (TrS (fun b => b < w2.heap.size) w2 u (.pointer (some ⟨gu, 0, none⟩))) := Lib.hid (htu.mono (fun b hb _ => hb))
  have HR := Lib.hid (evRow_any u gu w2 hu1 hu2 HTU.out)
  clear htu hb2 HC1 hu1 hu2
  go_wp2_with fail
  refine HR.out.mono ?_
  rintro e w3 ⟨v3, rfl, ho3, hb3⟩
  have HO3 := Lib.hid (ho3.row ndc_len)
  obtain ⟨A3, c3, rfl, -, -, -⟩ := ho3.form
  clear ho3
  go_wp2_with fail
  go_ret2
  exact ⟨_, rfl, HO3.out, Below.after HB2.out hb3⟩
theorem flats_erase_le : ∀ (ts : List (Tr Nd)) (k : Nat), (flats (ts.eraseIdx k)).length ≤ (flats ts).length
 | [], k => by simp
 | a :: ts, 0 => by simp [flats_cons]
 | a :: ts, k + 1 => by
  have := flats_erase_le ts k
  simp [flats_cons]; omega
theorem flats_set_le : ∀ (ts : List (Tr Nd)) (k : Nat) (u y : Tr Nd), ts[k]? = some u → (flat y).length ≤ (flat u).length → (flats (ts.set k y)).length ≤ (flats ts).length
 | [], k, u, y, h, _ => by simp at h
 | a :: ts, 0, u, y, h, hl => by
  simp at h
  subst h
  simp [flats_cons]; omega
 | a :: ts, k + 1, u, y, h, hl => by
  have := flats_set_le ts k u y (by simpa using h) hl
  simp [flats_cons]; omega
theorem withK_len (t : Tr Nd) (ks : List (Tr Nd)) : (flat (withK t ks)).length = 1 + (flats ks).length := by
 unfold withK
 rw [flat_mk]; simp; omega
theorem flat_len1 (t : Tr Nd) : (flat t).length = 1 + (flats t.ks).length := by rw [flat_eq]; simp; omega
theorem nullT_len : (flat nullT).length = 1 := by unfold nullT; rw [flat_mk]; simp
theorem mem_len : ∀ {ts : List (Tr Nd)} {k : Tr Nd}, k ∈ ts → (flat k).length ≤ (flats ts).length
 | a :: ts, k, h => by
  rw [flats_cons, List.length_append]
  rcases List.mem_cons.1 h with e | h
  ·subst e; omega
  ·have := mem_len h; omega
theorem step_len {s : St} {t u : Tr Nd} (h : stepE s t = some u) : (flat u).length ≤ (flat t).length := by
 unfold stepE at h
 split at h
 ·injection h with h
  have hp := flat_pos t
  cases hk : kid s t with
  | none => rw [hk] at h; subst h; rw [nullT_len]; omega
  | some k =>
   rw [hk] at h
   obtain ⟨y, h1, h2, h3, -⟩ := kid_at hk
   simp only at h
   rw [h2] at h
   subst h
   have := mem_len h3
   rw [flat_len1 t, flat_nmd_len]
   omega
 ·cases h
theorem along_len : ∀ (p : List St) {t u : Tr Nd}, alongE p t = some u → (flat u).length ≤ (flat t).length
 | [], t, u, h => by rw [alongE] at h; injection h with h; subst h; exact Nat.le_refl _
 | s :: p, t, u, h => by
  rw [alongE] at h
  cases hs : stepE s t with
  | none => rw [hs] at h; cases h
  | some y =>
   rw [hs] at h
   exact Nat.le_trans (along_len p h) (step_len hs)
theorem cut_len : ∀ (p : List St) {t u : Tr Nd}, cutE p t = some u → (flat u).length ≤ (flat t).length
 | [], t, u, h => by
  rw [cutE] at h; injection h with h; subst h
  have := flat_pos t
  rw [nullT_len]; omega
 | s :: p, t, u, h => by
  rw [cutE_cons] at h
  split at h
  ·cases hk : kid s t with
   | none => rw [hk] at h; injection h with h; subst h; exact Nat.le_refl _
   | some k =>
    rw [hk] at h
    simp only at h
    obtain ⟨y, h1, h2, h3, -⟩ := kid_at hk
    split at h
    ·injection h with h
     subst h
     rw [withK_len, flat_len1 t]
     have := flats_erase_le t.ks k
     omega
    ·rw [h2] at h
     cases hc : cutE p y with
     | none => rw [hc] at h; cases h
     | some z =>
      rw [hc] at h
      injection h with h
      subst h
      rw [withK_len, flat_len1 t]
      have := flats_set_le t.ks k y z h1 (cut_len p hc)
      omega
  ·cases h
theorem evFollow_any (pv v : Value) (p : List St) (t : Tr Nd) (w : World) (hp : Sps w pv p) (hps : ∀ s ∈ p, rightS s = true) (hv : Nds w v (flat t)) (ht : Val t) (hl : (flat t).length ≤ 1000000000000) :
  Calls Tryz.prog 11 #[pv, v] w (OutV w (ofO (alongE p t))) := by
 have HA := Lib.hid (evAlong_any 1000000000000 pv p w hp hps)
 have HG : Hid (∀ (W : World) (fv : Value), Below w.heap.size w W → Gives 1000000000000 W fv (fun t => ofO (alongE p t)) → Calls Tryz.prog 30 #[fv, v] W (OutV W (ofO (alongE p t)))) := Lib.hid (fun W fv hW hF => evGiven_any 1000000000000 t v fv _ W hF (hv.below hW) ht hl (by omega) (fun u hu => by
  cases hc : alongE p t with
  | none => rw [hc] at hu; cases hu
  | some y =>
   rw [hc] at hu; injection hu with hu; subst hu
   exact ⟨(along_val p ht hc).ok, by have := along_len p hc; omega⟩) (fun k hk => by
  cases hc : alongE p t with
  | none => rw [hc] at hk; injection hk with hk; subst hk; decide
  | some y => rw [hc] at hk; cases hk))
 obtain ⟨A, c, rfl, -⟩ := hp
 obtain ⟨A2, c2, rfl, -⟩ := hv
 clear hps ht
 generalize hR : ofO (alongE p t) = R at *
 clear hR
 go_enter Tryz.func11, Tryz.ntmps11
 go_wp2_with fail
 refine HA.out.mono ?_
 rintro e w1 ⟨K, cap, rfl, hg1, hb1⟩
 have HC := Lib.hid (HG.out w1 _ hb1 hg1)
 have HB1 := Lib.hid hb1
 clear hg1 hb1 HG HA
 go_wp2_with fail
 refine HC.out.mono ?_
 intro e w2 h2
 cases R with
 | bad k =>
  obtain ⟨rfl, hb2⟩ := h2
  go_wp2_with fail
  go_ret2
  exact ⟨rfl, Below.after HB1.out hb2⟩
 | ok u =>
  obtain ⟨v', rfl, hv', hb2⟩ := h2
  have HV := Lib.hid hv'
  obtain ⟨A3, c3, rfl, -⟩ := hv'
  go_wp2_with fail
  go_ret2
  exact ⟨_, rfl, HV.out, Below.after HB1.out hb2⟩
theorem evDelete_any (pv v : Value) (p : List St) (t : Tr Nd) (w : World) (hp : Sps w pv p) (hps : ∀ s ∈ p, rightS s = true) (hv : Nds w v (flat t)) (ht : Val t) (hl : (flat t).length ≤ 1000000000000) :
  Calls Tryz.prog 13 #[pv, v] w (OutV w (ofO (cutE p t))) := by
 have HA := Lib.hid (evWithout_any pv p w hp hps)
 have HG : Hid (∀ (W : World) (fv : Value), Below w.heap.size w W → Gives 1000000000000 W fv (fun t => ofO (cutE p t)) → Calls Tryz.prog 30 #[fv, v] W (OutV W (ofO (cutE p t)))) := Lib.hid (fun W fv hW hF => evGiven_any 1000000000000 t v fv _ W hF (hv.below hW) ht hl (by omega) (fun u hu => by
  cases hc : cutE p t with
  | none => rw [hc] at hu; cases hu
  | some y =>
   rw [hc] at hu; injection hu with hu; subst hu
   exact ⟨(cut_val ht hc).ok, by have := cut_len p hc; omega⟩) (fun k hk => by
  cases hc : cutE p t with
  | none => rw [hc] at hk; injection hk with hk; subst hk; decide
  | some y => rw [hc] at hk; cases hk))
 obtain ⟨A, c, rfl, -⟩ := hp
 obtain ⟨A2, c2, rfl, -⟩ := hv
 clear hps ht
 generalize hR : ofO (cutE p t) = R at *
 clear hR
 go_enter Tryz.func13, Tryz.ntmps13
 go_wp2_with fail
 refine HA.out.mono ?_
 rintro e w1 ⟨K, cap, rfl, hg1, hb1⟩
 have HC := Lib.hid (HG.out w1 _ hb1 hg1)
 have HB1 := Lib.hid hb1
 clear hg1 hb1 HG HA
 go_wp2_with fail
 refine HC.out.mono ?_
 intro e w2 h2
 cases R with
 | bad k =>
  obtain ⟨rfl, hb2⟩ := h2
  go_wp2_with fail
  go_ret2
  exact ⟨rfl, Below.after HB1.out hb2⟩
 | ok u =>
  obtain ⟨v', rfl, hv', hb2⟩ := h2
  have HV := Lib.hid hv'
  obtain ⟨A3, c3, rfl, -⟩ := hv'
  go_wp2_with fail
  go_ret2
  exact ⟨_, rfl, HV.out, Below.after HB1.out hb2⟩
end
section
open Go.RowKit Go.Shelf Np Rw Vp Pw Fw Ev
structure Rdr (w : World) (rb : Nat) (t : Tm) : Prop where
 c : ∃ g o : Nat, g < w.heap.size ∧ w.cell? ⟨rb, 0, none⟩ = some (.slice (some ⟨g, o, none⟩) 1 1) ∧ Tm11 w g o t
 f : w.frozen? ⟨rb, 0, none⟩ = false
 l : rb < w.heap.size
theorem evTake_any (rb : Nat) (t : Tm) (w : World) (h : Rdr w rb t) :
  Calls Tryz.prog 48 #[.pointer (some ⟨rb, 0, none⟩)] w fun e w' => e = .returned (tma t) ∧ Below rb w w' := by
 obtain ⟨⟨g, o, hg, h0, ht⟩, hf, hl⟩ := h
 obtain ⟨y0, y1, y2, y3, y4, y5, y6, y7, y8, y9, y10⟩ := ht
 go_enter Tryz.func48, Tryz.ntmps48
 go_wp2_with fail
 refine bodyPost_ret (v := tma t) (by simp [results, Tryz.results48, go_sem]) rfl ?_
 exact ⟨rfl, (((Below.refl rb w).setCell (p := ⟨rb, 0, none⟩) (Nat.le_refl _) _).alloc (by simp; omega) _).alloc (by simp; omega) _⟩
theorem evFilter_field (rb : Nat) (t : Tm) (w : World) (h : Rdr w rb t) (h1 : t.op = 1) (hs : rightS ⟨false, t.s, 0⟩ = true) :
  Calls Tryz.prog 47 #[.pointer (some ⟨rb, 0, none⟩)] w fun e w' => ∃ K cap, e = .returned (.func (.func K) #[] cap) ∧ Gives 60000 w' (.func (.func K) #[] cap) (fun u => ofO (alongE [⟨false, t.s, 0⟩] u)) ∧ Below rb w w' := by
 have HTK := Lib.hid (evTake_any rb t w h)
 have hl := h.l
 have HAL : Hid (∀ (W : World) (B : Nat), B = W.heap.size → Calls Tryz.prog 31 #[.slice (some ⟨B, 0, none⟩) 1 1] (W.alloc (.cells #[.bool false, .string ⟨t.s.toArray⟩, .int .i64 0] 49)) fun e w' => ∃ K cap, e = .returned (.func (.func K) #[] cap) ∧ Gives 60000 w' (.func (.func K) #[] cap) (fun u => ofO (alongE [⟨false, t.s, 0⟩] u)) ∧ Below W.heap.size W w') := Lib.hid (fun W B hB => by
  subst hB
  have hp : Sps (W.alloc (.cells #[.bool false, .string ⟨t.s.toArray⟩, .int .i64 0] 49)) (.slice (some ⟨W.heap.size, 0, none⟩) 1 1) [⟨false, t.s, 0⟩] := Row.lit spc_len W 49 _ [⟨false, t.s, 0⟩] (by show 1 ≤ maxLen; decide) rfl
  refine (evAlong_any 60000 _ _ _ hp (fun s hs' => by simp at hs'; subst hs'; exact hs)).mono ?_
  rintro e w' ⟨K, cap, rfl, hg, hb⟩
  exact ⟨K, cap, rfl, hg, ((Below.refl _ W).alloc (Nat.le_refl _) _).trans (hb.mono (by simp))⟩)
 clear h hs
 obtain ⟨op, many, name, s, n, c⟩ := t
 simp only at *
 subst h1
 go_enter Tryz.func47, Tryz.ntmps47
 go_wp2_with fail
 refine HTK.out.mono ?_
 rintro e w1 ⟨rfl, hb1⟩
 have HB1 := Lib.hid hb1
 have hl1 : rb < w1.heap.size := Nat.lt_of_lt_of_le hl hb1.size
 clear hb1 HTK
 go_wp2_with fail
 refine (HAL.out _ _ (by simp)).mono ?_
 rintro e w2 ⟨K, cap, rfl, hg2, hb2⟩
 have HG := Lib.hid hg2
 have HB2 : Hid (Below rb w w2) := Lib.hid ((HB1.out.alloc (by omega) _).trans (hb2.mono (by simp; omega)))
 clear hg2 hb2
 go_wp2_with fail
 go_ret
 exact ⟨K, cap, rfl, HG.out, HB2.out⟩
theorem evEval_field (fv v : Value) (t : Tm) (u : Tr Nd) (w : World) (hf : ∃ g o : Nat, g < w.heap.size ∧ fv = .slice (some ⟨g, o, none⟩) 1 1 ∧ Tm11 w g o t) (h1 : t.op = 1) (hs : rightS ⟨false, t.s, 0⟩ = true) (hv : Nds w v (flat u)) (hu : Val u) (hl : (flat u).length ≤ 60000) :
  Calls Tryz.prog 23 #[fv, v] w (OutV w (ofO (alongE [⟨false, t.s, 0⟩] u))) := by
 obtain ⟨g, o, hg, rfl, ht⟩ := hf
 have HB0 : Hid (Below w.heap.size w (w.alloc (.cells #[.slice (some ⟨g, o, none⟩) 1 1] 57))) := Lib.hid ((Below.refl _ w).alloc (Nat.le_refl _) _)
 have HFI := Lib.hid (evFilter_field w.heap.size t (w.alloc (.cells #[.slice (some ⟨g, o, none⟩) 1 1] 57)) ⟨⟨g, o, by simp; omega, by simp [World.cell?_alloc_new], ht.below hg HB0.out⟩, by simp [World.frozen?_alloc_new], by simp⟩ h1 hs)
 have HG : Hid (∀ (W : World) (fv : Value), Below w.heap.size w W → Gives 60000 W fv (fun t' => ofO (alongE [⟨false, t.s, 0⟩] t')) → Calls Tryz.prog 30 #[fv, v] W (OutV W (ofO (alongE [⟨false, t.s, 0⟩] u)))) := Lib.hid (fun W fv hW hF => evGiven_any 60000 u v fv _ W hF (hv.below hW) hu hl (by omega) (fun y hy => by
  cases hc : alongE [⟨false, t.s, 0⟩] u with
  | none => rw [hc] at hy; cases hy
  | some z =>
   rw [hc] at hy; injection hy with hy; subst hy
   exact ⟨(along_val _ hu hc).ok, by have := along_len _ hc; omega⟩) (fun k hk => by
  cases hc : alongE [⟨false, t.s, 0⟩] u with
  | none => rw [hc] at hk; injection hk with hk; subst hk; decide
  | some z => rw [hc] at hk; cases hk))
 obtain ⟨A2, c2, rfl, -⟩ := hv
 clear hu ht hs
 generalize hR : ofO (alongE [⟨false, t.s, 0⟩] u) = R at *
 clear hR
 go_enter Tryz.func23, Tryz.ntmps23
 go_wp2_with fail
 refine HFI.out.mono ?_
 rintro e w1 ⟨K, cap, rfl, hg1, hb1⟩
 have hb1' : Below w.heap.size w w1 := HB0.out.trans hb1
 have HC := Lib.hid (HG.out w1 _ hb1' hg1)
 have HB1 := Lib.hid hb1'
 clear hg1 hb1 hb1' HG HFI
 go_wp2_with fail
 refine HC.out.mono ?_
 intro e w2 h2
 cases R with
 | bad k =>
  obtain ⟨rfl, hb2⟩ := h2
  go_wp2_with fail
  go_ret2
  exact ⟨rfl, Below.after HB1.out hb2⟩
 | ok y =>
  obtain ⟨v', rfl, hv', hb2⟩ := h2
  have HV := Lib.hid hv'
  obtain ⟨A3, c3, rfl, -⟩ := hv'
  go_wp2_with fail
  go_ret2
  exact ⟨_, rfl, HV.out, Below.after HB1.out hb2⟩
end
end Go.Proofs.YtldioobbfkaebaaGreatDoor
