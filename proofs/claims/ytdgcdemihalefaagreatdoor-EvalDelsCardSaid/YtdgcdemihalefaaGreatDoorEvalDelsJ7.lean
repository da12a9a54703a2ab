/-
  Joined: Ev7, Ev8, Ow6.
-/
import Derived.Test.YtdgcdemihalefaaGreatDoorEvalDelsJ3
import Derived.Test.YtdgcdemihalefaaGreatDoorEvalDelsJ1
import Derived.Test.YtdgcdemihalefaaGreatDoorEvalDelsJ5
import Derived.Test.YtdgcdemihalefaaGreatDoorEvalDelsJ9
import Derived.Test.YtdgcdemihalefaaGreatDoorEvalDelsJ8

/-
  What is left of a value without what stands at a path: cut.
-/
namespace Go.Proofs.YtdgcdemihalefaaGreatDoor
open Go.RowKit Go.Shelf Np Rw Vp Pw Ev

theorem rowz_two (W : World) (n : Nat) (hn : W.heap.size = n) (E : TypeId) (a b : Value) (l1 l2 : List (Option Addr)) (h1 : Row ptc 1 W a l1) (h2 : Row ptc 1 W b l2) : Rowz ptc 1 (W.alloc (.cells #[a, b] E)) (.slice (some ⟨n, 0, none⟩) 2 2) [l1, l2] := by
  subst hn
  have hb : Below W.heap.size W (W.alloc (.cells #[a, b] E)) := (Below.refl _ _).alloc (Nat.le_refl _) _
  refine ⟨[a, b], rfl, Row.lit vac_len W E _ [a, b] (by unfold maxLen; simp) rfl, fun k x l hx hk => ?_⟩
  match k, hx, hk with
  | 0, hx, hk => simp at hx hk; subst hx hk; exact h1.below hb
  | 1, hx, hk => simp at hx hk; subst hx hk; exact h2.below hb
  | k + 2, hx, hk => simp at hx
theorem rowz_three (W : World) (n : Nat) (hn : W.heap.size = n) (E : TypeId) (a b d : Value) (l1 l2 l3 : List (Option Addr)) (h1 : Row ptc 1 W a l1) (h2 : Row ptc 1 W b l2) (h3 : Row ptc 1 W d l3) : Rowz ptc 1 (W.alloc (.cells #[a, b, d] E)) (.slice (some ⟨n, 0, none⟩) 3 3) [l1, l2, l3] := by
  subst hn
  have hb : Below W.heap.size W (W.alloc (.cells #[a, b, d] E)) := (Below.refl _ _).alloc (Nat.le_refl _) _
  refine ⟨[a, b, d], rfl, Row.lit vac_len W E _ [a, b, d] (by unfold maxLen; simp) rfl, fun k x l hx hk => ?_⟩
  match k, hx, hk with
  | 0, hx, hk => simp at hx hk; subst hx hk; exact h1.below hb
  | 1, hx, hk => simp at hx hk; subst hx hk; exact h2.below hb
  | 2, hx, hk => simp at hx hk; subst hx hk; exact h3.below hb
  | k + 3, hx, hk => simp at hx
/-- The parts ahead of one, and those behind it. -/
theorem rowS_ahead {S : Nat → Prop} {w W : World} {g o N c k : Nat} {ps : List (Option Addr)} (h : RowS S w (.slice (some ⟨g, o, none⟩) N c) (ps.map Value.pointer)) (hW : Below w.heap.size w W) (hk : k ≤ ps.length) (hc : k ≤ c) : Row ptc 1 W (.slice (some ⟨g, o, none⟩) k c) (ps.take k) := by
  have h1 := (h.same hW.size (fun b _ hl => hW.block b hl)).pc 0 k c (by simp; exact hk) hc (Nat.le_refl _)
  rw [Nat.add_zero, List.drop_zero, ← List.map_take] at h1
  exact h1.ptrs
theorem rowS_behind {S : Nat → Prop} {w W : World} {g o N c k : Nat} {ps : List (Option Addr)} (h : RowS S w (.slice (some ⟨g, o, none⟩) N c) (ps.map Value.pointer)) (hW : Below w.heap.size w W) (hN : N = ps.length) (hk : k ≤ N) (hc : N ≤ c) : Row ptc 1 W (.slice (some ⟨g, o + k, none⟩) (N - k) (c - k)) (ps.drop k) := by
  have h1 := (h.same hW.size (fun b _ hl => hW.block b hl)).pc k (N - k) (c - k) (by simp; omega) (by omega) (by omega)
  rw [← List.map_drop, ← List.map_take, List.take_of_length_le (by simp; omega)] at h1
  exact h1.ptrs
theorem flat_kid_len {t u : Tr Nd} (h : u ∈ t.ks) : (flat u).length < (flat t).length := by
  have : ∀ ks : List (Tr Nd), u ∈ ks → (flat u).length ≤ (flats ks).length := by
    intro ks
    induction ks with
    | nil => intro h; simp at h
    | cons k ks ih =>
      intro h
      rw [flats_cons, List.length_append]
      rcases List.mem_cons.1 h with rfl | h
      · omega
      · have := ih h; omega
  have := this t.ks h
  rw [flat_eq t, List.length_cons]; omega
theorem erase_split {α : Type} (l : List α) (k : Nat) : l.eraseIdx k = l.take k ++ l.drop (k + 1) := List.eraseIdx_eq_take_drop_succ l k
theorem set_split {α : Type} {l : List α} {k : Nat} (y : α) (h : k < l.length) : l.set k y = l.take k ++ ([y] ++ l.drop (k + 1)) := by rw [List.set_eq_take_append_cons_drop, if_pos h]; simp

set_option maxRecDepth 100000 in
set_option maxHeartbeats 4000000 in
theorem evCut_any : ∀ (p : List St) (S : Nat → Prop) (t : Tr Nd) (v sl : Value) (w : World), p ≠ [] → TrS S w t v → Rgt t → Sps w sl p → (∀ s ∈ p, rightS s = true) → (flat t).length ≤ 60000 →
    Calls Tryz.prog 82 #[v, sl] w (OutR S w (ofO (cutE p t)))
  | [], _, _, _, _, _, hne, _, _, _, _, _ => absurd rfl hne
  | s :: p, S, t, v, sl, w, _, h, ht, hp, hps, hlen => by
    have HP := Lib.hid (fun W (hW : Below w.heap.size w W) => evPlace_any S t v s W (h.below hW) ht (hps s (by simp)))
    have HH := Lib.hid h
    have HPS := Lib.hid hp
    obtain ⟨g, m, A, c, vs, rfl, hS, hg, hn, h6, hr, hk⟩ := h.opened
    obtain ⟨gp, op, cp, rfl, hcp, hcmp, hgp, hxp⟩ := hp.opened (by simp)
    obtain ⟨a0, a1, a2⟩ := (hxp 0 s rfl).sp
    rw [Nat.zero_mul, Nat.add_zero] at a0 a1 a2
    have HR := Lib.hid hr
    have HK := Lib.hid hk
    have H6 := Lib.hid h6
    have HRT := Lib.hid ht
    have HBD := Lib.hid (fun ha => plcV_bad (s := s) (t := t) ha)
    have HOK := Lib.hid (fun ha => plcV_ok (s := s) (t := t) ha)
    have HKL := Lib.hid (fun k (h : kid s t = some k) => kid_at h)
    have HCE := Lib.hid (cutE_cons s p t)
    have HB0 := Lib.hid (Below.refl w.heap.size w)
    clear h ht hp hr hk h6 hn hxp
    generalize plcV s t = pl at *
    generalize hcu : cutE (s :: p) t = R at *
    clear hcu
    generalize hkd : kid s t = kd at *
    clear hkd
    cases ha : asks s t
    · have h1 := HBD.out ha
      have h2 : R = none := by have := HCE.out; rw [if_neg (by rw [ha]; decide)] at this; exact this
      subst h1 h2
      go_enter Tryz.func82, Tryz.ntmps82
      go_wp2_with fail
      refine (HP.out _ HB0.out).mono ?_
      rintro e w1 ⟨rfl, hb1⟩
      go_wp2_with fail
      go_ret2
      exact ⟨rfl, hb1⟩
    · have h1 := HOK.out ha
      have hce := HCE.out
      rw [if_pos ha] at hce
      cases kd with
      | none =>
        simp only at h1 hce
        subst h1 hce
        go_enter Tryz.func82, Tryz.ntmps82
        go_wp2_with fail
        refine (HP.out _ HB0.out).mono ?_
        rintro e w1 ⟨rfl, hb1⟩
        go_wp2_with fail
        go_ret2
        exact ⟨g, rfl, (HH.out.below hb1).mono (fun _ _ => Or.l), hb1⟩
      | some k =>
        simp only at h1 hce
        obtain ⟨u, hu, hgd, hum, -, hkl, -⟩ := HKL.out k rfl
        rw [hgd] at hce
        subst h1
        obtain ⟨pv, hpv, hpt⟩ := TrsS_at HK.out hu
        obtain ⟨gu, _, _, _, _, rfl, -⟩ := hpt.opened
        obtain ⟨A', c', hv, hc', hcm', -, HH6⟩ := HR.out
        injection hv with e1 e2 e3
        subst e1 e3
        have hvl := TrsS_len HK.out
        obtain ⟨g2, o2, rfl, hS2, hg2, hx⟩ := HH6 (by omega)
        have hx0 := hx k _ hpv
        have HX0 := Lib.hid hx0
        have HU := Lib.hid hpt
        rw [hvl] at hc'
        clear hx HH6 e2 hgd hpv hpt hx0 hvl
        obtain ⟨ps, hpsv⟩ := TrsS_ptrs HK.out
        subst hpsv
        have hpl : ps.length = t.ks.length := by have := TrsS_len HK.out; simpa using this
        have HCE2 := Lib.hid hce
        have HKN := Lib.hid hkl
        have HUM := Lib.hid hu
        have HPSV := Lib.hid hps
        clear hce hu hps
        generalize hNN : t.ks.length = N at *
        have HNN := Lib.hid hNN
        have HPL := Lib.hid hpl
        clear hNN hpl
        unfold maxLen at hcm'
        have hN6 : N ≤ 60000 := by
          have h1 := flats_len t.ks
          rw [flat_eq] at hlen
          rw [HNN.out] at h1
          simp at hlen; omega
        have hw1 : IntKind.i64.wrap ((k : Int) + 1) = (k : Int) + 1 := by
          unfold IntKind.wrap IntKind.signed IntKind.bits
          simp only
          split
          · rename_i h; simp at h; omega
          · omega
        have q1 : (0 : Int) ≤ (k : Int) := by omega
        have q2 : k ≤ c := by omega
        have q3 : k + 1 ≤ N := hkl
        have q4 : (k : Int) + 1 ≤ (N : Int) := by omega
        have HRA := Lib.hid (fun W (hW : Below w.heap.size w W) => rowS_ahead (k := k) HR.out hW (by rw [HPL.out]; omega) q2)
        have HRBE := Lib.hid (fun W (hW : Below w.heap.size w W) => rowS_behind (k := k + 1) HR.out hW HPL.out.symm hkl hc')
        have HNIL : Hid (k + 1 = c → ps.drop (k + 1) = []) := Lib.hid (fun h => List.drop_of_length_le (by rw [HPL.out]; omega))
        have HLN6 : Hid (ps.length ≤ 60000) := Lib.hid (by rw [HPL.out]; exact hN6)
        have HTAK : Hid (∀ W, Below w.heap.size w W → TrsS S W (t.ks.take k) ((ps.take k).map Value.pointer)) := Lib.hid (fun W hW => by have := TrsS_take (HK.out.below hW) k; rwa [← List.map_take] at this)
        have HDRO : Hid (∀ W, Below w.heap.size w W → TrsS S W (t.ks.drop (k + 1)) ((ps.drop (k + 1)).map Value.pointer)) := Lib.hid (fun W hW => by have := TrsS_drop (HK.out.below hW) (k + 1); rwa [← List.map_drop] at this)
        have HWT := Lib.hid (fun (S' : Nat → Prop) (W : World) (slc : Value) (us : List Value) (ls : List (Tr Nd)) (hW : Below w.heap.size w W) (hS' : ∀ b, S b → S' b) (h1 : RowS S' W slc us) (h2 : TrsS S' W ls us) => evWith_any S' t (.pointer (some ⟨g, 0, none⟩)) slc us ls W ((HH.out.below hW).mono (fun b _ h => hS' b h)) h1 h2)
        cases p with
        | nil =>
          by_cases hkc : k + 1 = c
          · simp only [List.length_cons, List.length_nil] at *
            go_enter Tryz.func82, Tryz.ntmps82
            go_wp2_with fail
            refine (HP.out _ HB0.out).mono ?_
            rintro e w1 ⟨rfl, hb1⟩
            have HB1 := Lib.hid hb1
            have c6 := (hb1.cell (p := ⟨g, 6, none⟩) hg).trans H6.out
            clear a0 a1 a2
            go_wp2_with fail
            go_quiet (fail)
            go_wp2_with fail
            have HBQ := Lib.hid (drewN_below HB1.out nq)
            have HRZ := Lib.hid (rowz_two (w1.drewN nq) w1.heap.size rfl 155 (.slice (some ⟨g2, o2, none⟩) k c) (.slice (some ⟨g2, o2, none⟩) 0 0) (ps.take k) (ps.drop (k + 1)) (HRA.out _ HBQ.out) (by rw [HNIL.out hkc]; exact Row.empty _ _ 0 (Nat.zero_le _)))
            have hba := HBQ.out.alloc HBQ.out.size (.cells #[.slice (some ⟨g2, o2, none⟩) k c, .slice (some ⟨g2, o2, none⟩) 0 0] 155)
            have HBA := Lib.hid hba
            clear hba
            refine (tconcat_any _ _ _ HRZ.out (by simp) (by have := HLN6.out; simp; omega)).mono ?_
            rintro e w2 ⟨v2, rfl, ho2, hb2⟩
            have HB2 := Lib.hid (HBA.out.trans (hb2.mono HBA.out.size))
            have HO2 : Hid (Own ptc 1 122 w.heap.size w2 v2 (ps.take k ++ ps.drop (k + 1))) := Lib.hid (by have := ho2.mono HBA.out.size; simpa using this)
            clear ho2 hb2 c6
            have HRS2 := Lib.hid (own_rowS (S := Or S w.heap.size) HO2.out (fun g' hg' => .inr (World.ownsRow.lt HO2.out g' hg').1))
            have HTS2 : Hid (TrsS (Or S w.heap.size) w2 (t.ks.eraseIdx k) ((ps.take k ++ ps.drop (k + 1)).map Value.pointer)) := Lib.hid (by rw [erase_split, List.map_append]; exact (TrsS_append (HTAK.out _ HB2.out) (HDRO.out _ HB2.out)).mono (fun _ _ => Or.l))
            obtain ⟨A9, n9, d9, rfl⟩ : ∃ A n d, v2 = .slice A n d := by obtain ⟨A, d, h, -⟩ := HO2.out.form; exact ⟨A, _, d, h⟩
            have hR : R = some (withK t (t.ks.eraseIdx k)) := by simpa using HCE2.out
            subst hR
            go_wp2_with fail
            refine (HWT.out (Or S w.heap.size) w2 _ _ _ HB2.out (fun _ => Or.l) HRS2.out HTS2.out).mono ?_
            rintro e w3 ⟨g3, rfl, ht3, hb3⟩
            have HT3 := Lib.hid ht3
            clear ht3
            go_wp2_with fail
            go_ret2
            exact ⟨g3, rfl, HT3.out.mono (fun b _ h => h.elim id (fun h => .inr (Nat.le_trans HB2.out.size h))), HB2.out.trans (hb3.mono HB2.out.size)⟩
          · simp only [List.length_cons, List.length_nil] at *
            go_enter Tryz.func82, Tryz.ntmps82
            go_wp2_with fail
            refine (HP.out _ HB0.out).mono ?_
            rintro e w1 ⟨rfl, hb1⟩
            have HB1 := Lib.hid hb1
            have c6 := (hb1.cell (p := ⟨g, 6, none⟩) hg).trans H6.out
            clear a0 a1 a2
            go_wp2_with fail
            go_quiet (fail)
            go_wp2_with fail
            have HBQ := Lib.hid (drewN_below HB1.out nq)
            have HRZ := Lib.hid (rowz_two (w1.drewN nq) w1.heap.size rfl 155 (.slice (some ⟨g2, o2, none⟩) k c) (.slice (some ⟨g2, o2 + (k + 1), none⟩) (N - (k + 1)) (c - (k + 1))) (ps.take k) (ps.drop (k + 1)) (HRA.out _ HBQ.out) (HRBE.out _ HBQ.out))
            have hba := HBQ.out.alloc HBQ.out.size (.cells #[.slice (some ⟨g2, o2, none⟩) k c, .slice (some ⟨g2, o2 + (k + 1), none⟩) (N - (k + 1)) (c - (k + 1))] 155)
            have HBA := Lib.hid hba
            clear hba
            refine (tconcat_any _ _ _ HRZ.out (by simp) (by have := HLN6.out; simp; omega)).mono ?_
            rintro e w2 ⟨v2, rfl, ho2, hb2⟩
            have HB2 := Lib.hid (HBA.out.trans (hb2.mono HBA.out.size))
            have HO2 : Hid (Own ptc 1 122 w.heap.size w2 v2 (ps.take k ++ ps.drop (k + 1))) := Lib.hid (by have := ho2.mono HBA.out.size; simpa using this)
            clear ho2 hb2 c6
            have HRS2 := Lib.hid (own_rowS (S := Or S w.heap.size) HO2.out (fun g' hg' => .inr (World.ownsRow.lt HO2.out g' hg').1))
            have HTS2 : Hid (TrsS (Or S w.heap.size) w2 (t.ks.eraseIdx k) ((ps.take k ++ ps.drop (k + 1)).map Value.pointer)) := Lib.hid (by rw [erase_split, List.map_append]; exact (TrsS_append (HTAK.out _ HB2.out) (HDRO.out _ HB2.out)).mono (fun _ _ => Or.l))
            obtain ⟨A9, n9, d9, rfl⟩ : ∃ A n d, v2 = .slice A n d := by obtain ⟨A, d, h, -⟩ := HO2.out.form; exact ⟨A, _, d, h⟩
            have hR : R = some (withK t (t.ks.eraseIdx k)) := by simpa using HCE2.out
            subst hR
            go_wp2_with fail
            refine (HWT.out (Or S w.heap.size) w2 _ _ _ HB2.out (fun _ => Or.l) HRS2.out HTS2.out).mono ?_
            rintro e w3 ⟨g3, rfl, ht3, hb3⟩
            have HT3 := Lib.hid ht3
            clear ht3
            go_wp2_with fail
            go_ret2
            exact ⟨g3, rfl, HT3.out.mono (fun b _ h => h.elim id (fun h => .inr (Nat.le_trans HB2.out.size h))), HB2.out.trans (hb3.mono HB2.out.size)⟩
        | cons s2 p2 =>
          have hz2 : ¬ ((p2.length : Int) + 1 + 1 = 1) := by omega
          have HIC := Lib.hid (fun W (hW : Below w.heap.size w W) => evCut_any (s2 :: p2) S u (.pointer (some ⟨gu, 0, none⟩)) (.slice (some ⟨gp, op + 3, none⟩) (p2.length + 1) (cp - 1)) W (by simp) (HU.out.below hW) (HRT.out.kid hum) (by have := (HPS.out.below hW).pc 1 (p2.length + 1) (cp - 1) (by simp; omega) (by simp at hcp; omega) (by omega); simpa using this) (fun s' hs' => HPSV.out s' (by simp [hs'])) (by have h1 := flat_kid_len hum; omega))
          have hcp2 : p2.length + 1 + 1 ≤ cp := by simpa using hcp
          have q5 : (1 : Int) ≤ (p2.length : Int) + 1 + 1 := by omega
          have q6 : ¬ (1 = cp) := by omega
          have q7 : ¬ (cp = 1) := by omega
          by_cases hkc : k + 1 = c
          · simp only [List.length_cons] at *
            go_enter Tryz.func82, Tryz.ntmps82
            go_wp2_with fail
            refine (HP.out _ HB0.out).mono ?_
            rintro e w1 ⟨rfl, hb1⟩
            have HB1 := Lib.hid hb1
            have c6 := (hb1.cell (p := ⟨g, 6, none⟩) hg).trans H6.out
            clear a0 a1 a2
            go_wp2_with fail
            go_quiet (fail)
            go_wp2_with fail
            have HBQ := Lib.hid (drewN_below HB1.out nq)
            have hg1 : g < w1.heap.size := Nat.lt_of_lt_of_le hg HB1.out.size
            have hg21 : g2 < w1.heap.size := Nat.lt_of_lt_of_le hg2 HB1.out.size
            have C6 := Lib.hid c6
            have CU := Lib.hid ((HB1.out.cell (p := ⟨g2, o2 + k, none⟩) hg2).trans HX0.out)
            clear c6
            cases hcy : cutE (s2 :: p2) u with
            | none =>
              rw [hcy] at HIC
              have hR : R = none := by have := HCE2.out; rw [if_neg (by simp), hcy] at this; exact this
              subst hR
              refine wp_region_held_drew (S := fun w' => Below w1.heap.size w1 w') (by kernel_rfl) ((drewN_below (Below.refl _ _) nq).drew) (fun hH => ?_)
              refine rtk 0 (.pointer (some ⟨g, 0, none⟩)) ?_ ?_
              · intro w' hSw; go_simp
              try simp only [List.set_cons_succ, List.set_cons_zero]
              refine rtk 1 (.pointer (some ⟨g, 0, none⟩)) ?_ ?_
              · intro w' hSw; go_simp
              try simp only [List.set_cons_succ, List.set_cons_zero]
              refine rtk 2 (.pointer (some ⟨g, 6, none⟩)) ?_ ?_
              · intro w' hSw; go_simp
              try simp only [List.set_cons_succ, List.set_cons_zero]
              refine rtk 3 (.slice (some ⟨g2, o2, none⟩) N c) ?_ ?_
              · intro w' hSw; have c6' := (hSw.cell (p := ⟨g, 6, none⟩) hg1).trans C6.out; go_simp
              try simp only [List.set_cons_succ, List.set_cons_zero]
              refine rtk 4 (.int .i64 (k : Int)) ?_ ?_
              · intro w' hSw; go_simp
              try simp only [List.set_cons_succ, List.set_cons_zero]
              refine rtk 5 (.pointer (some ⟨g2, o2 + k, none⟩)) ?_ ?_
              · intro w' hSw; go_simp
              try simp only [List.set_cons_succ, List.set_cons_zero]
              refine rtk 6 (.pointer (some ⟨gu, 0, none⟩)) ?_ ?_
              · intro w' hSw; have cu' := (hSw.cell (p := ⟨g2, o2 + k, none⟩) hg21).trans CU.out; go_simp
              try simp only [List.set_cons_succ, List.set_cons_zero]
              refine rtk 7 (.slice (some ⟨gp, op, none⟩) (p2.length + 1 + 1) cp) ?_ ?_
              · intro w' hSw; go_simp
              try simp only [List.set_cons_succ, List.set_cons_zero]
              refine rtk 8 (.slice (some ⟨gp, op + 3, none⟩) (p2.length + 1) (cp - 1)) ?_ ?_
              · intro w' hSw; go_simp
              try simp only [List.set_cons_succ, List.set_cons_zero]
              refine wpAnyH_ready (rs := [9]) (by kernel_rfl) (by simp) ?_
              refine AllReadyH.cons rfl (fun K9 hK9 => ?_) AllReadyH.nil
              go_simp
              go_at_call 82
              refine (HIC.out _ (HB1.out.trans (hH.mono HB1.out.size))).mono ?_
              rintro e w2 ⟨rfl, hb2⟩
              have hb2' := hH.trans (hb2.mono hH.size)
              go_wp2_with fail
              refine hK9.out _ _ hb2' (fun hH9 => ?_)
              clear hK9 K9
              try simp only [List.set_cons_succ, List.set_cons_zero]
              refine rtk 10 (.tuple #[.pointer none, .int .i64 5]) ?_ ?_
              · intro w' hSw; go_simp
              try simp only [List.set_cons_succ, List.set_cons_zero]
              refine rtk 11 (.pointer none) ?_ ?_
              · intro w' hSw; go_simp
              try simp only [List.set_cons_succ, List.set_cons_zero]
              refine rtk 12 (.int .i64 5) ?_ ?_
              · intro w' hSw; go_simp
              try simp only [List.set_cons_succ, List.set_cons_zero]
              refine rtk 13 (.pointer none) ?_ ?_
              · intro w' hSw; go_simp
              try simp only [List.set_cons_succ, List.set_cons_zero]
              refine rtk 14 (.int .i64 5) ?_ ?_
              · intro w' hSw; go_simp
              try simp only [List.set_cons_succ, List.set_cons_zero]
              refine wpAnyH_done (by kernel_rfl) ?_ _
              have HB2 := Lib.hid (HB1.out.trans (hH9.mono HB1.out.size))
              go_wp2_with fail
              go_ret2
              exact ⟨rfl, HB2.out⟩
            | some y =>
              rw [hcy] at HIC
              have hR : R = some (withK t (t.ks.set k y)) := by have := HCE2.out; rw [if_neg (by simp), hcy] at this; exact this
              subst hR
              refine wp_region_held_drew (S := fun w' => Below w1.heap.size w1 w') (by kernel_rfl) ((drewN_below (Below.refl _ _) nq).drew) (fun hH => ?_)
              refine rtk 0 (.pointer (some ⟨g, 0, none⟩)) ?_ ?_
              · intro w' hSw; go_simp
              try simp only [List.set_cons_succ, List.set_cons_zero]
              refine rtk 1 (.pointer (some ⟨g, 0, none⟩)) ?_ ?_
              · intro w' hSw; go_simp
              try simp only [List.set_cons_succ, List.set_cons_zero]
              refine rtk 2 (.pointer (some ⟨g, 6, none⟩)) ?_ ?_
              · intro w' hSw; go_simp
              try simp only [List.set_cons_succ, List.set_cons_zero]
              refine rtk 3 (.slice (some ⟨g2, o2, none⟩) N c) ?_ ?_
              · intro w' hSw; have c6' := (hSw.cell (p := ⟨g, 6, none⟩) hg1).trans C6.out; go_simp
              try simp only [List.set_cons_succ, List.set_cons_zero]
              refine rtk 4 (.int .i64 (k : Int)) ?_ ?_
              · intro w' hSw; go_simp
              try simp only [List.set_cons_succ, List.set_cons_zero]
              refine rtk 5 (.pointer (some ⟨g2, o2 + k, none⟩)) ?_ ?_
              · intro w' hSw; go_simp
              try simp only [List.set_cons_succ, List.set_cons_zero]
              refine rtk 6 (.pointer (some ⟨gu, 0, none⟩)) ?_ ?_
              · intro w' hSw; have cu' := (hSw.cell (p := ⟨g2, o2 + k, none⟩) hg21).trans CU.out; go_simp
              try simp only [List.set_cons_succ, List.set_cons_zero]
              refine rtk 7 (.slice (some ⟨gp, op, none⟩) (p2.length + 1 + 1) cp) ?_ ?_
              · intro w' hSw; go_simp
              try simp only [List.set_cons_succ, List.set_cons_zero]
              refine rtk 8 (.slice (some ⟨gp, op + 3, none⟩) (p2.length + 1) (cp - 1)) ?_ ?_
              · intro w' hSw; go_simp
              try simp only [List.set_cons_succ, List.set_cons_zero]
              refine wpAnyH_ready (rs := [9]) (by kernel_rfl) (by simp) ?_
              refine AllReadyH.cons rfl (fun K9 hK9 => ?_) AllReadyH.nil
              go_simp
              go_at_call 82
              refine (HIC.out _ (HB1.out.trans (hH.mono HB1.out.size))).mono ?_
              rintro e w2 ⟨gy, rfl, hty, hb2⟩
              have HTY : Hid (TrS (Or S w.heap.size) w2 y (.pointer (some ⟨gy, 0, none⟩))) := Lib.hid (hty.mono (fun _ _ => Or.mono (HB1.out.trans (hH.mono HB1.out.size)).size))
              clear hty
              have hb2' := hH.trans (hb2.mono hH.size)
              go_wp2_with fail
              refine hK9.out _ _ hb2' (fun hH9 => ?_)
              clear hK9 K9
              try simp only [List.set_cons_succ, List.set_cons_zero]
              refine rtk 10 (.tuple #[.pointer (some ⟨gy, 0, none⟩), .int .i64 0]) ?_ ?_
              · intro w' hSw; go_simp
              try simp only [List.set_cons_succ, List.set_cons_zero]
              refine rtk 11 (.pointer (some ⟨gy, 0, none⟩)) ?_ ?_
              · intro w' hSw; go_simp
              try simp only [List.set_cons_succ, List.set_cons_zero]
              refine rtk 12 (.int .i64 0) ?_ ?_
              · intro w' hSw; go_simp
              try simp only [List.set_cons_succ, List.set_cons_zero]
              refine rtk 13 (.pointer (some ⟨gy, 0, none⟩)) ?_ ?_
              · intro w' hSw; go_simp
              try simp only [List.set_cons_succ, List.set_cons_zero]
              refine rtk 14 (.int .i64 0) ?_ ?_
              · intro w' hSw; go_simp
              try simp only [List.set_cons_succ, List.set_cons_zero]
              refine wpAnyH_done (by kernel_rfl) ?_ _
              have HB2 := Lib.hid (HB1.out.trans (hH9.mono HB1.out.size))
              have hk9 : k < t.ks.length := by rw [HNN.out]; exact hkl
              have ha1 := HB2.out.alloc HB2.out.size (.cells #[.pointer (some ⟨gy, 0, none⟩)] 122)
              have hl1 : Row ptc 1 (w2.alloc (.cells #[.pointer (some ⟨gy, 0, none⟩)] 122)) (.slice (some ⟨w2.heap.size, 0, none⟩) 1 1) [some ⟨gy, 0, none⟩] := Row.lit ptc_len w2 122 #[.pointer (some ⟨gy, 0, none⟩)] [some ⟨gy, 0, none⟩] (by show 1 ≤ maxLen; decide) rfl
              have HRZ := Lib.hid (rowz_three (w2.alloc (.cells #[.pointer (some ⟨gy, 0, none⟩)] 122)) (w2.heap.size + 1) (by simp) 155 (.slice (some ⟨g2, o2, none⟩) k c) (.slice (some ⟨w2.heap.size, 0, none⟩) 1 1) (.slice (some ⟨g2, o2, none⟩) 0 0) (ps.take k) [some ⟨gy, 0, none⟩] (ps.drop (k + 1)) (HRA.out _ ha1) hl1 (by rw [HNIL.out hkc]; exact Row.empty _ _ 0 (Nat.zero_le _)))
              have HBA := Lib.hid (ha1.alloc ha1.size (.cells #[.slice (some ⟨g2, o2, none⟩) k c, .slice (some ⟨w2.heap.size, 0, none⟩) 1 1, .slice (some ⟨g2, o2, none⟩) 0 0] 155))
              clear ha1 hl1
              go_wp2_with fail
              refine (tconcat_any _ _ _ HRZ.out (by simp) (by have := HLN6.out; simp; omega)).mono ?_
              rintro e w3 ⟨v3, rfl, ho3, hb3⟩
              have HB3 := Lib.hid (HBA.out.trans (hb3.mono HBA.out.size))
              have hs23 : Below w2.heap.size w2 w3 := (((Below.refl _ _).alloc (Nat.le_refl _) _).alloc (by simp) _).trans (hb3.mono (by simp; omega))
              have HO3 : Hid (Own ptc 1 122 w.heap.size w3 v3 (ps.take k ++ ([some (⟨gy, 0, none⟩ : Addr)] ++ ps.drop (k + 1)))) := Lib.hid (by have := ho3.mono HBA.out.size; simpa using this)
              have HTY3 := Lib.hid (HTY.out.below hs23)
              clear ho3 hb3 hs23
              have HRS3 := Lib.hid (own_rowS (S := Or S w.heap.size) HO3.out (fun g' hg' => .inr (World.ownsRow.lt HO3.out g' hg').1))
              have HTS3 : Hid (TrsS (Or S w.heap.size) w3 (t.ks.set k y) ((ps.take k ++ ([some (⟨gy, 0, none⟩ : Addr)] ++ ps.drop (k + 1))).map Value.pointer)) := Lib.hid (by rw [set_split y hk9, List.map_append, List.map_append]; exact TrsS_append ((HTAK.out _ HB3.out).mono (fun _ _ => Or.l)) (TrsS_append (TrsS_cons.2 ⟨HTY3.out, TrsS_nil⟩) ((HDRO.out _ HB3.out).mono (fun _ _ => Or.l))))
              obtain ⟨A9, n9, d9, rfl⟩ : ∃ A n d, v3 = .slice A n d := by obtain ⟨A, d, h, -⟩ := HO3.out.form; exact ⟨A, _, d, h⟩
              go_wp2_with fail
              refine (HWT.out (Or S w.heap.size) w3 _ _ _ HB3.out (fun _ => Or.l) HRS3.out HTS3.out).mono ?_
              rintro e w4 ⟨g4, rfl, ht4, hb4⟩
              have HT4 := Lib.hid ht4
              clear ht4
              go_wp2_with fail
              go_ret2
              exact ⟨g4, rfl, HT4.out.mono (fun b _ h => h.elim id (fun h => .inr (Nat.le_trans HB3.out.size h))), HB3.out.trans (hb4.mono HB3.out.size)⟩
          · simp only [List.length_cons] at *
            go_enter Tryz.func82, Tryz.ntmps82
            go_wp2_with fail
            refine (HP.out _ HB0.out).mono ?_
            rintro e w1 ⟨rfl, hb1⟩
            have HB1 := Lib.hid hb1
            have c6 := (hb1.cell (p := ⟨g, 6, none⟩) hg).trans H6.out
            clear a0 a1 a2
            go_wp2_with fail
            go_quiet (fail)
            go_wp2_with fail
            have HBQ := Lib.hid (drewN_below HB1.out nq)
            have hg1 : g < w1.heap.size := Nat.lt_of_lt_of_le hg HB1.out.size
            have hg21 : g2 < w1.heap.size := Nat.lt_of_lt_of_le hg2 HB1.out.size
            have C6 := Lib.hid c6
            have CU := Lib.hid ((HB1.out.cell (p := ⟨g2, o2 + k, none⟩) hg2).trans HX0.out)
            clear c6
            cases hcy : cutE (s2 :: p2) u with
            | none =>
              rw [hcy] at HIC
              have hR : R = none := by have := HCE2.out; rw [if_neg (by simp), hcy] at this; exact this
              subst hR
              refine wp_region_held_drew (S := fun w' => Below w1.heap.size w1 w') (by kernel_rfl) ((drewN_below (Below.refl _ _) nq).drew) (fun hH => ?_)
              refine rtk 0 (.pointer (some ⟨g, 0, none⟩)) ?_ ?_
              · intro w' hSw; go_simp
              try simp only [List.set_cons_succ, List.set_cons_zero]
              refine rtk 1 (.pointer (some ⟨g, 0, none⟩)) ?_ ?_
              · intro w' hSw; go_simp
              try simp only [List.set_cons_succ, List.set_cons_zero]
              refine rtk 2 (.pointer (some ⟨g, 6, none⟩)) ?_ ?_
              · intro w' hSw; go_simp
              try simp only [List.set_cons_succ, List.set_cons_zero]
              refine rtk 3 (.slice (some ⟨g2, o2, none⟩) N c) ?_ ?_
              · intro w' hSw; have c6' := (hSw.cell (p := ⟨g, 6, none⟩) hg1).trans C6.out; go_simp
              try simp only [List.set_cons_succ, List.set_cons_zero]
              refine rtk 4 (.int .i64 (k : Int)) ?_ ?_
              · intro w' hSw; go_simp
              try simp only [List.set_cons_succ, List.set_cons_zero]
              refine rtk 5 (.pointer (some ⟨g2, o2 + k, none⟩)) ?_ ?_
              · intro w' hSw; go_simp
              try simp only [List.set_cons_succ, List.set_cons_zero]
              refine rtk 6 (.pointer (some ⟨gu, 0, none⟩)) ?_ ?_
              · intro w' hSw; have cu' := (hSw.cell (p := ⟨g2, o2 + k, none⟩) hg21).trans CU.out; go_simp
              try simp only [List.set_cons_succ, List.set_cons_zero]
              refine rtk 7 (.slice (some ⟨gp, op, none⟩) (p2.length + 1 + 1) cp) ?_ ?_
              · intro w' hSw; go_simp
              try simp only [List.set_cons_succ, List.set_cons_zero]
              refine rtk 8 (.slice (some ⟨gp, op + 3, none⟩) (p2.length + 1) (cp - 1)) ?_ ?_
              · intro w' hSw; go_simp
              try simp only [List.set_cons_succ, List.set_cons_zero]
              refine wpAnyH_ready (rs := [9]) (by kernel_rfl) (by simp) ?_
              refine AllReadyH.cons rfl (fun K9 hK9 => ?_) AllReadyH.nil
              go_simp
              go_at_call 82
              refine (HIC.out _ (HB1.out.trans (hH.mono HB1.out.size))).mono ?_
              rintro e w2 ⟨rfl, hb2⟩
              have hb2' := hH.trans (hb2.mono hH.size)
              go_wp2_with fail
              refine hK9.out _ _ hb2' (fun hH9 => ?_)
              clear hK9 K9
              try simp only [List.set_cons_succ, List.set_cons_zero]
              refine rtk 10 (.tuple #[.pointer none, .int .i64 5]) ?_ ?_
              · intro w' hSw; go_simp
              try simp only [List.set_cons_succ, List.set_cons_zero]
              refine rtk 11 (.pointer none) ?_ ?_
              · intro w' hSw; go_simp
              try simp only [List.set_cons_succ, List.set_cons_zero]
              refine rtk 12 (.int .i64 5) ?_ ?_
              · intro w' hSw; go_simp
              try simp only [List.set_cons_succ, List.set_cons_zero]
              refine rtk 13 (.pointer none) ?_ ?_
              · intro w' hSw; go_simp
              try simp only [List.set_cons_succ, List.set_cons_zero]
              refine rtk 14 (.int .i64 5) ?_ ?_
              · intro w' hSw; go_simp
              try simp only [List.set_cons_succ, List.set_cons_zero]
              refine wpAnyH_done (by kernel_rfl) ?_ _
              have HB2 := Lib.hid (HB1.out.trans (hH9.mono HB1.out.size))
              go_wp2_with fail
              go_ret2
              exact ⟨rfl, HB2.out⟩
            | some y =>
              rw [hcy] at HIC
              have hR : R = some (withK t (t.ks.set k y)) := by have := HCE2.out; rw [if_neg (by simp), hcy] at this; exact this
              subst hR
              refine wp_region_held_drew (S := fun w' => Below w1.heap.size w1 w') (by kernel_rfl) ((drewN_below (Below.refl _ _) nq).drew) (fun hH => ?_)
              refine rtk 0 (.pointer (some ⟨g, 0, none⟩)) ?_ ?_
              · intro w' hSw; go_simp
              try simp only [List.set_cons_succ, List.set_cons_zero]
              refine rtk 1 (.pointer (some ⟨g, 0, none⟩)) ?_ ?_
              · intro w' hSw; go_simp
              try simp only [List.set_cons_succ, List.set_cons_zero]
              refine rtk 2 (.pointer (some ⟨g, 6, none⟩)) ?_ ?_
              · intro w' hSw; go_simp
              try simp only [List.set_cons_succ, List.set_cons_zero]
              refine rtk 3 (.slice (some ⟨g2, o2, none⟩) N c) ?_ ?_
              · intro w' hSw; have c6' := (hSw.cell (p := ⟨g, 6, none⟩) hg1).trans C6.out; go_simp
              try simp only [List.set_cons_succ, List.set_cons_zero]
              refine rtk 4 (.int .i64 (k : Int)) ?_ ?_
              · intro w' hSw; go_simp
              try simp only [List.set_cons_succ, List.set_cons_zero]
              refine rtk 5 (.pointer (some ⟨g2, o2 + k, none⟩)) ?_ ?_
              · intro w' hSw; go_simp
              try simp only [List.set_cons_succ, List.set_cons_zero]
              refine rtk 6 (.pointer (some ⟨gu, 0, none⟩)) ?_ ?_
              · intro w' hSw; have cu' := (hSw.cell (p := ⟨g2, o2 + k, none⟩) hg21).trans CU.out; go_simp
              try simp only [List.set_cons_succ, List.set_cons_zero]
              refine rtk 7 (.slice (some ⟨gp, op, none⟩) (p2.length + 1 + 1) cp) ?_ ?_
              · intro w' hSw; go_simp
              try simp only [List.set_cons_succ, List.set_cons_zero]
              refine rtk 8 (.slice (some ⟨gp, op + 3, none⟩) (p2.length + 1) (cp - 1)) ?_ ?_
              · intro w' hSw; go_simp
              try simp only [List.set_cons_succ, List.set_cons_zero]
              refine wpAnyH_ready (rs := [9]) (by kernel_rfl) (by simp) ?_
              refine AllReadyH.cons rfl (fun K9 hK9 => ?_) AllReadyH.nil
              go_simp
              go_at_call 82
              refine (HIC.out _ (HB1.out.trans (hH.mono HB1.out.size))).mono ?_
              rintro e w2 ⟨gy, rfl, hty, hb2⟩
              have HTY : Hid (TrS (Or S w.heap.size) w2 y (.pointer (some ⟨gy, 0, none⟩))) := Lib.hid (hty.mono (fun _ _ => Or.mono (HB1.out.trans (hH.mono HB1.out.size)).size))
              clear hty
              have hb2' := hH.trans (hb2.mono hH.size)
              go_wp2_with fail
              refine hK9.out _ _ hb2' (fun hH9 => ?_)
              clear hK9 K9
              try simp only [List.set_cons_succ, List.set_cons_zero]
              refine rtk 10 (.tuple #[.pointer (some ⟨gy, 0, none⟩), .int .i64 0]) ?_ ?_
              · intro w' hSw; go_simp
              try simp only [List.set_cons_succ, List.set_cons_zero]
              refine rtk 11 (.pointer (some ⟨gy, 0, none⟩)) ?_ ?_
              · intro w' hSw; go_simp
              try simp only [List.set_cons_succ, List.set_cons_zero]
              refine rtk 12 (.int .i64 0) ?_ ?_
              · intro w' hSw; go_simp
              try simp only [List.set_cons_succ, List.set_cons_zero]
              refine rtk 13 (.pointer (some ⟨gy, 0, none⟩)) ?_ ?_
              · intro w' hSw; go_simp
              try simp only [List.set_cons_succ, List.set_cons_zero]
              refine rtk 14 (.int .i64 0) ?_ ?_
              · intro w' hSw; go_simp
              try simp only [List.set_cons_succ, List.set_cons_zero]
              refine wpAnyH_done (by kernel_rfl) ?_ _
              have HB2 := Lib.hid (HB1.out.trans (hH9.mono HB1.out.size))
              have hk9 : k < t.ks.length := by rw [HNN.out]; exact hkl
              have ha1 := HB2.out.alloc HB2.out.size (.cells #[.pointer (some ⟨gy, 0, none⟩)] 122)
              have hl1 : Row ptc 1 (w2.alloc (.cells #[.pointer (some ⟨gy, 0, none⟩)] 122)) (.slice (some ⟨w2.heap.size, 0, none⟩) 1 1) [some ⟨gy, 0, none⟩] := Row.lit ptc_len w2 122 #[.pointer (some ⟨gy, 0, none⟩)] [some ⟨gy, 0, none⟩] (by show 1 ≤ maxLen; decide) rfl
              have HRZ := Lib.hid (rowz_three (w2.alloc (.cells #[.pointer (some ⟨gy, 0, none⟩)] 122)) (w2.heap.size + 1) (by simp) 155 (.slice (some ⟨g2, o2, none⟩) k c) (.slice (some ⟨w2.heap.size, 0, none⟩) 1 1) (.slice (some ⟨g2, o2 + (k + 1), none⟩) (N - (k + 1)) (c - (k + 1))) (ps.take k) [some ⟨gy, 0, none⟩] (ps.drop (k + 1)) (HRA.out _ ha1) hl1 (HRBE.out _ ha1))
              have HBA := Lib.hid (ha1.alloc ha1.size (.cells #[.slice (some ⟨g2, o2, none⟩) k c, .slice (some ⟨w2.heap.size, 0, none⟩) 1 1, .slice (some ⟨g2, o2 + (k + 1), none⟩) (N - (k + 1)) (c - (k + 1))] 155))
              clear ha1 hl1
              go_wp2_with fail
              refine (tconcat_any _ _ _ HRZ.out (by simp) (by have := HLN6.out; simp; omega)).mono ?_
              rintro e w3 ⟨v3, rfl, ho3, hb3⟩
              have HB3 := Lib.hid (HBA.out.trans (hb3.mono HBA.out.size))
              have hs23 : Below w2.heap.size w2 w3 := (((Below.refl _ _).alloc (Nat.le_refl _) _).alloc (by simp) _).trans (hb3.mono (by simp; omega))
              have HO3 : Hid (Own ptc 1 122 w.heap.size w3 v3 (ps.take k ++ ([some (⟨gy, 0, none⟩ : Addr)] ++ ps.drop (k + 1)))) := Lib.hid (by have := ho3.mono HBA.out.size; simpa using this)
              have HTY3 := Lib.hid (HTY.out.below hs23)
              clear ho3 hb3 hs23
              have HRS3 := Lib.hid (own_rowS (S := Or S w.heap.size) HO3.out (fun g' hg' => .inr (World.ownsRow.lt HO3.out g' hg').1))
              have HTS3 : Hid (TrsS (Or S w.heap.size) w3 (t.ks.set k y) ((ps.take k ++ ([some (⟨gy, 0, none⟩ : Addr)] ++ ps.drop (k + 1))).map Value.pointer)) := Lib.hid (by rw [set_split y hk9, List.map_append, List.map_append]; exact TrsS_append ((HTAK.out _ HB3.out).mono (fun _ _ => Or.l)) (TrsS_append (TrsS_cons.2 ⟨HTY3.out, TrsS_nil⟩) ((HDRO.out _ HB3.out).mono (fun _ _ => Or.l))))
              obtain ⟨A9, n9, d9, rfl⟩ : ∃ A n d, v3 = .slice A n d := by obtain ⟨A, d, h, -⟩ := HO3.out.form; exact ⟨A, _, d, h⟩
              go_wp2_with fail
              refine (HWT.out (Or S w.heap.size) w3 _ _ _ HB3.out (fun _ => Or.l) HRS3.out HTS3.out).mono ?_
              rintro e w4 ⟨g4, rfl, ht4, hb4⟩
              have HT4 := Lib.hid ht4
              clear ht4
              go_wp2_with fail
              go_ret2
              exact ⟨g4, rfl, HT4.out.mono (fun b _ h => h.elim id (fun h => .inr (Nat.le_trans HB3.out.size h))), HB3.out.trans (hb4.mono HB3.out.size)⟩
end Go.Proofs.YtdgcdemihalefaaGreatDoor

/-
  What is left without what stands at a path: without, and the closure that it makes; what a filter gives of a row.
-/
namespace Go.Proofs.YtdgcdemihalefaaGreatDoor
open Go.RowKit Go.Shelf Np Rw Vp Pw Ev

set_option maxRecDepth 100000 in
set_option maxHeartbeats 2000000 in
theorem withoutC_any (S : Nat → Prop) (p : List St) (t : Tr Nd) (v sl : Value) (b : Nat) (w : World) (hb : w.cell? ⟨b, 0, none⟩ = some sl) (hp : Sps w sl p) (hps : ∀ s ∈ p, rightS s = true) (h : TrS S w t v) (ht : Val t) (hl : (flat t).length ≤ 60000) :
    Calls Tryz.prog 80 #[v, .pointer (some ⟨b, 0, none⟩)] w (OutR S w (ofO (cutE p t))) := by
  have HC := Lib.hid (fun hne => evCut_any p S t v sl w hne h (rgt_of ht) hp hps hl)
  obtain ⟨g0, _, _, _, _, rfl, -⟩ := h.opened
  obtain ⟨A, c, rfl, hc, hcm, -⟩ := hp
  cases p with
  | nil =>
    simp only [List.length_nil] at *
    clear HC
    go_enter Tryz.func80, Tryz.ntmps80
    go_wp2_with fail
    refine (evNull_any S w).mono ?_
    rintro e w1 ⟨g1, rfl, ht1, hb1⟩
    have HT1 := Lib.hid ht1
    clear ht1
    go_wp2_with fail
    go_ret2
    exact ⟨g1, rfl, HT1.out, hb1⟩
  | cons s p =>
    have HC2 := Lib.hid (HC.out (by simp))
    have hz : ¬ ((p.length : Int) + 1 = 0) := by omega
    cases hcu : cutE (s :: p) t with
    | none =>
      rw [hcu] at HC2
      simp only [List.length_cons] at *
      clear HC hcu
      go_enter Tryz.func80, Tryz.ntmps80
      go_wp2_with fail
      refine HC2.out.mono ?_
      rintro e w1 ⟨rfl, hb1⟩
      go_wp2_with fail
      go_ret2
      exact ⟨rfl, hb1⟩
    | some y =>
      rw [hcu] at HC2
      simp only [List.length_cons] at *
      clear HC hcu
      go_enter Tryz.func80, Tryz.ntmps80
      go_wp2_with fail
      refine HC2.out.mono ?_
      rintro e w1 ⟨gy, rfl, hty, hb1⟩
      have HTY := Lib.hid hty
      clear hty
      go_wp2_with fail
      go_ret2
      exact ⟨gy, rfl, HTY.out, hb1⟩
theorem evWithout_any (sl : Value) (p : List St) (w : World) (hp : Sps w sl p) (hps : ∀ s ∈ p, rightS s = true) :
    Calls Tryz.prog 48 #[sl] w (GivesE 60000 w fun t => ofO (cutE p t)) := by
  have eK : ∀ args w, (callFunc 80 args).run Tryz.prog w = .ok (.enter 80 args) w := enters_of Tryz.func80 (by kernel_rfl) rfl
  have hmf : ∀ (fn : Fn) (first cap : Array Value) (w : World), (Instr.makeFunc fn first cap).run Tryz.prog w = .ok (.func fn first cap) w := fun _ _ _ _ => rfl
  have hb := (Below.refl w.heap.size w).alloc (Nat.le_refl _) (.cells #[sl] 32)
  have HB := Lib.hid hb
  have HG : Hid (Gives 60000 (w.alloc (.cells #[sl] 32)) (.func (.func 80) #[] #[.pointer (some ⟨w.heap.size, 0, none⟩)]) fun t => ofO (cutE p t)) := Lib.hid (by
    refine ⟨_, _, rfl, eK, fun W S t v hW h ht hl => ?_⟩
    have hc : (w.alloc (.cells #[sl] 32)).cell? ⟨w.heap.size, 0, none⟩ = some sl := by simp [World.cell?_alloc_new]
    exact withoutC_any S p t v sl w.heap.size W ((hW.cell (World.block_lt_of_cell? _ _ hc)).trans hc) ((hp.below hb).below hW) hps h ht hl)
  obtain ⟨A, c, rfl, -⟩ := hp
  clear hb hps eK
  go_enter Tryz.func48, Tryz.ntmps48
  go_wp2_with fail
  go_ret
  exact ⟨_, _, rfl, HG.out, HB.out⟩
end Go.Proofs.YtdgcdemihalefaaGreatDoor

/-
  What order.Cmp answers; the comparison of keys by their places.
-/
namespace Go.Proofs.YtdgcdemihalefaaGreatDoor
open Go.RowKit Np Rw Vp Ov

theorem Vp.Val.ok9 {t : Tr Nd} (h : Val t) : Ok9 t := ⟨h.ok, h.rt⟩
set_option maxRecDepth 100000 in
set_option maxHeartbeats 1000000 in
theorem ordCmp_any (va vb : Value) (t u : Tr Nd) (w : World) (ha : Nds w va (flat t)) (hb : Nds w vb (flat u)) (ht : Val t) (hu : Val u) (h1 : (flat t).length ≤ 40000) (h2 : (flat u).length ≤ 40000) :
    Calls Tryz.prog 177 #[va, vb] w fun e w' => e = .returned (.int .i64 (cmpT t u)) ∧ Below w.heap.size w w' := by
  have HV : Hid (∀ W, W = w.alloc (.cells #[va, vb, .int .i64 (0 : Nat)] 232) → Calls Tryz.prog 206 #[.pointer (some ⟨w.heap.size, 0, none⟩)] W fun e w' => e = .returned (.int .i64 (cmpT t u)) ∧ Below w.heap.size w w') := Lib.hid fun W hW => by
    subst hW
    have hB : Below w.heap.size w (w.alloc (.cells #[va, vb, .int .i64 (0 : Nat)] 232)) := (Below.refl _ _).alloc (Nat.le_refl _) _
    have hp : Prs w.heap.size (flat t ++ []) (flat u ++ []) 0 (w.alloc (.cells #[va, vb, .int .i64 (0 : Nat)] 232)) := ⟨va, vb, alloc_at _ _ rfl, by rw [List.append_nil]; exact ha.below hB, by rw [List.append_nil]; exact hb.below hB⟩
    refine (value_any _ t u (Nat.le_refl _) ht.ok9 hu.ok9 w.heap.size [] [] 0 _ hp (by rw [List.append_nil]; omega) (by rw [List.append_nil]; omega) (by omega)).mono ?_
    rintro e w' ⟨rfl, -, hk⟩
    exact ⟨rfl, hB.trans (hk.below (by simp) (Nat.le_refl _))⟩
  obtain ⟨A, c, rfl, -⟩ := ha
  obtain ⟨B, d, rfl, -⟩ := hb
  generalize cmpT t u = R at *
  go_enter Tryz.func177, Tryz.ntmps177
  go_wp2_with fail
  go_at_call 206
  refine (HV.out _ rfl).mono ?_
  rintro e w' ⟨rfl, hb1⟩
  go_wp2_with fail
  go_ret
  exact ⟨rfl, hb1⟩

/-- Rows of keys. -/
structure Keys (w : World) (v : Value) (ts : List (Tr Nd)) : Prop where
  vls : Vls w v (ts.map flat)
  val : ∀ t ∈ ts, Val t
  len : ∀ t ∈ ts, (flat t).length ≤ 40000
theorem Keys.below {w w' : World} {v : Value} {ts : List (Tr Nd)} (h : Keys w v ts) (hb : Below w.heap.size w w') : Keys w' v ts := ⟨h.vls.below hb, h.val, h.len⟩
end Go.Proofs.YtdgcdemihalefaaGreatDoor
