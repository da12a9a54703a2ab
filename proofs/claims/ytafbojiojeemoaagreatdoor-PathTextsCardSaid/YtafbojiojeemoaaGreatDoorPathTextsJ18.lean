/-
  Joined: PaLv, PT3, PathTexts, PWLaw, PWOpen, PathTextsCard.
-/
import Derived.Test.YtafbojiojeemoaaGreatDoorPathTextsJ17
import Derived.Test.YtafbojiojeemoaaGreatDoorPathTextsJ4
import Derived.Test.YtafbojiojeemoaaGreatDoorPathTextsJ6
import Derived.Test.YtafbojiojeemoaaGreatDoorQRef2
import Derived.Test.YtafbojiojeemoaaGreatDoorPathTextsJ14
import Derived.Test.YtafbojiojeemoaaGreatDoorTie
import Derived.Test.YtafbojiojeemoaaGreatDoorCards
import Derived.ProofKit
import Derived.LaidMore
import Derived.OpenShut
import Derived.Lay
import Derived.Carry
import Derived.SevenTiedAt
import Derived.Stop.Joined
import Derived.Lib.LaidTab
import Derived.Stop.LaidErr
import Derived.Lib.LaidU8T
import Derived.PinnedBridge
import Derived.SizedLaws
import Derived.Test.YtafbojiojeemoaaGreatDoorPathTextsJ9

/-
  Plain words for path's laws: how long texts are; what stands at two paths, one behind the other.
-/
namespace Go.Proofs.YtafbojiojeemoaaGreatDoor
open Go.RowKit Np Rw Vp Up Qp Pw

theorem stt_mem {p : List St} {s : St} (h : s ∈ p) : (stT s).length ≤ (textP p).length := by
  unfold textP
  rw [List.length_append]
  have : (stT s).length ≤ (p.flatMap stT).length := by
    induction p with
    | nil => cases h
    | cons a p ih =>
      rw [List.flatMap_cons, List.length_append]
      rcases List.mem_cons.1 h with rfl | h
      · omega
      · have := ih h; omega
  omega
theorem wrs_ge : ∀ l : List UInt8, l.length ≤ (wrs l).length
  | [] => by simp
  | c :: r => by
    have h := wrs_ge r
    have h2 : 1 ≤ (wr c).length := by
      unfold wr
      repeat' split
      all_goals simp
    have : wrs (c :: r) = wr c ++ wrs r := by simp [wrs]
    rw [this, List.length_append, List.length_cons]
    omega
theorem name_len {s : St} (h : rightS s = true) : s.name.length ≤ (stT s).length ∧ 0 ≤ s.n ∧ s.n ≤ 1000000 := by
  unfold rightS at h
  unfold stT
  split at h
  · rename_i hp
    rw [if_pos hp]
    simp only [Bool.and_eq_true, decide_eq_true_eq] at h
    obtain ⟨⟨h1, h2⟩, h3⟩ := h
    exact ⟨by rw [h1]; simp, h2, h3⟩
  · rename_i hp
    rw [if_neg hp]
    simp only [Bool.and_eq_true, decide_eq_true_eq] at h
    refine ⟨?_, by omega, by omega⟩
    split
    · simp
    · have := wrs_ge s.name
      rw [List.length_cons, quo_len]; omega
/-- A right path's steps are as path's calls want them. -/
theorem right_steps {p : List St} {n : Nat} (h : rightP p = true) (ht : (textP p).length ≤ n) : ∀ s ∈ p, s.name.length ≤ n ∧ -9223372036854775808 ≤ s.n ∧ s.n ≤ 9223372036854775807 := fun s hs => by
  have h1 := name_len (List.all_eq_true.1 (rightp_all h).1 s hs)
  have h2 := stt_mem hs
  omega
theorem stt_len {s : St} (hn : s.name.length ≤ 100) (h0 : -9223372036854775808 ≤ s.n) (h1 : s.n ≤ 9223372036854775807) : (stT s).length ≤ 700 := by
  have hi := Lib.itoa_length_le s.n h0 h1
  have hw := wrs_le s.name
  unfold stT
  split
  · simp; omega
  · split
    · simp; omega
    · rw [List.length_cons, quo_len]; omega
theorem text_len {p : List St} (h : ∀ s ∈ p, (stT s).length ≤ 700) : (textP p).length ≤ 1 + 700 * p.length := by
  have h1 : (headT p).length ≤ 1 := by
    unfold headT; split
    · simp
    · split <;> simp
  have h2 : (p.flatMap stT).length ≤ 700 * p.length := by
    clear h1
    induction p with
    | nil => simp
    | cons a p ih =>
      have h3 := h a (by simp)
      have h4 := ih (fun s hs => h s (by simp [hs]))
      rw [List.flatMap_cons, List.length_append, List.length_cons]
      omega
  unfold textP
  rw [List.length_append]; omega
theorem text_short {p : List St} (hf : fewP p = true) (hs : Stp p) : (textP p).length ≤ 21701 := by
  obtain ⟨h1, h2⟩ := fewp_len hf
  have := text_len (p := p) (fun s h => stt_len (h2 s h) (hs s h).2.1 (hs s h).2.2)
  omega
theorem kid_nmd (s : St) (nm : List UInt8) (t : Tr Nd) : kid s (nmd nm t) = kid s t := rfl
theorem getD_eq {α : Type} {l : List α} {k : Nat} (h : k < l.length) (a b : α) : l.getD k a = l.getD k b := by
  simp [List.getD, List.getElem?_eq_getElem h]
theorem got_nmd : ∀ (q : List St) (t : Tr Nd), gotP q (nmd [] t) = gotP q t ∧ errP q (nmd [] t) = errP q t
  | [], t => ⟨rfl, rfl⟩
  | s :: q, t => by
    unfold gotP
    rw [subP, subP, errP, errP, kid_nmd]
    show (match (match kid s t with | none => none | some k => subP q ((nmd [] t).ks.getD k (nmd [] t))) with | none => [] | some u => flat (nmd [] u)) = _ ∧ (if t.nd.kind ≠ stKind s then 5 else match kid s t with | none => 6 | some k => errP q ((nmd [] t).ks.getD k (nmd [] t))) = _
    cases hk : kid s t with
    | none => exact ⟨rfl, rfl⟩
    | some k =>
      have hl := (kid_lt hk).1
      simp only
      rw [show (nmd [] t).ks.getD k (nmd [] t) = t.ks.getD k t from getD_eq hl _ _]
      exact ⟨rfl, rfl⟩
/-- What stands at two paths, one behind the other. -/
theorem got_append {p q : List St} {t u : Tr Nd} (h : subP p t = some u) : gotP (p ++ q) t = gotP q (nmd [] u) ∧ errP (p ++ q) t = errP q (nmd [] u) := by
  obtain ⟨h1, h2⟩ := got_nmd q u
  rw [h1, h2]
  refine ⟨?_, ?_⟩
  · unfold gotP
    rw [sub_append, h]; rfl
  · rw [err_append, if_pos ((errP_iff p t).2 (by rw [h]; rfl)), h]
theorem got_append_bad {p q : List St} {t : Tr Nd} (h : errP p t ≠ 0) : gotP (p ++ q) t = [] ∧ errP (p ++ q) t = errP p t := by
  have h2 : errP (p ++ q) t = errP p t := by rw [err_append, if_neg h]
  exact ⟨got_none (by rw [h2]; exact h), h2⟩
/-- A path's beginning, as it lies. -/
theorem sps_take {w : World} {A : Option Addr} {c : Nat} {l : List St} (h : Sps w (.slice A l.length c) l) (k : Nat) (hk : k ≤ l.length) : Sps w (.slice A k c) (l.take k) := by
  obtain ⟨A', c', hv, hc, hcm, hz, hx⟩ := h
  injection hv with e1 _ e3
  subst e1 e3
  have hl : (l.take k).length = k := by rw [List.length_take]; omega
  refine ⟨A, c, by rw [hl], by rw [hl]; omega, hcm, hz, fun h0 => ?_⟩
  rw [hl] at h0
  obtain ⟨g, o, hA, hg, hx⟩ := hx (by omega)
  refine ⟨g, o, hA, hg, fun j x hj => hx j x ?_⟩
  rw [List.getElem?_take] at hj
  split at hj
  · exact hj
  · cases hj
/-- Two values in an array, as they lie. -/
structure LcAt (w : World) (b : Nat) (x y : Value) : Prop where
  c0 : w.cell? ⟨b, 0, none⟩ = some x
  c1 : w.cell? ⟨b, 1, none⟩ = some y
  lt : b < w.heap.size
theorem LcAt.below {w w' : World} {b : Nat} {x y : Value} (h : LcAt w b x y) (hb : Below w.heap.size w w') : LcAt w' b x y :=
  ⟨(hb.cell (p := ⟨b, 0, none⟩) h.lt).trans h.c0, (hb.cell (p := ⟨b, 1, none⟩) h.lt).trans h.c1, Nat.lt_of_lt_of_le h.lt hb.size⟩
end Go.Proofs.YtafbojiojeemoaaGreatDoor

/-
  The document's own text of a path.
-/
namespace Go.Proofs.YtafbojiojeemoaaGreatDoor
open Go.RowKit Np Rw Vp Up Qp Pw

/-- The text of a path's first steps; none of none. -/
def tkQ (p : List St) (k : Nat) : List UInt8 := if k = 0 then [] else textK p k
theorem tkQ_zero (p : List St) : tkQ p 0 = [] := rfl
theorem tkQ_one {p : List St} {s : St} (h : p[0]? = some s) : tkQ p 1 = (if s.part then [46] else []) ++ stT s := by
  unfold tkQ
  rw [if_neg (by omega), textK_succ h, textK_zero]
  cases p with
  | nil => simp at h
  | cons a r => simp at h; subst h; rfl
theorem tkQ_succ {p : List St} {k : Nat} {s : St} (hk : k ≠ 0) (h : p[k]? = some s) : tkQ p (k + 1) = tkQ p k ++ stT s := by
  unfold tkQ
  rw [if_neg (by omega), if_neg hk, textK_succ h]
theorem tkQ_len (p : List St) (k : Nat) : (tkQ p k).length ≤ (textP p).length := by
  unfold tkQ
  split
  · simp
  · exact textK_len p k
set_option maxRecDepth 100000 in
set_option maxHeartbeats 8000000 in
theorem refTextP_any (pv : Value) (p : List St) (w : World) (hp : Sps w pv p) (hr : p.all rightS = true) (hs : ∀ s ∈ p, s.name.length ≤ 100000) (hlen : (textP p).length ≤ 1000000) (hpl : p.length ≤ 100) :
    Calls Tryz.prog 28 #[pv] w fun e w' => e = .returned (.string ⟨(textP p).toArray⟩) ∧ Below w.heap.size w w' := by
  have HS := Lib.hid hs
  have HR := Lib.hid hr
  have HLEN := Lib.hid hlen
  have HXP : Hid (∀ k s, p[k]? = some s → ∃ g o c, pv = .slice (some ⟨g, o, none⟩) p.length c ∧ g < w.heap.size ∧ Sp3 w g (o + k * 3) s) := Lib.hid fun k s hs => by
    obtain ⟨g, o, c, hv, -, -, hg, hx⟩ := hp.opened (by have := (List.getElem?_eq_some_iff.1 hs).1; omega)
    exact ⟨g, o, c, hv, hg, (hx k s hs).sp⟩
  obtain ⟨P, pc, rfl, -⟩ := hp
  clear hs hlen hr
  by_cases h0 : p.length = 0
  · have hz : ((p.length : Int) == 0) = true := by simp [h0]
    have htx : textP p = [46] := by
      have : p = [] := List.eq_nil_of_length_eq_zero h0
      rw [this]; rfl
    rw [htx]
    go_enter Tryz.func28, Tryz.ntmps28
    go_wp2_with fail
    go_ret
    exact ⟨rfl, Below.refl _ _⟩
  · have hz : ((p.length : Int) == 0) = false := by simpa using h0
    have HFIN : Hid (tkQ p p.length = textP p) := Lib.hid (by unfold tkQ; rw [if_neg h0, textK_all (Nat.le_refl _)])
    generalize hpp : p.length = n at *
    have HP := Lib.hid hpp
    clear hpp
    go_enter Tryz.func28, Tryz.ntmps28
    go_wp2_with fail
    go_loopw [3, 4] (fun sv iv wr => ∃ k : Nat, k ≤ n ∧ iv = .int .i64 k ∧ sv = .string ⟨(tkQ p k).toArray⟩ ∧ Hid (Below w.heap.size w wr)) (fun _ iv _ => n - (intOf iv).toNat)
    case atStart => exact ⟨0, Nat.zero_le _, rfl, rfl, Lib.hid (Below.refl _ _)⟩
    case round =>
      obtain ⟨k, hk, rfl, rfl, HB⟩ := hrel
      by_cases hlt : k < n
      · have hkp : k < p.length := by rw [HP.out]; exact hlt
        obtain ⟨gp, op, cp, e1, hgp, hs3⟩ := HXP.out k _ (List.getElem?_eq_getElem hkp)
        injection e1 with e1 e2 e3
        subst e1 e3
        have HSP : Hid (∀ W, Below w.heap.size w W → Sp3 W gp (op + k * 3) p[k]) := Lib.hid (fun W hb => ⟨(hb.cell (p := ⟨gp, op + k * 3, none⟩) hgp).trans hs3.c0, (hb.cell (p := ⟨gp, op + k * 3 + 1, none⟩) hgp).trans hs3.c1, (hb.cell (p := ⟨gp, op + k * 3 + 2, none⟩) hgp).trans hs3.c2⟩)
        have HRK : Hid (rightS p[k] = true) := Lib.hid (List.all_eq_true.1 HR.out _ (List.getElem_mem hkp))
        have HNK := Lib.hid (HS.out _ (List.getElem_mem hkp))
        have HTK : Hid (tkQ p (k + 1) = (if k = 0 then (if p[k].part then [46] else []) else tkQ p k) ++ stT p[k]) := Lib.hid (by
          by_cases hk0 : k = 0
          · subst hk0
            rw [if_pos rfl]
            exact tkQ_one (List.getElem?_eq_getElem hkp)
          · rw [if_neg hk0]
            exact tkQ_succ hk0 (List.getElem?_eq_getElem hkp))
        have htl := Nat.le_trans (tkQ_len p k) HLEN.out
        obtain ⟨s0, s1, s2⟩ := HSP.out wr HB.out
        clear e2 hs3
        generalize p[k] = s at *
        obtain ⟨pt, nm, N⟩ := s
        cases pt with
        | true =>
          obtain ⟨M, rfl, hM⟩ : ∃ M : Nat, N = M ∧ M ≤ 1000000 := by
            have h1 := HRK.out
            unfold rightS at h1
            simp only [if_true, Bool.and_eq_true, decide_eq_true_eq] at h1
            exact ⟨N.toNat, by omega, by omega⟩
          have HD := Lib.hid (fun W => refDecimal_any M W hM)
          have hdl := dec_len hM
          have HST : Hid (stT ⟨true, nm, (M : Int)⟩ = 91 :: (Lib.decDigits M ++ [93])) := Lib.hid (by rw [stT, if_pos rfl, itoa_nat (n := (M : Int)) (by omega), Int.toNat_natCast])
          generalize Lib.decDigits M = dd at *
          by_cases hk0 : k = 0
          · subst hk0
            simp only [Nat.zero_mul, Nat.add_zero] at s0 s1 s2
            have HF : Hid (tkQ p (0 + 1) = 46 :: 91 :: (dd ++ [93])) := Lib.hid (by rw [HTK.out, if_pos rfl, HST.out]; rfl)
            clear HTK HRK HST
            go_wp2_with fail
            refine (HD.out _).mono ?_
            rintro e w2 ⟨rfl, hb2⟩
            have HB2 := Lib.hid (Below.after HB.out hb2)
            clear hb2
            go_wp2_with fail
            refine ⟨⟨0 + 1, by omega, by first | rfl | go_num, ?_, HB2⟩, by simp [intOf]; omega⟩
            rw [HF.out]
            exact congrArg Value.string (ByteArray.ext (by simp))
          · have hk1 : ((k : Int) == 0) = false := by simpa using hk0
            have HF : Hid (tkQ p (k + 1) = tkQ p k ++ 91 :: (dd ++ [93])) := Lib.hid (by rw [HTK.out, if_neg hk0, HST.out])
            clear HTK HRK HST
            generalize tkQ p k = tk at *
            go_wp2_with fail
            refine (HD.out _).mono ?_
            rintro e w2 ⟨rfl, hb2⟩
            have HB2 := Lib.hid (Below.after HB.out hb2)
            clear hb2
            go_wp2_with fail
            refine ⟨⟨k + 1, by omega, by go_num, ?_, HB2⟩, by simp [intOf]; omega⟩
            rw [HF.out]
            exact congrArg Value.string (ByteArray.ext (by simp))
        | false =>
          have HST : Hid (tkQ p (k + 1) = tkQ p k ++ stT ⟨false, nm, N⟩) := Lib.hid (by
            rw [HTK.out]
            by_cases hk0 : k = 0
            · subst hk0; simp [tkQ_zero]
            · rw [if_neg hk0])
          have HW := Lib.hid (fun W => refWordP_any ⟨nm.toArray⟩ W (by have := HNK.out; unfold maxLen; rw [mk_size]; simp only at this; omega))
          have HQ := Lib.hid (fun W => refQuote_any ⟨nm.toArray⟩ W (by have := HNK.out; rw [mk_size]; simp only at this; omega))
          have hnl : nm.length ≤ 100000 := HNK.out
          have hql : (quo nm).length ≤ 600002 := by
            have h1 := quo_len nm
            have h2 := wrs_le nm
            omega
          clear HTK HRK
          generalize tkQ p k = tk at *
          cases hw : isW nm with
          | true =>
            have HF : Hid (tkQ p (k + 1) = tk ++ 46 :: nm) := Lib.hid (by rw [HST.out, stT, if_neg (by simp), if_pos hw])
            simp only [hw] at HW
            clear hw HST HQ hql
            go_wp2_with fail
            refine (HW.out _).mono ?_
            rintro e w1 ⟨rfl, rfl⟩
            go_wp2_with fail
            refine ⟨⟨k + 1, by omega, by go_num, ?_, HB⟩, by simp [intOf]; omega⟩
            rw [HF.out]
            exact congrArg Value.string (ByteArray.ext (by simp))
          | false =>
            have HF : Hid (tkQ p (k + 1) = tk ++ 46 :: quo nm) := Lib.hid (by rw [HST.out, stT, if_neg (by simp), if_neg (by rw [hw]; simp)])
            simp only [hw] at HW
            simp only at HQ
            clear hw HST
            generalize quo nm = qn at *
            go_wp2_with fail
            refine (HW.out _).mono ?_
            rintro e w1 ⟨rfl, rfl⟩
            go_wp2_with fail
            refine (HQ.out _).mono ?_
            rintro e w2 ⟨rfl, hb2⟩
            have HB2 := Lib.hid (Below.after HB.out hb2)
            clear hb2
            go_wp2_with fail
            refine ⟨⟨k + 1, by omega, by go_num, ?_, HB2⟩, by simp [intOf]; omega⟩
            rw [HF.out]
            exact congrArg Value.string (ByteArray.ext (by simp))
      · obtain rfl : k = n := by omega
        go_wp2_with fail
        go_ret
        exact ⟨ret_list HFIN.out, HB.out⟩
end Go.Proofs.YtafbojiojeemoaaGreatDoor

/-
  The walk of the statement PathTexts: it returns true.
-/
namespace Go.Proofs.YtafbojiojeemoaaGreatDoor
open Go.RowKit Np Rw Vp Up Qp Pw

set_option maxRecDepth 100000 in
set_option maxHeartbeats 16000000 in
theorem pathTexts_any (pv : Value) (p : List St) (s : ByteArray) (w : World) (hp : Sps w pv p) (hps : Stp p)
    (hT : Pv w) : Calls Tryz.prog 7 #[pv, .string s] w fun e w' => e = .returned (.bool true) ∧ Below w.heap.size w w' := by
  have HT := Lib.hid hT
  have HAL := Lib.hid (fun (W : World) (hb : Below w.heap.size w W) => (palive_any W (HT.out.below hb)).mono fun (e : Ending) w' (h : e = .returned (.bool true) ∧ Below W.heap.size W w') => (⟨h.1, Below.after hb h.2⟩ : e = .returned (.bool true) ∧ Below w.heap.size w w'))
  have HPp := Lib.hid hp
  have HSp := Lib.hid hps
  obtain ⟨PA, pc, rfl, -⟩ := hp
  clear hps
  clear hT
  go_enter Tryz.func7, Tryz.ntmps7
  have HB0 : Hid (Below w.heap.size w w) := Lib.hid (Below.refl _ _)
  go_wp2_with fail
  refine (lawFew_any _ p _ (HPp.out.below HB0.out) HSp.out.nm).mono ?_
  rintro e wq ⟨rfl, rfl⟩
  cases hfp : fewP p with
  | false =>
    go_wp2_with fail
    refine (HAL.out _ HB0.out).mono ?_
    rintro e wa ⟨rfl, hba⟩
    go_wp2_with fail
    go_ret
    exact ⟨rfl, hba⟩
  | true =>
    by_cases hlong : 300 < s.size
    · go_wp2_with fail
      refine (HAL.out _ HB0.out).mono ?_
      rintro e wa ⟨rfl, hba⟩
      go_wp2_with fail
      go_ret
      exact ⟨rfl, hba⟩
    · have hfl := fewp_len hfp
      have HFL := Lib.hid hfl
      have hnm : ∀ s ∈ p, s.name.length ≤ maxLen := fun s hs => by have := hfl.2 s hs; unfold maxLen; omega
      have HNM := Lib.hid hnm
      have HFP := Lib.hid hfp
      have hR1 := pread_any s _ (by omega) (HT.out.below HB0.out)
      clear hfl hnm hfp
      go_wp2_with fail
      refine hR1.mono ?_
      rintro e w3 ⟨A3, n3, c3, rfl, hs3, hb3⟩
      have HX3 := Lib.hid hs3
      have HB3 := Lib.hid (Below.after HB0.out hb3)
      clear hR1 hs3 hb3
      go_wp2_with fail
      refine (refReadP_any s _ (by omega)).mono ?_
      rintro e w4 ⟨A4, n4, c4, rfl, hs4, hb4⟩
      have HY4 := Lib.hid hs4
      have HX4 := Lib.hid (HX3.out.below hb4)
      have HB4 := Lib.hid (Below.after HB3.out hb4)
      clear hs4 hb4 HX3 HB3
      generalize readP s.data.toList = R at *
      obtain ⟨y, at0, e0⟩ := R
      simp only at HX4 HY4 ⊢
      have hAA : ((at0 : Int) == (at0 : Int)) = true := by simp
      have hAB : ((at0 : Int) != (at0 : Int)) = false := by simp
      have hEA : (e0 == e0) = true := by simp
      have hEB : (e0 != e0) = false := by simp
      go_wp2_with fail
      have hS1 := refSameP_any _ _ _ _ _ HX4.out HY4.out
      rw [show decide (y = y) = true by simp] at hS1
      refine hS1.mono ?_
      rintro e w5 ⟨rfl, n5, rfl⟩
      have HB5 := Lib.hid (drewN_below HB4.out n5)
      generalize w4.drewN n5 = w5 at *
      clear hS1 HX4 HY4 HB4
      go_wp2_with fail
      refine (pright_any _ p _ (HPp.out.below HB5.out) (by have := HFL.out.1; omega) HNM.out (HT.out.below HB5.out).tabs).mono ?_
      rintro e w6 ⟨rfl, hb6⟩
      have HB6 := Lib.hid (Below.after HB5.out hb6)
      clear hb6 HB5
      go_wp2_with fail
      refine (refRightP_any _ p _ (HPp.out.below HB6.out) HNM.out).mono ?_
      rintro e w7 ⟨rfl, rfl⟩
      have hRR : (rightP p == rightP p) = true := by simp
      have hRS : (rightP p != rightP p) = false := by simp
      go_wp2_with fail
      refine (palive_any _ (HT.out.below HB6.out)).mono ?_
      rintro e w8 ⟨rfl, hb8⟩
      have HB8 := Lib.hid (Below.after HB6.out hb8)
      clear hb8 HB6
      go_wp2_with fail
      have hQ := refRightP_any _ p _ (HPp.out.below HB8.out) HNM.out
      clear hRR hRS
      cases hrp : rightP p with
      | false =>
        rw [hrp] at hQ
        refine hQ.mono ?_
        rintro e w9 ⟨rfl, rfl⟩
        clear hQ
        go_wp2_with fail
        go_ret
        exact ⟨rfl, HB8.out⟩
      | true =>
        rw [hrp] at hQ
        obtain ⟨hpa, hpl2⟩ := rightp_all hrp
        have htl := text_short HFP.out HSp.out
        have hst : ∀ s ∈ p, s.name.length ≤ 1073741824 ∧ -9223372036854775808 ≤ s.n ∧ s.n ≤ 9223372036854775807 := fun s hs => by
          have h1 := HFL.out.2 s hs
          have h2 := HSp.out s hs
          exact ⟨by omega, h2.2⟩
        have hT1 := ptext_any _ p _ (HPp.out.below HB8.out) (by have := HFL.out.1; omega) hst (by omega) (HT.out.below HB8.out).pow
        have HPA := Lib.hid hpa
        have HTL := Lib.hid htl
        clear hst htl hpa hpl2 hrp
        refine hQ.mono ?_
        rintro e w9 ⟨rfl, rfl⟩
        clear hQ
        go_wp2_with fail
        refine hT1.mono ?_
        rintro e w10 ⟨rfl, hb10⟩
        have HB10 := Lib.hid (Below.after HB8.out hb10)
        clear hT1 hb10 HB8
        go_wp2_with fail
        refine (refTextP_any _ p _ (HPp.out.below HB10.out) HPA.out (fun s hs => by have := HFL.out.2 s hs; omega) (by have := HTL.out; omega) (by have := HFL.out.1; omega)).mono ?_
        rintro e w11 ⟨rfl, hb11⟩
        have HB11 := Lib.hid (Below.after HB10.out hb11)
        clear hb11 HB10
        go_wp2_with fail
        go_ret
        exact ⟨ret_bool (by first | rfl | simp), HB11.out⟩
end Go.Proofs.YtafbojiojeemoaaGreatDoor

/-
  How a statement on paths that returns true, and leaves what lay below as it was, closes its row: the tables of powers of ten and of UTF-8, and the library's two errors lie as they are laid.
-/
namespace Go.Proofs.YtafbojiojeemoaaGreatDoor
open Go.ChangeShapes Go.WideShapes Go.ChangeAt Go.RowKit

theorem ownKn : ownKnob Tryz.prog.godebug = none := by kernel_rfl
theorem laidOut : laidOutB Tryz.prog = true := by kernel_rfl

/-- What the rows list. -/
def seatLaid : List (String × DataW Unit) := [("math/bits.deBruijn32tab", Rows.laid_math_bits_deBruijn32tab), ("math/bits.deBruijn64tab", Rows.laid_math_bits_deBruijn64tab), ("internal/strconv.uint64pow10", Rows.laid_internal_strconv_uint64pow10), ("unicode/utf8.acceptRanges", Rows.laid_unicode_utf8_acceptRanges), ("strconv.ErrRange", Rows.laid_strconv_ErrRange), ("strconv.ErrSyntax", Rows.laid_strconv_ErrSyntax), ("unicode/utf8.first", Rows.laid_unicode_utf8_first)]

theorem powData : (Rows.laid_internal_strconv_uint64pow10 : DataW Unit) = Lib.tabData .u64 Lib.pow10Tab := by kernel_rfl
theorem powTab_of_laid {W : World} (h : laidMetH Tryz.prog seatLaid W) : PowTab W := by
  rw [MakeChecks.laidMetH_plain _ _ _ (by kernel_rfl)] at h
  have h2 := laidMet.tail (laidMet.tail h)
  rw [powData] at h2
  exact Lib.tabIs_of_head powTab (by kernel_rfl : _ = some 215) Tryz.underlying215 Tryz.underlying175 (by kernel_rfl) (by kernel_rfl) h2
theorem acceptSaid : (Rows.laid_unicode_utf8_acceptRanges : DataW Unit) = Lib.acceptData := by kernel_rfl
theorem tabs_of_laid {W : World} (h : laidMetH Tryz.prog seatLaid W) : Tabs W := by
  rw [MakeChecks.laidMetH_plain _ _ _ (by kernel_rfl)] at h
  refine utf8Tabs_of_readsT (ρ := Tryz.laysValid_ren) (U8Types.of196 Tryz.laysValid) ⟨by kernel_rfl, by kernel_rfl, by kernel_rfl, by kernel_rfl, by kernel_rfl, by kernel_rfl, by kernel_rfl⟩ ?_ ?_
  · have := Lib.laidMet.reads h (.tail _ (.tail _ (.tail _ (.tail _ (.tail _ (.tail _ (.head _)))))))
    rw [show Rows.laid_unicode_utf8_first = Lib.firstData from Pinned.utf8First_eq] at this
    exact this
  · have := Lib.laidMet.reads h (.tail _ (.tail _ (.tail _ (.head _))))
    rw [acceptSaid] at this
    exact this
theorem er_of_laid {W : World} (h : laidMetH Tryz.prog seatLaid W) : Er W := by
  rw [MakeChecks.laidMetH_plain _ _ _ (by kernel_rfl)] at h
  have h2 := laidMet.tail (laidMet.tail (laidMet.tail (laidMet.tail (laidMet.tail h))))
  obtain ⟨ps, ⟨g0, t0, cs0, f0, p0, q0, hg0, ht0, hv0, hd0, _, e0⟩, _, hrows⟩ := h2
  have hg : Tryz.prog.globalNamed "strconv.ErrSyntax" = some 4 := by kernel_rfl
  obtain rfl := Option.some.inj (hg.symm.trans hg0)
  obtain rfl := Option.some.inj ((show (Tryz.prog.globals[4]?).map (·.type) = some 84 by kernel_rfl).symm.trans ht0)
  obtain ⟨f1, u, v, hc, -⟩ := iface_of_trod Tryz.underlying84 hd0
  obtain ⟨l0⟩ := cs0
  simp only at hc
  subst hc
  exact ⟨.iface u v, by simpa using World.var?_cell hg0 hv0 0, .inr ⟨_, _, rfl⟩⟩

theorem er2_of_laid {W : World} (h : laidMetH Tryz.prog seatLaid W) : ∃ ev, W.cell? ⟨5, 0, none⟩ = some ev ∧ (ev = .nilIface ∨ ∃ te pe, ev = .iface te pe) := by
  rw [MakeChecks.laidMetH_plain _ _ _ (by kernel_rfl)] at h
  have h2 := laidMet.tail (laidMet.tail (laidMet.tail (laidMet.tail h)))
  obtain ⟨ps, ⟨g0, t0, cs0, f0, p0, q0, hg0, ht0, hv0, hd0, _, e0⟩, _, hrows⟩ := h2
  have hg : Tryz.prog.globalNamed "strconv.ErrRange" = some 5 := by kernel_rfl
  obtain rfl := Option.some.inj (hg.symm.trans hg0)
  obtain rfl := Option.some.inj ((show (Tryz.prog.globals[5]?).map (·.type) = some 84 by kernel_rfl).symm.trans ht0)
  obtain ⟨f1, u, v, hc, -⟩ := iface_of_trod Tryz.underlying84 hd0
  obtain ⟨l0⟩ := cs0
  simp only at hc
  subst hc
  exact ⟨.iface u v, by simpa using World.var?_cell hg0 hv0 0, .inr ⟨_, _, rfl⟩⟩

theorem pv_of_laid {W : World} (h : laidMetH Tryz.prog seatLaid W) : Pv W := ⟨powTab_of_laid h, tabs_of_laid h, er_of_laid h, er2_of_laid h⟩
theorem laid_met (os : Os) (args : Array Value) : laidMetH Tryz.prog seatLaid ((World.laidAll Tryz.prog os seatLaid).forCall (fun _ _ => 0) ⟨#[], args, []⟩).memory := by
  rw [MakeChecks.laidMetH_plain _ _ _ (by kernel_rfl)]
  exact laidMet_laidAll _ (by kernel_rfl) (by kernel_rfl)

section
variable {H : Type} {enc : TypeId × Value → H} {P : Program} {W W' : World}
/-- Arguments read as before, where nothing below has turned. -/
theorem trodAll_below (hl : laidOutB P = true) (hb : Below W.heap.size W W') : ∀ {ts : List TypeId} {vs : List Value} {ds : List (DataW H)} {ps : List MemPlace}, (∀ t ∈ ts, P.readableRec t = true ∧ t < P.types.size) →
    DataW.TrodAll enc P W 0 (fun _ => true) true ts vs ds ps → (∀ x ∈ ps, x.block < W.heap.size) → DataW.TrodAll enc P W' 0 (fun b => decide (b < W.heap.size)) true ts vs ds ps
  | [], [], [], _, _, h, _ => h
  | t :: ts, v :: vs, d :: ds, _, ht, h, hlt => by
    obtain ⟨p, q, h1, h2, rfl⟩ := h
    exact ⟨p, q, Below.trod hl (ht t (by simp)).1 (ht t (by simp)).2 h1 hb (fun x hx => hlt x (by simp [hx])), trodAll_below hl hb (fun u hu => ht u (by simp [hu])) h2 (fun x hx => hlt x (by simp [hx])), rfl⟩
  | [], [], _ :: _, _, _, h, _ => h.elim
  | [], _ :: _, _, _, _, h, _ => h.elim
  | _ :: _, [], _, _, _, h, _ => h.elim
  | _ :: _, _ :: _, [], _, _, h, _ => h.elim
/-- The end of a statement's row. -/
theorem law_post {f : Func} {s : ChangeSpec} {args : Array Value} {ds : List (DataW H)} {before : List MemPlace} {tb : TypeId} (hl : laidOutB P = true)
    (hW : DataW.Whole enc P f.params.toList s.vars false W args.toList ds [] before) (hvars : s.vars = []) (htb : P.underlying tb = some .bool) (hres : f.resultTypes = #[tb])
    (hfn : s.fn H ds = { results := [.lit (.bool true)], args := ds }) (hread : ∀ t ∈ f.params.toList, P.readableRec t = true ∧ t < P.types.size) (hb : Below W.heap.size W W') :
    s.post enc P f false true false false W args (.bool true) W' := by
  have hlt : ∀ x ∈ before, x.block < W.heap.size := fun x hx => hW.lt x hx
  have hW2 := hW
  obtain ⟨p, q, hA, hV, rfl, _, _⟩ := hW
  refine ⟨ds, [], p ++ q, [], p, q, hW2, ?_, ?_, ?_, hb.frame _, fun h => by cases h⟩
  · rw [List.append_nil, hfn, hres]
    exact trodAll_mk1 (shut_bool htb _)
  · rw [List.append_nil, hfn]
    exact trodAll_below hl hb hread hA (fun x hx => hlt x (by simp [hx]))
  · rw [hvars] at hV ⊢
    rw [List.append_nil, hfn]
    exact hV
end


/-- A text is no longer than the form's reach. -/
theorem text_sized {H : Type} {P : Program} {ts : List TypeId} {ds : List (DataW H)} (h : (DataW.weightsEach P ts ds).all (· ≤ reachBytes) = true) {j : Nat} {t : TypeId} {s : ByteArray} (ht : ts[j]? = some t) (hd : ds[j]? = some (.lit (.string s.data.toList))) : s.size ≤ 140737488355328 := by
  have h1 := sized_string h ht hd
  rw [Np.size_toList] at h1
  have hr : reachBytes = 140737488351232 := rfl
  rw [hr] at h1
  omega
end Go.Proofs.YtafbojiojeemoaaGreatDoor

/-
  A card's arguments that are paths, pairs of paths, and pairs of values.
-/
namespace Go.Proofs.YtafbojiojeemoaaGreatDoor
open Go.ChangeShapes Go.WideShapes Go.ChangeAt Go.RowKit Go.Deep Np Pw

section
variable {H : Type} {enc : TypeId × Value → H} {w : World} {base : Nat} {sp : Nat → Bool} {held : Bool}
theorem int_range {x : Int} (h : (Lit.int .i64 x).wf = true) : -9223372036854775808 ≤ x ∧ x ≤ 9223372036854775807 := by
  simp only [Lit.wf, IntKind.min, IntKind.max, IntKind.signed, IntKind.bits, Bool.and_eq_true, decide_eq_true_eq, if_true] at h
  omega
theorem cells_step : Tryz.prog.cellsOf 74 = 3 := by kernel_rfl
theorem cells_path : Tryz.prog.cellsOf 45 = 1 := by kernel_rfl
theorem cells_value : Tryz.prog.cellsOf 24 = 1 := by kernel_rfl
def StQ (s : St) : Prop := s.name.length ≤ maxLen ∧ -9223372036854775808 ≤ s.n ∧ s.n ≤ 9223372036854775807
set_option maxRecDepth 100000 in
theorem rd_step : ∀ n cs (d : DataW H × List MemPlace), DataW.trod enc Tryz.prog w base sp held n 74 cs = some d → ∃ y : St, cs = spc y ∧ StQ y := by
  intro fuel l d hf
  obtain ⟨xs, n, -, -, hl, hx, hg⟩ := DataW.trod_struct Tryz.underlying74 hf
  rw [cells_step] at hl
  have c3 : Tryz.prog.cellsOf 3 = 1 := by kernel_rfl
  have c9 : Tryz.prog.cellsOf 9 = 1 := by kernel_rfl
  have c4 : Tryz.prog.cellsOf 4 = 1 := by kernel_rfl
  have at' : ∀ i, (h : i < xs.length) → xs[i]? = some (xs[i]'h) := fun i h => List.getElem?_eq_getElem h
  have hx3 : xs.length = 3 := hx
  match l, hl with
  | [v0, v1, v2], _ =>
    have g0 := (hg 0 _ rfl).trans (at' 0 (by omega))
    have g1 := (hg 1 _ rfl).trans (at' 1 (by omega))
    have g2 := (hg 2 _ rfl).trans (at' 2 (by omega))
    simp only [List.getElem_toArray, List.getElem_cons_zero, List.getElem_cons_succ, c3, c9, c4] at g0 g1 g2
    obtain ⟨b, e0, -⟩ := DataW.trod_bool Tryz.underlying4 g0
    obtain ⟨s, e1, -, hs⟩ := DataW.trod_string Tryz.underlying9 g1
    obtain ⟨x, e2, -, hxw⟩ := DataW.trod_int Tryz.underlying3 g2
    simp at e0 e1 e2
    subst e0 e1 e2
    exact ⟨⟨b, s.data.toList, x⟩, rfl, by simpa using hs, int_range hxw⟩
set_option maxRecDepth 100000 in
theorem path_of {fuel : Nat} {v : Value} {x : DataW H × List MemPlace} (h : DataW.trod enc Tryz.prog w base sp held fuel 45 [v] = some x) : ∃ p : List St, Sps w v p ∧ Stp p := by
  obtain ⟨l, h1, h2⟩ := open_rows (Q := fun (y : St) _ => StQ y) Tryz.underlying45 cells_step (by decide) spc_len (fun n cs d h => rd_step n cs d h) h
  refine ⟨l, h1, fun s hs => ?_⟩
  rcases h2 with ⟨-, rfl⟩ | ⟨ds, sp', -, -, h3⟩
  · cases hs
  · obtain ⟨i, hi, rfl⟩ := List.getElem_of_mem hs
    obtain ⟨d, -, hq⟩ := h3 i _ (List.getElem?_eq_getElem hi)
    exact hq
set_option maxRecDepth 100000 in
/-- A path. -/
theorem open_path {r : Reach} {b0 : Nat} {v : Value} {d : DataW H} {ps : List MemPlace} (hv : Value.okWide Tryz.prog w r b0 45 v) (h : DataW.Trod enc Tryz.prog w base sp held 45 v d ps) : ∃ p : List St, Sps w v p ∧ Stp p := by
  obtain ⟨a, len, cap, rfl⟩ := okWide_slice Tryz.underlying45 hv
  obtain ⟨fuel, hf⟩ := h
  exact path_of hf
end
end Go.Proofs.YtafbojiojeemoaaGreatDoor

/-
  The statement PathTexts holds: called with any path and any text, whatever lies in memory, it returns true, and each argument reads as it read before. Conditions: the listed variables of the library (two tables of bits, one of powers of ten, two of UTF-8, strconv's two errors) read as the program's text lays them (the tie is given).
-/
namespace Go.Proofs.YtafbojiojeemoaaGreatDoor
open Go.ChangeShapes Go.WideShapes Go.ChangeAt Go.RowKit Go.ChangeMaps Pw

set_option maxRecDepth 100000 in
theorem pathTexts_lifted (os : Os) (started : os.Started) (H : Type) (enc : TypeId × Value → H) :
    ReturnsInHanded {} Tryz.checked os 7 .any (fun w args => (Rows.pathTextsSpec.pre enc Tryz.prog Tryz.f7 [] false w args ∧ laidMetH Tryz.prog seatLaid w) ∧ sizedMet enc Tryz.prog Tryz.f7 (OpenSpec.ofChange Rows.pathTextsSpec) false w args)
      (Rows.pathTextsSpec.post enc Tryz.prog Tryz.f7 false true false false) := by
  refine returnsInHanded_of_change_and (C := Tryz.checked) (X := fun w _ => laidMetH Tryz.prog seatLaid w) (fun _ _ _ hh h => h.of_heap hh) ownKn started (by kernel_rfl) Tryz.func7
    (ChangeSpec.witness_shaped (enc := enc) (C := Tryz.checked) (os := os) (X := fun w _ => laidMetH Tryz.prog seatLaid w) false (World.laidAll Tryz.prog os seatLaid)
      #[.slice none 0 0, .string ⟨#[]⟩] 8 (World.laidAll_os _ _ _)
      (World.shaped_of_ZipB (by kernel_rfl) (by kernel_rfl)) (by kernel_rfl) (by kernel_rfl) (by kernel_rfl) (laid_met os _)) ?_
  intro W base args ds gs before hval0 hW _ hwt0 hL _
  have hval : ∀ (j : Nat) t v, Tryz.f7.params[j]? = some t → args[j]? = some v → Value.okWide Tryz.prog W .any base t v := hval0
  have hW' := hW
  obtain ⟨p, q, hA0, hV, rfl, _, _⟩ := hW
  have hA : DataW.TrodAll enc Tryz.prog W 0 (fun _ => true) true Tryz.f7.params.toList args.toList ds p := hA0
  have hwt : (DataW.weightsEach Tryz.prog (Tryz.f7.params.toList ++ Rows.pathTextsSpec.plain.varTypes Tryz.prog) (ds ++ gs)).all (· ≤ reachBytes) = true := hwt0
  rw [Tryz.params7] at hA hval
  obtain ⟨v0, v1, d0, d1, p0, p1, rfl, rfl, rfl, h0, h1⟩ := trodAll_two hA
  obtain ⟨rfl, rfl⟩ := trodVars_none hV
  obtain ⟨p0, hp0, hs0⟩ := open_path (base := 0) (sp := fun _ => true) (held := true) (hval 0 _ v0 rfl rfl) h0
  obtain ⟨t1, rfl, -, -, ht1⟩ := open_string Tryz.underlying9 (hval 1 _ v1 rfl rfl) h1
  refine (pathTexts_any v0 p0 t1 W hp0 hs0 (pv_of_laid hL)).mono fun e W' ⟨he, hb⟩ => ?_
  subst he
  exact ⟨_, rfl, law_post (tb := 4) laidOut hW' rfl Tryz.underlying4 (by kernel_rfl) rfl (by
    rw [Tryz.params7]
    intro t ht
    have hall : ([45, 9].all fun t => Tryz.prog.readableRec t && decide (t < Tryz.prog.types.size)) = true := by kernel_rfl
    obtain ⟨h1, h2⟩ := Bool.and_eq_true_iff.1 (List.all_eq_true.1 hall t ht)
    exact ⟨h1, of_decide_eq_true h2⟩) hb⟩

set_option maxHeartbeats 8000000 in
theorem pathTexts_joined : joinedFacts Tryz.prog 7 Tryz.f7 Rows.pathTextsSpec Rows.pathTextsRow = true := by
  simp only [joinedFacts, Bool.and_eq_true]
  repeat' apply And.intro
  all_goals as_aux_lemma => kernel_rfl
theorem pathTexts_holds : Rows.PathTextsSaid :=
  OpenClaim.holds_of_wide 7 Tryz.f7 rfl rfl rfl rfl rfl rfl rfl ⟨rfl, rfl, rfl, rfl, rfl⟩ rfl rfl rfl rfl rfl (by kernel_rfl) Tryz.func7 pathTexts_joined
    (of_decide_eq_true (by kernel_rfl)) (by unfold Func.isWrapper; first | (rw [if_pos (by decide +kernel)]; kernel_rfl) | (rw [if_neg (by decide +kernel)]; exact ⟨rfl, rfl⟩))
    (fun os started H enc _ => pathTexts_lifted os started H enc)

theorem pathTexts_card : Rows.PathTextsCardSaid :=
  Claim7.holds_tied_plain_at .later [] Rows.pathTextsCard.laidKinds true Rows.pathTextsCard.stood.harness Rows.pathTextsCard.stood.looks
    pathTexts_holds (fun _ h => by cases h) (by kernel_rfl) (fun _ h => by cases h) pathTexts_row_tie rfl ⟨rfl, rfl⟩ (by kernel_rfl) rfl
    (fun f fn hf hfn => by
      obtain rfl : f = 7 := Option.some.inj ((show Tryz.prog.funcNamed "loupe/loupelaw06.PathTexts" = some 7 by kernel_rfl).symm.trans hf) |>.symm
      obtain rfl : fn = Tryz.f7 := (Option.some.inj (Tryz.func7.symm.trans hfn)).symm
      exact ⟨by kernel_rfl, fun j t ht => by
        rw [Tryz.params7] at ht
        have hm : t ∈ [45, 9] := by simpa using Array.mem_of_getElem? ht
        have hall : ([45, 9].all fun u => !Tryz.prog.wantsStandIn u) = true := by kernel_rfl
        exact (show Tryz.prog.wantsStandIn t = false by simpa using List.all_eq_true.1 hall t hm)⟩)
    (by kernel_rfl)
#print axioms pathTexts_card
end Go.Proofs.YtafbojiojeemoaaGreatDoor
