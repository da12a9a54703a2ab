/-
  Joined: RefW2, TcN, TcT.
-/
import Derived.Test.YtafbojiojeemoaaGreatDoorMem
import Derived.Outline
import Derived.Test.YtafbojiojeemoaaGreatDoorTextCutJ14
import Derived.Test.YtafbojiojeemoaaGreatDoorTextCutJ11

/-
  What the document's own answers are: Same, Texts, Lists; the library's Equal and val's Same.
-/
namespace Go.Proofs.YtafbojiojeemoaaGreatDoor
open Go.RowKit Np

theorem take_eq_succ {α : Type} {a b : List α} {k : Nat} {x y : α} (h : a.take k = b.take k) (hx : a[k]? = some x) (hy : b[k]? = some y) (he : x = y) : a.take (k + 1) = b.take (k + 1) := by
  rw [List.take_add_one, List.take_add_one, h, hx, hy, he]
theorem ne_of_at {α : Type} {a b : List α} {k : Nat} {x y : α} (hx : a[k]? = some x) (hy : b[k]? = some y) (he : x ≠ y) : a ≠ b := by
  rintro rfl
  rw [hx] at hy
  exact he (Option.some.inj hy)
theorem eq_of_take {α : Type} {a b : List α} {k : Nat} (h : a.take k = b.take k) (ha : a.length ≤ k) (hb : b.length ≤ k) : a = b := by
  rwa [List.take_of_length_le ha, List.take_of_length_le hb] at h

set_option maxHeartbeats 400000 in
theorem refSame_quiet (va vb : Value) (la lb : List Nd) (w : World) (ha : Nds w va la) (hb : Nds w vb lb) :
    Calls Tryz.prog 11 #[va, vb] w fun e w' => e = .returned (.bool (decide (la = lb))) ∧ ∃ n, w' = w.drewN n := by
  have hB : ∃ n, w = w.drewN n := ⟨0, rfl⟩
  by_cases hl : la.length = lb.length
  · rcases Nat.eq_zero_or_pos la.length with h0 | h0
    · have e1 := List.eq_nil_of_length_eq_zero h0
      have e2 := List.eq_nil_of_length_eq_zero (hl ▸ h0)
      subst e1 e2
      obtain ⟨A, c, rfl, -⟩ := ha
      obtain ⟨B, d, rfl, -⟩ := hb
      clear hl h0
      simp only [List.length_nil]
      go_enter Tryz.func11, Tryz.ntmps11
      go_wp2
      go_loopw [5] (fun i wr => i = .int .i64 0 ∧ wr = w) (fun _ _ => 0)
      case atStart => exact ⟨rfl, rfl⟩
      case round =>
        obtain ⟨rfl, rfl⟩ := hrel
        go_wp2
        go_ret
        exact ⟨ret_bool rfl, hB⟩
    · have hlen := ha.len
      obtain ⟨g, o, c, rfl, hc, hcm, hg, hx⟩ := ha.opened h0
      obtain ⟨g2, o2, c2, rfl, hc2, hcm2, hg2, hx2⟩ := hb.opened (hl ▸ h0)
      rw [← hl]
      have HX := Lib.hid hx
      have HX2 := Lib.hid hx2
      have HL := Lib.hid hl
      clear hx hx2 hl
      generalize hn : la.length = n at *
      have HN := Lib.hid hn; clear hn
      unfold maxLen at hlen
      have hneq := neq_nd
      go_enter Tryz.func11, Tryz.ntmps11
      go_wp2
      go_loopw [5] (fun i wr => ∃ k : Nat, k ≤ n ∧ i = .int .i64 k ∧ (∃ m, wr = w.drewN m) ∧ la.take k = lb.take k) (fun i _ => n - (intOf i).toNat)
      case atStart => exact ⟨0, Nat.zero_le _, rfl, ⟨0, rfl⟩, rfl⟩
      case round =>
        obtain ⟨k, hk, rfl, hq, ht⟩ := hrel
        have HQ := Lib.hid hq; clear hq
        have HT := Lib.hid ht; clear ht
        by_cases hlt : k < n
        · obtain ⟨a, ha⟩ : ∃ a, la[k]? = some a := ⟨_, List.getElem?_eq_getElem (by rw [HN.out]; exact hlt)⟩
          obtain ⟨b, hb'⟩ : ∃ b, lb[k]? = some b := ⟨_, List.getElem?_eq_getElem (by rw [← HL.out]; exact hlt)⟩
          obtain ⟨a0, a1, a2, a3, a4, a5⟩ := (HX.out k a ha).nd.quiet HQ.out
          obtain ⟨b0, b1, b2, b3, b4, b5⟩ := (HX2.out k b hb').nd.quiet HQ.out
          have HA := Lib.hid ha
          have HB := Lib.hid hb'
          clear ha hb'
          by_cases he : a = b
          · have HE : Hid (la.take (k + 1) = lb.take (k + 1)) := Lib.hid (take_eq_succ HT.out HA.out HB.out he)
            have hd : decide (a = b) = true := by simp [he]
            clear he
            go_wp2
            go_quiet (fail)
            go_wp2
            go_roundw
            case rel => exact ⟨k + 1, by omega, by go_num, quiet_more HQ.out _, HE.out⟩
            case measure => simp [intOf]; omega
          · have HE : Hid (la ≠ lb) := Lib.hid (ne_of_at HA.out HB.out he)
            have hd : decide (a = b) = false := by simp [he]
            clear he
            go_wp2
            go_quiet (fail)
            go_wp2
            go_ret
            exact ⟨ret_bool (by simp [HE.out]), quiet_more HQ.out _⟩
        · have HE : Hid (la = lb) := Lib.hid (eq_of_take HT.out (by rw [HN.out]; omega) (by rw [← HL.out]; omega))
          go_wp2
          go_ret
          exact ⟨ret_bool (by simp [HE.out]), HQ.out⟩
  · obtain ⟨A, c, rfl, -⟩ := ha
    obtain ⟨B, d, rfl, -⟩ := hb
    have HE : Hid (la ≠ lb) := Lib.hid (fun h => hl (by rw [h]))
    have hz : ((la.length : Int) == lb.length) = false := by simp; omega
    have hz2 : ((la.length : Int) != lb.length) = true := by simp; omega
    clear hl
    go_enter Tryz.func11, Tryz.ntmps11
    go_wp2
    go_ret
    exact ⟨ret_bool (by simp [HE.out]), hB⟩
theorem refSame_any (va vb : Value) (la lb : List Nd) (w : World) (ha : Nds w va la) (hb : Nds w vb lb) :
    Calls Tryz.prog 11 #[va, vb] w fun e w' => e = .returned (.bool (decide (la = lb))) ∧ Below w.heap.size w w' :=
  (refSame_quiet va vb la lb w ha hb).mono fun _ _ ⟨he, hw⟩ => ⟨he, below_quiet hw⟩

end Go.Proofs.YtafbojiojeemoaaGreatDoor

/-
  Plain words: a printed number that is cut off is read as a number, or as none; it is never too large. No program stands here.
-/
namespace Go.Proofs.YtafbojiojeemoaaGreatDoor
namespace Np
open Go.RowKit

theorem read_bad {l : List UInt8} (h : (scanF l).2.2 = false) : (readF l).2.2 ≠ 2 := by
  unfold readF
  rw [if_pos h]
  exact (by decide : ¬ (1 : Int) = 2)
/-- A text that ends behind its point, or behind its e, is none. -/
theorem scan_bad {t : Txt} (w : t.W = [48] ∨ (∃ c r, t.W = c :: r ∧ c ≠ 48)) (wf : figs t.W = true) (hn : t.dot = true ∧ t.P = [] ∧ t.ex = false ∨ t.dot = false ∧ t.ex = true ∧ t.D = []) : (scanF t.text).2.2 = false := by
  have hWne : t.W ≠ [] := by rcases w with e | ⟨c, r, e, _⟩ <;> rw [e] <;> simp
  have hexp : ∀ c, t.exp.head? = some c → c = 101 := by
    intro c hc; unfold Txt.exp at hc; split at hc
    · simpa using hc.symm
    · cases hc
  have hrest : ∀ c, (t.point ++ t.exp).head? = some c → c = 46 ∨ c = 101 := by
    intro c hc
    unfold Txt.point at hc
    split at hc
    · left; simpa using hc.symm
    · right; exact hexp c (by simpa using hc)
  obtain ⟨a, r, hW⟩ : ∃ a r, t.W = a :: r := by cases hw : t.W with | nil => exact absurd hw hWne | cons a r => exact ⟨a, r, rfl⟩
  have ha : fig a = true := fig_head wf (by rw [hW]; rfl)
  have d0 : t.text.drop 0 = t.sign ++ (t.W ++ (t.point ++ t.exp)) := rfl
  have s45 : stands t.text 0 45 = t.g := by
    rw [stands_drop d0]
    unfold Txt.sign
    cases t.g
    · rw [hW]; simp; intro e; subst e; cases ha
    · simp
  have i0 : i0F t.text = t.sign.length := by
    unfold i0F; rw [s45]; unfold Txt.sign; cases t.g <;> simp
  have d1 : t.text.drop (i0F t.text) = t.W ++ (t.point ++ t.exp) := by
    rw [i0]; have := drop_more (i := 0) d0; rwa [Nat.zero_add] at this
  have r1 : run t.text (i0F t.text) = t.W := by
    rw [run_drop d1]
    refine takeWhile_figs wf (fun c hc => ?_)
    rcases hrest c hc with e | e <;> rw [e] <;> decide
  have b1 : bad1 t.text = false := by rw [bad1_run, r1, hW]; rfl
  have hw1 : i1F t.text = i0F t.text + t.W.length := by
    cases h48 : stands t.text (i0F t.text) 48
    · obtain ⟨_, e2, e3⟩ := at1_no h48
      rw [r1] at e2 e3
      exact e3
    · obtain ⟨_, e2, e3⟩ := at1_yes h48
      rw [stands_drop d1, hW] at h48
      have ha48 : a = 48 := by simpa using h48
      rcases w with e | ⟨c, r', e, hc⟩
      · rw [e]
        exact e3
      · rw [hW] at e; cases e; exact absurd ha48 hc
  have d2 : t.text.drop (i1F t.text) = t.point ++ t.exp := by rw [hw1]; exact drop_more d1
  have s46 : stands t.text (i1F t.text) 46 = t.dot := by
    rw [stands_drop d2]
    unfold Txt.point
    cases hd : t.dot
    · simp
      intro e
      have := hexp _ e
      cases this
    · simp
  rcases hn with ⟨hd, hP, he⟩ | ⟨hd, he, hD⟩
  · obtain ⟨e1, -, -⟩ := at2_yes (s46.trans hd)
    have d2' : t.text.drop (i1F t.text + 1) = [] := by
      have : t.text.drop (i1F t.text) = [46] ++ [] := by rw [d2]; unfold Txt.point Txt.exp; rw [hd, he, hP]; rfl
      exact drop_more this
    have b2 : bad2 t.text = true := by rw [e1, run_drop d2']; rfl
    rw [scanF_2 b1 b2]
  · obtain ⟨e1, e2, e3⟩ := at2_no (s46.trans hd)
    have d3 : t.text.drop (i3F t.text) = t.exp := by
      rw [e3, d2]; unfold Txt.point; rw [hd]; rfl
    have s101 : stands t.text (i3F t.text) 101 = true := by
      rw [stands_drop d3]
      unfold Txt.exp
      rw [he]; simp
    have hx : exF t.text = true := by unfold exF; rw [s101]; rfl
    have d4 : t.text.drop (i3F t.text + 1) = (if t.neg = true then [45] else []) := by
      have : t.text.drop (i3F t.text) = [101] ++ (if t.neg = true then [45] else []) := by rw [d3]; unfold Txt.exp; rw [he, hD, List.append_nil]; rfl
      exact drop_more this
    have s43 : stands t.text (i3F t.text + 1) 43 = false := by
      rw [stands_drop d4]
      cases t.neg <;> rfl
    have s45' : stands t.text (i3F t.text + 1) 45 = t.neg := by
      rw [stands_drop d4]
      cases t.neg <;> rfl
    obtain ⟨-, f2⟩ := at5_rest hx s43
    rw [s45'] at f2
    have d5 : t.text.drop (i5F t.text) = [] := by
      rw [f2]
      cases hn : t.neg
      · rw [hn] at d4; simpa using d4
      · rw [hn] at d4
        have := drop_more (A := [45]) (B := []) d4
        simpa using this
    have b3 : bad3 t.text = true := by
      rw [(at3_yes hx).1, run_drop d5]; rfl
    rw [scanF_3 b1 e1 b3]
theorem mk_few (g : Bool) (f : List UInt8) (e : Int) (hf : figs f = true) (h100 : (Lib.trimLeftB f 48).length ≤ 100) (hl : f.length ≤ 1000) (h1 : -1000 ≤ e) (h2 : e + (Lib.trimLeftB f 48).length ≤ 1000) : (mk g f e).2 = 0 := by
  cases h : (Lib.trimLeftB f 48).isEmpty with
  | true => rw [mk_nought g f e hf h]
  | false =>
    have hne : Lib.trimLeftB f 48 ≠ [] := by intro e; rw [e] at h; cases h
    obtain ⟨a, b⟩ := trim_len f
    have he := mkN_e g f e (by omega) (by omega) (by omega)
    rw [mk_ok g f e hf h]
    rw [mkN_right g f e hf hne, he]
    simp only [Bool.and_eq_true, decide_eq_true_eq]
    refine ⟨⟨by omega, by omega⟩, by omega⟩
theorem trim_le48 (l : List UInt8) : (Lib.trimLeftB l 48).length ≤ l.length := (List.dropWhile_suffix _).length_le
theorem read_few {t : Txt} (h : t.Fine) (hD : t.D.length ≤ 4) (h100 : (Lib.trimLeftB (t.W ++ t.P) 48).length ≤ 100) (hl : (t.W ++ t.P).length ≤ 1000) (hP : t.P.length ≤ 20)
    (hn : t.neg = true → worth t.D ≤ 1000 ∧ t.P = []) (hp : t.neg = false → worth t.D + (t.W ++ t.P).length ≤ 1000) : (readF t.text).2.2 ≠ 2 := by
  have h6 : ¬ 6 < (Lib.trimLeftB t.D 48).length := by have := trim_le48 t.D; omega
  rw [read_text h h6]
  have hf : figs (t.W ++ t.P) = true := by rw [figs_append, h.wf, h.pf]; rfl
  have ht := trim_le48 (t.W ++ t.P)
  rw [worth_trim]
  show (mk _ _ _).2 ≠ 2
  rw [mk_few t.g (t.W ++ t.P) _ hf h100 hl]
  · decide
  · cases hg : t.neg
    · simp only [Bool.false_eq_true, if_false]; omega
    · obtain ⟨a, b⟩ := hn hg
      simp only [if_true]
      rw [b]
      simp only [List.length_nil]
      omega
  · cases hg : t.neg
    · have := hp hg
      simp only [Bool.false_eq_true, if_false]; omega
    · simp only [if_true]; omega
theorem worth_more : ∀ (b a : List UInt8), worth a ≤ worth (a ++ b)
  | [], a => by rw [List.append_nil]; exact Nat.le_refl _
  | c :: b, a => by
    have h1 := worth_more b (a ++ [c])
    rw [worth_snoc, List.append_assoc] at h1
    have : worth a ≤ 10 * worth a := by omega
    exact Nat.le_trans (by omega) h1
theorem worth_take (l : List UInt8) (k : Nat) : worth (l.take k) ≤ worth l := by
  have := worth_more (l.drop k) (l.take k)
  rwa [List.take_append_drop] at this
theorem trim_noughts : ∀ (j k : Nat) (f : List UInt8), (Lib.trimLeftB ((noughts j ++ f).take k) 48).length ≤ f.length
  | 0, k, f => by
    have h1 := trim_le48 (f.take k)
    have h2 := List.length_take_le' k f
    rw [show noughts 0 ++ f = f from rfl]
    omega
  | j + 1, 0, f => by simp [Lib.trimLeftB]
  | j + 1, k + 1, f => by
    rw [show noughts (j + 1) ++ f = 48 :: (noughts j ++ f) by simp [noughts, List.replicate_succ], List.take_succ_cons]
    rw [show Lib.trimLeftB (48 :: (noughts j ++ f).take k) 48 = Lib.trimLeftB ((noughts j ++ f).take k) 48 by simp [Lib.trimLeftB]]
    exact trim_noughts j k f
/-- A text with bounds that stays a number, or none, when it is cut off. -/
structure Txt.Low (x : Txt) : Prop where
  fine : x.Fine
  wl : x.W.length ≤ 100
  pl : x.P.length ≤ 20
  tr : ∀ k, (Lib.trimLeftB (x.W ++ x.P.take k) 48).length ≤ 100
  dl : x.D.length ≤ 4
  one : x.ex = true → x.dot = false
  dn : x.neg = true → worth x.D ≤ 1000
  dp : x.neg = false → worth x.D + x.W.length ≤ 1000 ∧ (x.dot = true → worth x.D = 0)
theorem cut_text {x : Txt} (h : x.Low) (m : Nat) : (readF (x.text.take m)).2.2 ≠ 2 := by
  obtain ⟨hx, hwl, hpl, htr, hdl, hone, hdn, hdp⟩ := h
  obtain ⟨g, W, dot, P, ex, neg, D⟩ := x
  obtain ⟨w, wf, p, p0, pf, d, df, d0⟩ := hx
  simp only at *
  have htxt : (⟨g, W, dot, P, ex, neg, D⟩ : Txt).text = (if g = true then [45] else []) ++ (W ++ ((if dot = true then 46 :: P else []) ++ (if ex = true then 101 :: ((if neg = true then [45] else []) ++ D) else []))) := rfl
  rw [htxt]
  have hsg : (if g = true then [(45 : UInt8)] else []).length ≤ 1 := by split <;> simp
  rcases Nat.lt_or_ge (if g = true then [(45 : UInt8)] else []).length m with hm | hm
  · obtain ⟨k, rfl⟩ : ∃ k, m = (if g = true then [(45 : UInt8)] else []).length + (k + 1) := ⟨m - (if g = true then [(45 : UInt8)] else []).length - 1, by omega⟩
    rw [List.take_length_add_append]
    have htrW : (Lib.trimLeftB W 48).length ≤ 100 := by have := trim_le48 W; omega
    rcases Nat.lt_or_ge k W.length with hk | hk
    · -- within the figures ahead of the point
      rw [List.take_append_of_le_length (by omega)]
      have hx2 : (⟨g, W.take (k + 1), false, [], false, false, []⟩ : Txt).Fine := ⟨by
        rcases w with e | ⟨c, r, e, hc⟩
        · left; rw [e]; simp
        · right; exact ⟨c, r.take k, by rw [e]; simp, hc⟩, figs_take wf _, (fun h => by cases h), fun _ => rfl, rfl, (fun h => by cases h), rfl, fun _ => ⟨rfl, rfl⟩⟩
      have hlen : (W.take (k + 1)).length ≤ 100 := by rw [List.length_take]; omega
      have := read_few hx2 (by simp) (by simp only [List.append_nil]; have := trim_le48 (W.take (k + 1)); omega) (by simp only [List.append_nil]; omega) (by simp) (fun h => by cases h) (fun _ => by simp only [List.append_nil, worth, List.foldl_nil]; omega)
      have e : (⟨g, W.take (k + 1), false, [], false, false, []⟩ : Txt).text = (if g = true then [45] else []) ++ W.take (k + 1) := by simp [Txt.text, Txt.sign, Txt.point, Txt.exp]
      rwa [e] at this
    · obtain ⟨j, rfl⟩ : ∃ j, k = W.length + j := ⟨k - W.length, by omega⟩
      rw [Nat.add_assoc, List.take_length_add_append]
      cases hdot : dot with
      | true =>
        have hex : ex = false := by
          cases ex with
          | false => rfl
          | true => have := hone rfl; rw [hdot] at this; cases this
        subst hdot hex
        simp only [if_true, Bool.false_eq_true, if_false, List.append_nil, List.take_succ_cons]
        have e : (⟨g, W, true, P.take j, false, false, []⟩ : Txt).text = (if g = true then [45] else []) ++ (W ++ 46 :: P.take j) := by simp [Txt.text, Txt.sign, Txt.point, Txt.exp]
        rw [← e]
        by_cases hP : P.take j = []
        · exact read_bad (scan_bad w wf (.inl ⟨rfl, hP, rfl⟩))
        · have hx2 : (⟨g, W, true, P.take j, false, false, []⟩ : Txt).Fine := ⟨w, wf, fun _ => hP, (fun h => by cases h), figs_take pf _, (fun h => by cases h), rfl, fun _ => ⟨rfl, rfl⟩⟩
          have hl : (P.take j).length ≤ 20 := by rw [List.length_take]; omega
          exact read_few hx2 (by simp) (htr j) (by simp only [List.length_append]; omega) hl (fun h => by cases h) (fun _ => by simp only [List.length_append, worth, List.foldl_nil]; omega)
      | false =>
        subst hdot
        have hP0 := p0 rfl
        subst hP0
        simp only [Bool.false_eq_true, if_false, List.nil_append]
        cases hex : ex with
        | false =>
          subst hex
          obtain ⟨hD0, hn0⟩ := d0 rfl
          subst hD0 hn0
          simp only [Bool.false_eq_true, if_false, List.take_nil, List.append_nil]
          have hx2 : (⟨g, W, false, [], false, false, []⟩ : Txt).Fine := ⟨w, wf, (fun h => by cases h), fun _ => rfl, rfl, (fun h => by cases h), rfl, fun _ => ⟨rfl, rfl⟩⟩
          have := read_few hx2 (by simp) (by simp only [List.append_nil]; exact htrW) (by simp only [List.append_nil]; omega) (by simp) (fun h => by cases h) (fun _ => by simp only [List.append_nil, worth, List.foldl_nil]; omega)
          have e : (⟨g, W, false, [], false, false, []⟩ : Txt).text = (if g = true then [45] else []) ++ W := by simp [Txt.text, Txt.sign, Txt.point, Txt.exp]
          rwa [e] at this
        | true =>
          subst hex
          simp only [if_true, List.take_succ_cons]
          have hres : ∀ i, (readF ((⟨g, W, false, [], true, neg, D.take i⟩ : Txt).text)).2.2 ≠ 2 := by
            intro i
            by_cases hD : D.take i = []
            · exact read_bad (scan_bad w wf (.inr ⟨rfl, rfl, hD⟩))
            · have hx2 : (⟨g, W, false, [], true, neg, D.take i⟩ : Txt).Fine := ⟨w, wf, (fun h => by cases h), fun _ => rfl, rfl, fun _ => hD, figs_take df _, (fun h => by cases h)⟩
              have hwt := worth_take D i
              refine read_few hx2 (by simp only [List.length_take]; omega) (by simp only [List.append_nil]; exact htrW) (by simp only [List.append_nil]; omega) (by simp) (fun h => ⟨?_, rfl⟩) (fun h => ?_)
              · have := hdn h; simp only; omega
              · have := (hdp h).1; simp only [List.append_nil]; omega
          cases neg with
          | false =>
            have e : (⟨g, W, false, [], true, false, D.take j⟩ : Txt).text = (if g = true then [45] else []) ++ (W ++ 101 :: D.take j) := by simp [Txt.text, Txt.sign, Txt.point, Txt.exp]
            have := hres j
            rw [e] at this
            simpa using this
          | true =>
            cases j with
            | zero =>
              have e : (⟨g, W, false, [], true, false, []⟩ : Txt).text = (if g = true then [45] else []) ++ (W ++ [101]) := by simp [Txt.text, Txt.sign, Txt.point, Txt.exp]
              have := read_bad (scan_bad (t := ⟨g, W, false, [], true, false, []⟩) w wf (.inr ⟨rfl, rfl, rfl⟩))
              rw [e] at this
              simpa using this
            | succ i =>
              have e : (⟨g, W, false, [], true, true, D.take i⟩ : Txt).text = (if g = true then [45] else []) ++ (W ++ 101 :: 45 :: D.take i) := by simp [Txt.text, Txt.sign, Txt.point, Txt.exp]
              have := hres i
              rw [e] at this
              simpa using this
  · rw [List.take_append_of_le_length hm]
    cases g with
    | false => simp only [Bool.false_eq_true, if_false, List.take_nil]; decide
    | true =>
      simp only [if_true, List.length_singleton] at hm ⊢
      have : m = 0 ∨ m = 1 := by omega
      rcases this with rfl | rfl <;> decide
/-- How a right number is printed. -/
theorem print_txt {n : Nd} (hr : right n = true) (hs : n.s ≠ []) : ∃ x : Txt, x.Low ∧ printN n.s n.neg n.e = x.text := by
  obtain ⟨_, _, _, ⟨h4, _⟩ | ⟨_, hf, he1, he2⟩⟩ := (right_iff n).1 hr
  · exact absurd h4 hs
  obtain ⟨k, m, nm, f, g, e⟩ := n
  simp only at hs hf he1 he2 ⊢
  obtain ⟨c, t, hct⟩ : ∃ c t, f = c :: t := by cases f with | nil => exact absurd rfl hs | cons c t => exact ⟨c, t, rfl⟩
  unfold rfigs at hf
  simp only [Bool.and_eq_true, decide_eq_true_eq, bne_iff_ne] at hf
  obtain ⟨⟨⟨hl, hfi⟩, hh⟩, hla⟩ := hf
  have hc : c ≠ 48 := by rw [hct] at hh; exact hh
  have hpos : 0 < f.length := by rw [hct]; simp
  have hpr : printN f g e = (if g = true then [45] else []) ++ printS f e := by unfold printN; cases g <;> simp
  have hps : printS f e = if 0 ≤ e ∧ e ≤ 20 - f.length then f ++ Lib.repeatL [48] e.toNat else if -20 ≤ e ∧ e ≤ -1 then pointF f (-e).toNat else f ++ 101 :: Lib.itoa e := by
    unfold printS; rw [if_neg (by rw [hct]; simp)]
  by_cases c1 : 0 ≤ e ∧ e ≤ 20 - f.length
  · rw [if_pos c1, repeat_noughts] at hps
    have hwl : (f ++ noughts e.toNat).length ≤ 100 := by rw [List.length_append]; simp [noughts]; omega
    refine ⟨⟨g, f ++ noughts e.toNat, false, [], false, false, []⟩, ⟨⟨.inr ⟨c, t ++ noughts e.toNat, by rw [hct]; rfl, hc⟩, by rw [figs_append, hfi, figs_noughts]; rfl, (fun h => by cases h), fun _ => rfl, rfl, (fun h => by cases h), rfl, fun _ => ⟨rfl, rfl⟩⟩, hwl, by simp, fun k => ?_, by simp, (fun h => by cases h), (fun h => by cases h), fun _ => ⟨?_, (fun h => by cases h)⟩⟩, ?_⟩
    · simp only [List.take_nil, List.append_nil]
      exact Nat.le_trans (trim_le48 _) hwl
    · simp only [worth, List.foldl_nil]; omega
    · rw [hpr, hps]; simp [Txt.text, Txt.sign, Txt.point, Txt.exp]
  rw [if_neg c1] at hps
  by_cases c2 : -20 ≤ e ∧ e ≤ -1
  · rw [if_pos c2] at hps
    obtain ⟨b, hb⟩ : ∃ b : Nat, e = -(b : Int) := ⟨(-e).toNat, by omega⟩
    have hbn : (-e).toNat = b := by omega
    rw [hbn] at hps
    have hplen := padF_len f b
    have hpad : padF f b = noughts (b + 1 - f.length) ++ f := by unfold padF; rw [repeat_noughts]
    have hpf : figs (padF f b) = true := by rw [hpad, figs_append, figs_noughts, hfi]; rfl
    have hW : (padF f b).take ((padF f b).length - b) = [48] ∨ ∃ a r, (padF f b).take ((padF f b).length - b) = a :: r ∧ a ≠ 48 := by
      by_cases hk : f.length ≤ b
      · left
        have hlp : (padF f b).length = b + 1 := by rw [hpad, List.length_append]; simp [noughts]; omega
        rw [hlp, show b + 1 - b = 1 by omega, hpad]
        obtain ⟨j, hj⟩ : ∃ j, b + 1 - f.length = j + 1 := ⟨b - f.length, by omega⟩
        rw [hj]; simp [noughts, List.replicate_succ]
      · right
        have : padF f b = f := padF_long (by omega)
        rw [this, hct]
        obtain ⟨j, hj⟩ : ∃ j, (c :: t).length - b = j + 1 := ⟨(c :: t).length - b - 1, by rw [← hct]; omega⟩
        rw [hj]
        exact ⟨c, t.take j, by simp, hc⟩
    have hdl : ((padF f b).drop ((padF f b).length - b)).length = b := by rw [List.length_drop]; omega
    have hwl : ((padF f b).take ((padF f b).length - b)).length ≤ 100 := by
      rw [List.length_take]
      by_cases hk : f.length ≤ b
      · have hlp : (padF f b).length = b + 1 := by rw [hpad, List.length_append]; simp [noughts]; omega
        omega
      · have : padF f b = f := padF_long (by omega)
        rw [this]; omega
    refine ⟨⟨g, (padF f b).take ((padF f b).length - b), true, (padF f b).drop ((padF f b).length - b), false, false, []⟩, ⟨⟨hW, figs_take hpf _, fun _ h => ?_, (fun h => by cases h), ?_, (fun h => by cases h), rfl, fun _ => ⟨rfl, rfl⟩⟩, hwl, by simp only [hdl]; omega, fun k => ?_, by simp, (fun h => by cases h), (fun h => by cases h), fun _ => ⟨?_, fun _ => rfl⟩⟩, ?_⟩
    · simp only at h
      rw [h] at hdl
      simp at hdl
      omega
    · have := hpf
      rw [← List.take_append_drop ((padF f b).length - b) (padF f b), figs_append, Bool.and_eq_true] at this
      exact this.2
    · have e2 : (padF f b).take ((padF f b).length - b) ++ ((padF f b).drop ((padF f b).length - b)).take k = (padF f b).take ((padF f b).length - b + k) := by
        rw [List.take_add]
      show (Lib.trimLeftB ((padF f b).take ((padF f b).length - b) ++ ((padF f b).drop ((padF f b).length - b)).take k) 48).length ≤ 100
      rw [e2]
      generalize (padF f b).length - b + k = kk
      rw [hpad]
      exact Nat.le_trans (trim_noughts _ _ f) hl
    · simp only [worth, List.foldl_nil]; omega
    · rw [hpr, hps]
      unfold pointF
      simp [Txt.text, Txt.sign, Txt.point, Txt.exp]
  rw [if_neg c2] at hps
  by_cases c3 : e < 0
  · obtain ⟨w1, w2, w3⟩ := dec_worth e.natAbs
    have hit : Lib.itoa e = 45 :: Lib.decDigits e.natAbs := by unfold Lib.itoa; rw [if_pos c3]
    have h2 := dec_len e.natAbs (by omega)
    refine ⟨⟨g, f, false, [], true, true, Lib.decDigits e.natAbs⟩, ⟨⟨.inr ⟨c, t, hct, hc⟩, hfi, (fun h => by cases h), fun _ => rfl, rfl, fun _ => w3, w2, (fun h => by cases h)⟩, hl, by simp, fun k => ?_, h2, fun _ => rfl, fun _ => ?_, (fun h => by cases h)⟩, ?_⟩
    · simp only [List.take_nil, List.append_nil]
      exact Nat.le_trans (trim_le48 _) hl
    · simp only [w1]; omega
    · rw [hpr, hps, hit]; simp [Txt.text, Txt.sign, Txt.point, Txt.exp]
  · obtain ⟨w1, w2, w3⟩ := dec_worth e.toNat
    have hit : Lib.itoa e = Lib.decDigits e.toNat := by unfold Lib.itoa; rw [if_neg c3]
    have h2 := dec_len e.toNat (by omega)
    refine ⟨⟨g, f, false, [], true, false, Lib.decDigits e.toNat⟩, ⟨⟨.inr ⟨c, t, hct, hc⟩, hfi, (fun h => by cases h), fun _ => rfl, rfl, fun _ => w3, w2, (fun h => by cases h)⟩, hl, by simp, fun k => ?_, h2, fun _ => rfl, (fun h => by cases h), fun _ => ⟨?_, (fun h => by cases h)⟩⟩, ?_⟩
    · simp only [List.take_nil, List.append_nil]
      exact Nat.le_trans (trim_le48 _) hl
    · simp only [w1]; omega
    · rw [hpr, hps, hit]; simp [Txt.text, Txt.sign, Txt.point, Txt.exp]
/-- A printed number that is cut off is never too large. -/
theorem print_cut {n : Nd} (hr : right n = true) (m : Nat) : (readF ((printN n.s n.neg n.e).take m)).2.2 = 0 ∨ (readF ((printN n.s n.neg n.e).take m)).2.2 = 1 := by
  have h2 : (readF ((printN n.s n.neg n.e).take m)).2.2 ≠ 2 := by
    by_cases hs : n.s = []
    · obtain ⟨_, _, _, ⟨_, h5, _⟩ | ⟨h4, _⟩⟩ := (right_iff n).1 hr
      · have e : printN n.s n.neg n.e = [48] := by rw [hs, h5]; rfl
        rw [e]
        cases m with
        | zero => decide
        | succ m => rw [List.take_of_length_le (by simp)]; decide
      · exact absurd hs h4
    · obtain ⟨x, hx, e⟩ := print_txt hr hs
      rw [e]
      exact cut_text hx m
  rcases read_cases ((printN n.s n.neg n.e).take m) with ⟨h, _⟩ | ⟨_, h | h⟩
  · exact .inl h
  · exact .inr h
  · exact absurd h h2
end Np
end Go.Proofs.YtafbojiojeemoaaGreatDoor

/-
  Plain words: a value's compact text that is cut off: it is read up to the text's end, or not at all; of a list or an object it is none. No program stands here.
-/
namespace Go.Proofs.YtafbojiojeemoaaGreatDoor
namespace Tp
open Go.RowKit Np Rw Vp Up Qp

/-- What is cut off is read up to the text's end, or not at all. -/
def Cut {α : Type} (rd : Nat → Rs α) (S T : List UInt8) (A : Prop) : Prop := ∀ i m, i ≤ S.length → m < T.length → S.drop i = T.take m → (A ∧ ∃ v, rd i = .ok v S.length) ∨ ∃ q, q ≤ S.length ∧ rd i = .bad 1 q
theorem bt_end {S : List UInt8} {i : Nat} (h : S.length ≤ i) : bt S i = 0 := bt_of_ge h
theorem len_of_drop {S T : List UInt8} {i : Nat} (hi : i ≤ S.length) (h : S.drop i = T) : i + T.length = S.length := by
  rw [← h, List.length_drop]; omega
theorem vlR_end (S : List UInt8) (n i : Nat) (hi : S.length ≤ i) : vlR S n i = .bad 1 i := by
  have hb := bt_end hi
  have hd : S.drop i = [] := List.drop_of_length_le hi
  have hw : woR S i = .bad 1 i := by
    unfold woR; rw [hd]
    rw [if_neg (by decide), if_neg (by decide), if_neg (by decide)]
  cases n with
  | zero =>
    rw [vlR_zero, sk_over hi]; unfold vl1
    rw [hb, if_neg (by decide), if_neg (by decide), if_neg (by decide), if_neg (by decide), hw]
  | succ n =>
    rw [vlR_succ, sk_over hi]; unfold vl1
    rw [hb, if_neg (by decide), if_neg (by decide), if_neg (by decide), if_neg (by decide), hw]
section
variable {α β : Type} {rd : Nat → Rs α} {put : β → α → β} {S : List UInt8}
theorem lpA_end {c : UInt8} (hc0 : c.toNat ≠ 0) (f k : Nat) (acc : β) (hk : S.length ≤ k) : lpA rd put S c.toNat f k acc = .bad 1 k := by
  unfold lpA
  rw [sk_over hk, bt_end hk, if_neg (fun h => hc0 h.symm), if_neg (by decide)]
theorem loop_cut {c : UInt8} (hc0 : c.toNat ≠ 0) (hc : blk c.toNat = false) (hcn : numB.contains c = false) (hc44 : c.toNat ≠ 44) {A : Prop} :
    ∀ (its : List (α × List UInt8)) (x : α × List UInt8) (f i m : Nat) (acc : β), S.length < f + i → i ≤ S.length → (∀ y ∈ x :: its, Reads rd S y) → (∀ y ∈ x :: its, Cut rd S y.2 A) →
      m < (x.2 ++ (tl [] its ++ [c])).length → S.drop i = (x.2 ++ (tl [] its ++ [c])).take m → ∃ q, q ≤ S.length ∧ lpR rd put S c.toNat f i acc = .bad 1 q
  | _, _, 0, _, _, _, hf, _, _, _, _, _ => by omega
  | its, x, f + 1, i, m, acc, hf, hi, hR, hC, hm, h => by
    rcases Nat.lt_or_ge m x.2.length with hmx | hmx
    · rw [List.take_append_of_le_length (by omega)] at h
      rcases hC x (by simp) i m hi hmx h with ⟨-, v, hv⟩ | ⟨q, hq, hb⟩
      · exact ⟨S.length, Nat.le_refl _, by rw [lpR_ok hv, lpA_end hc0 _ _ _ (Nat.le_refl _)]⟩
      · exact ⟨q, hq, lpR_bad hb⟩
    · obtain ⟨j, rfl⟩ : ∃ j, m = x.2.length + j := ⟨m - x.2.length, by omega⟩
      rw [List.take_length_add_append] at h
      have hS : Stop ((tl [] its ++ [c]).take j) := by
        cases its with
        | nil =>
          have : j = 0 := by simp [tl] at hm; omega
          subst this
          exact Stop.nil
        | cons y its =>
          cases j with
          | zero => exact Stop.nil
          | succ j =>
            show Stop ((44 :: ([] ++ (y.2 ++ tl [] its)) ++ [c]).take (j + 1))
            rw [List.cons_append, List.take_succ_cons]
            exact Stop.cons (by decide)
      have hr := hR x (by simp) i [] _ Blk.nil h hS
      have hd := drop_of h
      rw [List.length_nil, Nat.add_zero] at hr
      have hl := len_of_drop hi h
      rw [List.length_append] at hl
      cases j with
      | zero =>
        rw [List.take_zero, List.length_nil] at hl
        exact ⟨i + x.2.length, by omega, by rw [lpR_ok hr, lpA_end hc0 _ _ _ (by omega)]⟩
      | succ j =>
        cases its with
        | nil => simp [tl] at hm
        | cons y its =>
          have e : (tl [] (y :: its) ++ [c]).take (j + 1) = 44 :: (y.2 ++ (tl [] its ++ [c])).take j := by
            show (44 :: ([] ++ (y.2 ++ tl [] its)) ++ [c]).take (j + 1) = _
            rw [List.cons_append, List.take_succ_cons, List.nil_append, List.append_assoc]
          rw [e] at hd hl
          rw [List.length_cons] at hl
          have h5 := sk_here hd (by decide)
          have hd2 : S.drop (i + x.2.length + 1) = (y.2 ++ (tl [] its ++ [c])).take j := drop_of (a := [44]) hd
          have hm2 : j < (y.2 ++ (tl [] its ++ [c])).length := by
            simp only [tl, List.length_append, List.length_cons, List.nil_append, List.length_nil] at hm ⊢
            omega
          obtain ⟨q, hq, hb⟩ := loop_cut hc0 hc hcn hc44 its y f (i + x.2.length + 1) j (put acc x.1) (by omega) (by omega) (fun z hz => hR z (List.mem_cons_of_mem _ hz)) (fun z hz => hC z (List.mem_cons_of_mem _ hz)) hm2 hd2
          refine ⟨q, hq, ?_⟩
          rw [lpR_ok hr]
          unfold lpA
          rw [h5, bt_of hd, if_neg (fun e => hc44 e.symm), if_pos (by rfl)]
          exact hb
theorem part_cut {c : UInt8} (hc0 : c.toNat ≠ 0) (hc : blk c.toNat = false) (hcn : numB.contains c = false) (hc44 : c.toNat ≠ 44) {A : Prop} (zero : β) (x : α × List UInt8) (its : List (α × List UInt8)) (o : UInt8) (j m : Nat) (hj : j < S.length)
    (hR : ∀ y ∈ x :: its, Reads rd S y) (hC : ∀ y ∈ x :: its, Cut rd S y.2 A) (hx : ∃ a T, x.2 = a :: T ∧ blk a.toNat = false ∧ a.toNat ≠ c.toNat)
    (hm : m < (x.2 ++ (tl [] its ++ [c])).length) (h : S.drop j = o :: (x.2 ++ (tl [] its ++ [c])).take m) : ∃ q, q ≤ S.length ∧ ptR rd put zero S c.toNat j = .bad 1 q := by
  have h1 : S.drop (j + 1) = (x.2 ++ (tl [] its ++ [c])).take m := drop_of (a := [o]) h
  obtain ⟨a, T, hxe, ha, hac⟩ := hx
  have h2 : sk S (j + 1) = j + 1 ∧ bt S (j + 1) ≠ c.toNat := by
    cases m with
    | zero =>
      rw [List.take_zero] at h1
      have : S.length ≤ j + 1 := List.drop_eq_nil_iff.1 h1
      exact ⟨sk_over this, by rw [bt_end this]; exact fun e => hc0 e.symm⟩
    | succ m =>
      rw [hxe, List.cons_append, List.take_succ_cons] at h1
      exact ⟨sk_here h1 ha, by rw [bt_of h1]; exact hac⟩
  obtain ⟨q, hq, hb⟩ := loop_cut (put := put) hc0 hc hcn hc44 its x (S.length + 1) (j + 1) m zero (by omega) (by omega) hR hC hm h1
  refine ⟨q, hq, ?_⟩
  unfold ptR
  rw [h2.1, if_neg h2.2]
  exact hb
end
theorem fd_cut {S : List UInt8} {n : Nat} {nm T : List UInt8} {A : Prop} (hv : Lib.validD nm = true) (h : Cut (vlR S n) S T A) : Cut (fdR (vlR S n) S) S (prN false nm ++ T) A := by
  intro i m hi hm hd
  have e : prN false nm ++ T = quo nm ++ (58 :: T) := by simp [prN]
  rw [e] at hd hm
  rcases Nat.lt_or_ge m (quo nm).length with hmx | hmx
  · rw [List.take_append_of_le_length (by omega)] at hd
    have h1 : sk S i = i := by
      cases m with
      | zero => exact sk_over (List.drop_eq_nil_iff.1 (by rw [hd]; rfl))
      | succ m =>
        have : (quo nm).take (m + 1) = 34 :: (wrs nm ++ [34]).take m := by simp [quo]
        rw [this] at hd
        exact sk_here hd (by decide)
    obtain ⟨q1, q2, q3⟩ := quo_cut nm m hmx hv
    have hl := len_of_drop hi hd
    rw [List.length_take] at hl
    refine .inr ⟨i + (unqs ((quo nm).take m)).2.1, by omega, ?_⟩
    unfold fdR
    rw [h1]
    unfold stR
    rw [hd, if_neg (by omega), q2]
  · obtain ⟨j, rfl⟩ : ∃ j, m = (quo nm).length + j := ⟨m - (quo nm).length, by omega⟩
    rw [List.take_length_add_append] at hd
    have h1 : sk S i = i := by
      have : quo nm ++ (58 :: T).take j = 34 :: (wrs nm ++ [34] ++ (58 :: T).take j) := by simp [quo]
      rw [this] at hd
      exact sk_here hd (by decide)
    have h3 : stR S i = .ok nm (i + (quo nm).length) := by
      unfold stR
      rw [hd, quo_back nm _ hv]
      rfl
    have h4 := drop_of hd
    have hl := len_of_drop hi hd
    rw [List.length_append] at hl
    unfold fdR
    rw [h1, h3]
    simp only
    cases j with
    | zero =>
      rw [List.take_zero, List.length_nil] at hl
      refine .inr ⟨i + (quo nm).length, by omega, ?_⟩
      rw [sk_over (by omega), bt_end (by omega), if_neg (by decide)]
    | succ j =>
      rw [List.take_succ_cons] at h4 hl
      rw [List.length_cons] at hl
      have h5 := sk_here h4 (by decide)
      have h6 : S.drop (i + (quo nm).length + 1) = T.take j := drop_of (a := [58]) h4
      rw [h5, bt_of h4, if_pos (by rfl)]
      rcases h _ j (by omega) (by rw [List.length_append, List.length_cons] at hm; omega) h6 with ⟨ha, v, hv⟩ | ⟨q, hq, hb⟩
      · exact .inl ⟨ha, (nm, v), by rw [hv]⟩
      · exact .inr ⟨q, hq, by rw [hb]⟩
theorem wo_cut {S : List UInt8} {j m : Nat} {k : Int} (hk : k = 0 ∨ k = 1 ∨ k = 2) (hm : m < (wordT k).length) (h : S.drop j = (wordT k).take m) : woR S j = .bad 1 j := by
  have key : ∀ m, m < 5 → (m < wNull.length → Lib.hasPrefix (wNull.take m) wNull = false ∧ Lib.hasPrefix (wNull.take m) wFalse = false ∧ Lib.hasPrefix (wNull.take m) wTrue = false) ∧ (m < wFalse.length → Lib.hasPrefix (wFalse.take m) wNull = false ∧ Lib.hasPrefix (wFalse.take m) wFalse = false ∧ Lib.hasPrefix (wFalse.take m) wTrue = false) ∧ (m < wTrue.length → Lib.hasPrefix (wTrue.take m) wNull = false ∧ Lib.hasPrefix (wTrue.take m) wFalse = false ∧ Lib.hasPrefix (wTrue.take m) wTrue = false) := by decide
  have hm5 : m < 5 := by
    rcases hk with rfl | rfl | rfl
    · exact Nat.lt_trans hm (by decide)
    · exact hm
    · exact Nat.lt_trans hm (by decide)
  obtain ⟨k1, k2, k3⟩ := key m hm5
  have h3 : Lib.hasPrefix ((wordT k).take m) wNull = false ∧ Lib.hasPrefix ((wordT k).take m) wFalse = false ∧ Lib.hasPrefix ((wordT k).take m) wTrue = false := by
    rcases hk with rfl | rfl | rfl
    · exact k1 hm
    · exact k2 hm
    · exact k3 hm
  unfold woR
  rw [h, h3.1, h3.2.1, h3.2.2]
  rfl
theorem nu_cut {S : List UInt8} {i m : Nat} {n : Nd} (hi : i ≤ S.length) (hr : right n = true) (h : S.drop i = (printN n.s n.neg n.e).take m) : (∃ v, nuR S i = .ok v S.length) ∨ ∃ q, q ≤ S.length ∧ nuR S i = .bad 1 q := by
  have hf : figs n.s = true := by
    rcases Classical.em (n.s = []) with e | e
    · rw [e]; rfl
    · obtain ⟨_, _, _, ⟨h4, _⟩ | ⟨_, hg, _, _⟩⟩ := (right_iff n).1 hr
      · exact absurd h4 e
      · unfold rfigs at hg
        simp only [Bool.and_eq_true] at hg
        exact hg.1.1.2
  have hT : nuT S i = (printN n.s n.neg n.e).take m := by
    unfold nuT
    rw [h]
    have := takeWhile_all (l := (printN n.s n.neg n.e).take m) [] (fun c hc => printN_num hf _ _ c (List.mem_of_mem_take hc)) Stop.nil
    rwa [List.append_nil] at this
  have hl := len_of_drop hi h
  have hat := readF_at ((printN n.s n.neg n.e).take m)
  unfold nuR
  rw [hT]
  rcases print_cut hr m with e | e
  · rw [if_pos e]
    exact .inl ⟨_, by rw [hl]⟩
  · rw [if_neg (by omega), e]
    exact .inr ⟨_, by omega, rfl⟩
theorem cut (S : List UInt8) : ∀ (N : Nat) (t : Tr Nd) (d n : Nat), (flat t).length ≤ N → okT many t → rightT t = true → depth t ≤ n → Cut (vlR S n) S (prT false d t) (t.nd.kind ≠ 5 ∧ t.nd.kind ≠ 6)
  | 0, t, _, _, hN, _, _, _ => by have := flat_pos t; omega
  | N + 1, .mk nd ks, d, n, hN, h1, h2, hd => by
    intro i m hi hm h
    have hval : Val (nmd [] (.mk nd ks)) := Val.clr h1 h2
    have hpl : plainN nd = true := by rw [rightT_mk, Bool.and_eq_true] at h2; exact h2.1
    obtain ⟨a, T0, hT, ha, -, -⟩ := prT_hd false d nd ks hpl
    cases m with
    | zero =>
      have hle : S.length ≤ i := List.drop_eq_nil_iff.1 (by rw [h]; rfl)
      exact .inr ⟨i, hi, vlR_end S n i hle⟩
    | succ m =>
    have hj := h
    rw [hT, List.take_succ_cons] at h
    have hsk : sk S i = i := sk_here h ha
    have hlt : i < S.length := by have := len_of_drop hi h; rw [List.length_cons] at this; omega
    have hks : nd.kind ≠ 5 → nd.kind ≠ 6 → ks = [] := fun h5 h6 => by
      have h3 := (plainN_many hpl).2 h5 h6
      have h4 : nd.many = ks.length := (okT_mk.1 h1).1
      exact List.eq_nil_of_length_eq_zero (by omega)
    have hkid : ∀ u ∈ ks, okT many u ∧ rightT u = true := kids_okP h1 h2
    have sc : ∀ arr obj, nd.kind ≠ 5 → nd.kind ≠ 6 → (∃ v, vl1 S arr obj i = .ok v S.length) ∨ ∃ q, q ≤ S.length ∧ vl1 S arr obj i = .bad 1 q := by
      intro arr obj h5 h6
      have hk0 := hks h5 h6
      subst hk0
      have hpt : prT false d (.mk nd []) = scT nd := by rw [prT_mk, if_neg h5, if_neg h6]
      rw [hpt] at hj hm hT
      by_cases hw : nd.kind = 0 ∨ nd.kind = 1 ∨ nd.kind = 2
      · have e : scT nd = wordT nd.kind := by unfold scT; rw [if_pos hw]
        rw [e] at hj hm hT
        have g1 := wo_cut hw hm hj
        have g2 : bt S i = 110 ∨ bt S i = 102 ∨ bt S i = 116 := by
          rw [bt_of h]
          rcases hw with e | e | e
          · rw [e] at hT; left; injection hT with hT _; rw [← hT]; rfl
          · rw [e] at hT; right; left; injection hT with hT _; rw [← hT]; rfl
          · rw [e] at hT; right; right; injection hT with hT _; rw [← hT]; rfl
        refine .inr ⟨i, hi, ?_⟩
        unfold vl1
        rw [if_neg (by omega), if_neg (by omega), if_neg (by omega), if_neg (by omega), g1]
      · by_cases h3 : nd.kind = 3
        · have e : scT nd = printN nd.s nd.neg nd.e := by unfold scT; rw [if_neg hw, if_pos h3]
          rw [e] at hj hm hT
          have hr : right (nmN [] nd) = true := by
            unfold plainN at hpl
            rw [if_neg hw, if_pos h3] at hpl
            exact hpl
          obtain ⟨a2, T2, g1, g2⟩ := printN_hd (n := nmN [] nd) hr
          have ea : a2 = a := by
            have : a2 :: T2 = a :: T0 := g1.symm.trans hT
            injection this
          subst ea
          have hb := bt_of h
          unfold vl1
          rw [if_neg (by omega), if_neg (by omega), if_neg (by omega), if_pos (by omega)]
          exact nu_cut (n := nmN [] nd) hi hr hj
        · have e : scT nd = quo nd.s := by unfold scT; rw [if_neg hw, if_neg h3]
          rw [e] at hj hm hT
          have h4 : nd.kind = 4 := by
            unfold plainN at hpl
            rw [if_neg hw, if_neg h3] at hpl
            by_cases h4 : nd.kind = 4
            · exact h4
            · rw [if_neg h4, if_neg (by omega)] at hpl; cases hpl
          unfold plainN at hpl
          rw [if_neg hw, if_neg h3, if_pos h4] at hpl
          simp at hpl
          obtain ⟨⟨⟨p1, p2⟩, p3⟩, p4⟩ := hpl
          have hb : bt S i = 34 := by
            rw [bt_of h]
            have : (34 : UInt8) = a := by unfold quo at hT; injection hT
            rw [← this]; rfl
          obtain ⟨q1, q2, q3⟩ := quo_cut nd.s (m + 1) hm p2
          have hl := len_of_drop hi hj
          rw [List.length_take] at hl
          refine .inr ⟨i + (unqs ((quo nd.s).take (m + 1))).2.1, by omega, ?_⟩
          unfold vl1
          rw [if_neg (by omega), if_neg (by omega), if_pos hb]
          unfold stR
          rw [hj, if_neg (by omega), q2]
          rfl
    by_cases h5 : nd.kind = 5
    · right
      obtain ⟨n, rfl⟩ : ∃ m, n = m + 1 := ⟨n - 1, by rw [depth_mk, if_pos (show cont nd.kind = true by rw [h5]; rfl)] at hd; omega⟩
      have hdk : depths ks ≤ n := by rw [depth_mk, if_pos (show cont nd.kind = true by rw [h5]; rfl)] at hd; omega
      rw [vlR_succ, hsk]
      have hpt : prT false d (.mk nd ks) = 91 :: (prB false d false ks ++ [93]) := by rw [prT_mk, if_pos h5]
      rw [hpt, List.take_succ_cons] at hj
      rw [hpt, List.length_cons] at hm
      have hbj : bt S i = 91 := bt_of hj
      have hpart : ∃ q, q ≤ S.length ∧ ptR (vlR S n) snoc [] S 93 i = .bad 1 q := by
        cases ks with
        | nil =>
          rw [prB_nil] at hj hm
          have hm0 : m = 0 := by simp at hm; omega
          subst hm0
          have hl := len_of_drop hi hj
          simp only [List.take_zero, List.length_cons, List.length_nil] at hl
          have h1 : S.length ≤ i + 1 := by omega
          refine ⟨i + 1, by omega, ?_⟩
          unfold ptR
          rw [sk_over h1, bt_end h1, if_neg (by decide), lpR_bad (vlR_end S n (i + 1) h1)]
        | cons t ts =>
          have e : prB false d false (t :: ts) ++ [93] = (lit false d t).2 ++ (tl [] (ts.map (lit false d)) ++ [93]) := by
            rw [prB_cons, prK_list]; simp [lit, prL]
          rw [e] at hj hm
          have hlen : ∀ u ∈ t :: ts, (flat u).length ≤ N := fun u hu => by
            have := kid_lessP (n := nd) hu; omega
          have hrd : ∀ y ∈ lit false d t :: ts.map (lit false d), Reads (vlR S n) S y := by
            intro y hy
            rw [← List.map_cons] at hy
            obtain ⟨u, hu, rfl⟩ := List.mem_map.1 hy
            exact back false S N u (d + 1) n (hlen u hu) (hkid u hu).1 (hkid u hu).2 (Nat.le_trans (depths_le hu) hdk)
          have hct : ∀ y ∈ lit false d t :: ts.map (lit false d), Cut (vlR S n) S y.2 True := by
            intro y hy
            rw [← List.map_cons] at hy
            obtain ⟨u, hu, rfl⟩ := List.mem_map.1 hy
            intro i2 m2 hi2 hm2 h2
            rcases cut S N u (d + 1) n (hlen u hu) (hkid u hu).1 (hkid u hu).2 (Nat.le_trans (depths_le hu) hdk) i2 m2 hi2 hm2 h2 with ⟨-, hv⟩ | hb
            · exact .inl ⟨trivial, hv⟩
            · exact .inr hb
          obtain ⟨a', T', g1, g2, g3⟩ : ∃ a T, (lit false d t).2 = a :: T ∧ blk a.toNat = false ∧ a.toNat ≠ (93 : UInt8).toNat := by
            cases t with
            | mk n2 k2 =>
              have hp2 : plainN n2 = true := by have := (hkid (.mk n2 k2) (by simp)).2; rw [rightT_mk, Bool.and_eq_true] at this; exact this.1
              obtain ⟨a, T, g1, g2, g3, g4⟩ := prT_hd false (d + 1) n2 k2 hp2
              exact ⟨a, T, g1, g2, g3⟩
          have hm' : m < ((lit false d t).2 ++ (tl [] (ts.map (lit false d)) ++ [93])).length := by omega
          exact part_cut (put := snoc) (c := 93) (by decide) (by decide) (by decide) (by decide) [] (lit false d t) (ts.map (lit false d)) 91 i m hlt hrd hct ⟨a', T', g1, g2, g3⟩ hm' hj
      obtain ⟨q, hq, hp⟩ := hpart
      refine ⟨q, hq, ?_⟩
      unfold vl1
      rw [if_pos hbj]
      show mapR liV (ptR (vlR S n) snoc [] S 93 i) = _
      rw [hp]; rfl
    by_cases h6 : nd.kind = 6
    · right
      have hnm := hval.named h6
      have hnames : ∀ u ∈ ks, Lib.validD u.nd.name = true := fun u hu => hnm.2 u hu
      obtain ⟨n, rfl⟩ : ∃ m, n = m + 1 := ⟨n - 1, by rw [depth_mk, if_pos (show cont nd.kind = true by rw [h6]; rfl)] at hd; omega⟩
      have hdk : depths ks ≤ n := by rw [depth_mk, if_pos (show cont nd.kind = true by rw [h6]; rfl)] at hd; omega
      rw [vlR_succ, hsk]
      have hpt : prT false d (.mk nd ks) = 123 :: (prB false d true ks ++ [125]) := by rw [prT_mk, if_neg h5, if_pos h6]
      rw [hpt, List.take_succ_cons] at hj
      rw [hpt, List.length_cons] at hm
      have hbj : bt S i = 123 := bt_of hj
      have hpart : ∃ q, q ≤ S.length ∧ ptR (fdR (vlR S n) S) putP [] S 125 i = .bad 1 q := by
        cases ks with
        | nil =>
          rw [prB_nil] at hj hm
          have hm0 : m = 0 := by simp at hm; omega
          subst hm0
          have hl := len_of_drop hi hj
          simp only [List.take_zero, List.length_cons, List.length_nil] at hl
          have h1 : S.length ≤ i + 1 := by omega
          refine ⟨i + 1, by omega, ?_⟩
          have hfd : fdR (vlR S n) S (i + 1) = .bad 1 (i + 1) := by
            unfold fdR
            rw [sk_over h1]
            have hst : stR S (i + 1) = .bad 1 (i + 1) := by
              unfold stR
              rw [List.drop_of_length_le h1]; rfl
            rw [hst]
          unfold ptR
          rw [sk_over h1, bt_end h1, if_neg (by decide), lpR_bad hfd]
        | cons t ts =>
          have e : prB false d true (t :: ts) ++ [125] = (oit false d t).2 ++ (tl [] (ts.map (oit false d)) ++ [125]) := by
            rw [prB_cons, prK_obj]; simp [oit, prL]
          rw [e] at hj hm
          have hlen : ∀ u ∈ t :: ts, (flat u).length ≤ N := fun u hu => by
            have := kid_lessP (n := nd) hu; omega
          have hrd : ∀ y ∈ oit false d t :: ts.map (oit false d), Reads (fdR (vlR S n) S) S y := by
            intro y hy
            rw [← List.map_cons] at hy
            obtain ⟨u, hu, rfl⟩ := List.mem_map.1 hy
            exact fd_reads (hnames u hu) (back false S N u (d + 1) n (hlen u hu) (hkid u hu).1 (hkid u hu).2 (Nat.le_trans (depths_le hu) hdk))
          have hct : ∀ y ∈ oit false d t :: ts.map (oit false d), Cut (fdR (vlR S n) S) S y.2 True := by
            intro y hy
            rw [← List.map_cons] at hy
            obtain ⟨u, hu, rfl⟩ := List.mem_map.1 hy
            refine fd_cut (hnames u hu) ?_
            intro i2 m2 hi2 hm2 h2
            rcases cut S N u (d + 1) n (hlen u hu) (hkid u hu).1 (hkid u hu).2 (Nat.le_trans (depths_le hu) hdk) i2 m2 hi2 hm2 h2 with ⟨-, hv⟩ | hb
            · exact .inl ⟨trivial, hv⟩
            · exact .inr hb
          have hm' : m < ((oit false d t).2 ++ (tl [] (ts.map (oit false d)) ++ [125])).length := by omega
          exact part_cut (put := putP) (c := 125) (by decide) (by decide) (by decide) (by decide) [] (oit false d t) (ts.map (oit false d)) 123 i m hlt hrd hct ⟨34, _, rfl, by decide, by decide⟩ hm' hj
      obtain ⟨q, hq, hp⟩ := hpart
      refine ⟨q, hq, ?_⟩
      unfold vl1
      rw [if_neg (by omega), if_pos hbj]
      show mapR obV (ptR (fdR (vlR S n) S) putP [] S 125 i) = _
      rw [hp]; rfl
    cases n with
    | zero =>
      rw [vlR_zero, hsk]
      rcases sc (fun j => .bad 3 j) (fun j => .bad 3 j) h5 h6 with h | h
      · exact .inl ⟨⟨h5, h6⟩, h⟩
      · exact .inr h
    | succ n =>
      rw [vlR_succ, hsk]
      rcases sc (fun j => mapR liV (ptR (vlR S n) snoc [] S 93 j)) (fun j => mapR obV (ptR (fdR (vlR S n) S) putP [] S 125 j)) h5 h6 with h | h
      · exact .inl ⟨⟨h5, h6⟩, h⟩
      · exact .inr h
/-- A list's or an object's text that is cut off. -/
theorem cut_parse {t : Tr Nd} (hv : Val t) (hd : depth t ≤ 128) (hk : t.nd.kind = 5 ∨ t.nd.kind = 6) (m : Nat) (hm : m < (prT false 0 t).length) : ∃ q, q ≤ m ∧ prsR ((prT false 0 t).take m) = ([], q, 1) := by
  have hl : ((prT false 0 t).take m).length = m := by rw [List.length_take]; omega
  rcases cut ((prT false 0 t).take m) _ t 0 128 (Nat.le_refl _) hv.ok hv.rt hd 0 m (Nat.zero_le _) hm rfl with ⟨⟨h5, h6⟩, -⟩ | ⟨q, hq, hb⟩
  · rcases hk with h | h
    · exact absurd h h5
    · exact absurd h h6
  · refine ⟨q, by omega, ?_⟩
    unfold prsR
    rw [hb]
end Tp
end Go.Proofs.YtafbojiojeemoaaGreatDoor
