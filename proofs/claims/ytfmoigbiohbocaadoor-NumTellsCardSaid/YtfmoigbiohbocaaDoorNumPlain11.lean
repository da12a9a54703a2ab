/-
  Plain words: what is printed is read as it was; what is read is right. No program stands here.
-/
import Derived.Test.YtfmoigbiohbocaaDoorNumPlain10
namespace Go.Proofs.YtfmoigbiohbocaaDoor
namespace Np
open Go.RowKit

theorem read_text {t : Txt} (h : t.Fine) (h6 : ¬ 6 < (Lib.trimLeftB t.D 48).length) :
    readF t.text = ((mk t.g (t.W ++ t.P) ((if t.neg = true then -(worth (Lib.trimLeftB t.D 48) : Int) else (worth (Lib.trimLeftB t.D 48) : Int)) - t.P.length)).1, 0,
      (mk t.g (t.W ++ t.P) ((if t.neg = true then -(worth (Lib.trimLeftB t.D 48) : Int) else (worth (Lib.trimLeftB t.D 48) : Int)) - t.P.length)).2) := by
  obtain ⟨wh, hw, e⟩ := scan_text h
  rw [readF_ok e h6]
  have : mkW ⟨t.g, wh, t.P, t.neg, t.D⟩ = mk t.g (t.W ++ t.P) ((if t.neg = true then -(worth (Lib.trimLeftB t.D 48) : Int) else (worth (Lib.trimLeftB t.D 48) : Int)) - t.P.length) := by
    show mk t.g (wh ++ t.P) (powOf _ - _) = _
    unfold powOf
    rcases hw with e | e
    · rw [e]
    · rw [e, List.cons_append, mk_nought_ahead]
  rw [this]
theorem repeat_noughts : ∀ n, Lib.repeatL [48] n = noughts n
  | 0 => rfl
  | n + 1 => by
    show [48] ++ Lib.repeatL [48] n = _
    rw [repeat_noughts n]; simp [noughts, List.replicate_succ]
theorem mk_right {n : Nd} (hr : right n = true) (hs : n.s ≠ []) : mk n.neg n.s n.e = (n, 0) := by
  obtain ⟨h1, h2, h3, ⟨h4, _⟩ | ⟨_, hf, he1, he2⟩⟩ := (right_iff n).1 hr
  · exact absurd h4 hs
  obtain ⟨k, m, nm, s, g, e⟩ := n
  simp only at h1 h2 h3 hs hf he1 he2 ⊢
  subst h1 h2 h3
  obtain ⟨c, t, hct⟩ : ∃ c t, s = c :: t := by cases s with | nil => exact absurd rfl hs | cons c t => exact ⟨c, t, rfl⟩
  have hf' := hf
  unfold rfigs at hf
  simp only [Bool.and_eq_true, decide_eq_true_eq, bne_iff_ne] at hf
  obtain ⟨⟨⟨hl, hfi⟩, hh⟩, hla⟩ := hf
  have hc : c ≠ 48 := by rw [hct] at hh; exact hh
  have tl : Lib.trimLeftB s 48 = s := by rw [hct]; simp [Lib.trimLeftB, hc]
  have tr : Lib.trimRightB s 48 = s := by
    rcases List.eq_nil_or_concat s with h | ⟨q, b, h⟩
    · exact absurd h hs
    · rw [h, List.concat_eq_append] at hla ⊢
      exact trimRight_snoc q b (by simpa using hla)
  have hN : mkN g s e = ⟨3, 0, [], s, g, e⟩ := by
    unfold mkN
    rw [tl, tr]
    congr 1
    unfold wrap64
    omega
  have h := mk_ok g s e hfi (by rw [tl, hct]; rfl) (by rw [hN]; exact hr)
  rw [h, hN]
theorem worth_from (l : List UInt8) : worth (48 :: l) = worth l := by simp [worth]
theorem worth_trim : ∀ l : List UInt8, worth (Lib.trimLeftB l 48) = worth l
  | [] => rfl
  | c :: t => by
    by_cases hc : c = 48
    · subst hc
      rw [show Lib.trimLeftB (48 :: t) 48 = Lib.trimLeftB t 48 by simp [Lib.trimLeftB], worth_trim t, worth_from]
    · rw [show Lib.trimLeftB (c :: t) 48 = c :: t by simp [Lib.trimLeftB, hc]]
theorem dig_nat (d : Nat) (h : d < 10) : (UInt8.ofNat (48 + d)).toNat = 48 + d := by
  rw [UInt8.toNat_ofNat']; omega
theorem dec_worth (u : Nat) : worth (Lib.decDigits u) = u ∧ figs (Lib.decDigits u) = true ∧ Lib.decDigits u ≠ [] := by
  induction u using Nat.strongRecOn with
  | _ u ih =>
    rw [Lib.decDigits]
    split
    · rename_i h
      refine ⟨?_, ?_, by simp⟩
      · simp [worth]; omega
      · simp [figs, fig]; omega
    · rename_i h
      obtain ⟨i1, i2, i3⟩ := ih (u / 10) (by omega)
      have := dig_nat (u % 10) (by omega)
      refine ⟨?_, ?_, by simp⟩
      · rw [worth_snoc, i1, this]; omega
      · rw [figs_snoc, i2]; simp [fig]; omega
theorem dec_len (u : Nat) (h : u ≤ 1000) : (Lib.decDigits u).length ≤ 4 := by
  rw [Lib.decDigits]
  split
  · simp
  · rw [Lib.decDigits]
    split
    · simp
    · rw [Lib.decDigits]
      split
      · simp
      · rw [Lib.decDigits]
        split
        · simp
        · omega
theorem figs_append {a b : List UInt8} : figs (a ++ b) = (figs a && figs b) := by simp [figs]
theorem figs_noughts (n : Nat) : figs (noughts n) = true := by
  simp [figs, noughts, show fig 48 = true by decide]
/-- What is printed is read as it was. -/
theorem print_back {n : Nd} (hr : right n = true) : readF (printN n.s n.neg n.e) = (n, 0, 0) := by
  by_cases hs : n.s = []
  · obtain ⟨h1, h2, h3, ⟨_, h5, h6⟩ | ⟨h4, _⟩⟩ := (right_iff n).1 hr
    · obtain ⟨k, m, nm, s, g, e⟩ := n
      simp only at h1 h2 h3 hs h5 h6 ⊢
      subst h1 h2 h3 hs h5 h6
      decide +kernel
    · exact absurd hs h4
  have hmk := mk_right hr hs
  obtain ⟨_, _, _, ⟨h4, _⟩ | ⟨_, hf, he1, he2⟩⟩ := (right_iff n).1 hr
  · exact absurd h4 hs
  obtain ⟨k, m, nm, f, g, e⟩ := n
  simp only at hs hmk hf he1 he2 ⊢
  obtain ⟨c, t, hct⟩ : ∃ c t, f = c :: t := by cases f with | nil => exact absurd rfl hs | cons c t => exact ⟨c, t, rfl⟩
  unfold rfigs at hf
  simp only [Bool.and_eq_true, decide_eq_true_eq, bne_iff_ne] at hf
  obtain ⟨⟨⟨hl, hfi⟩, hh⟩, hla⟩ := hf
  have hc : c ≠ 48 := by rw [hct] at hh; exact hh
  have hpos : 0 < f.length := by rw [hct]; simp
  have key : ∀ x : Txt, x.Fine → printN f g e = x.text → ¬ 6 < (Lib.trimLeftB x.D 48).length → mk x.g (x.W ++ x.P) ((if x.neg = true then -(worth (Lib.trimLeftB x.D 48) : Int) else (worth (Lib.trimLeftB x.D 48) : Int)) - x.P.length) = (⟨k, m, nm, f, g, e⟩, 0) → readF (printN f g e) = (⟨k, m, nm, f, g, e⟩, 0, 0) := by
    intro x hx h1 h2 h3
    rw [h1, read_text hx h2, h3]
  have hpr : printN f g e = (if g = true then [45] else []) ++ printS f e := by unfold printN; cases g <;> simp
  have hps : printS f e = if 0 ≤ e ∧ e ≤ 20 - f.length then f ++ Lib.repeatL [48] e.toNat else if -20 ≤ e ∧ e ≤ -1 then pointF f (-e).toNat else f ++ 101 :: Lib.itoa e := by
    unfold printS; rw [if_neg (by rw [hct]; simp)]
  by_cases c1 : 0 ≤ e ∧ e ≤ 20 - f.length
  · rw [if_pos c1, repeat_noughts] at hps
    refine key ⟨g, f ++ noughts e.toNat, false, [], false, false, []⟩ ⟨.inr ⟨c, t ++ noughts e.toNat, by rw [hct]; rfl, hc⟩, by rw [figs_append, hfi, figs_noughts]; rfl, (fun h => by cases h), fun _ => rfl, rfl, (fun h => by cases h), rfl, fun _ => ⟨rfl, rfl⟩⟩ ?_ (by simp [Lib.trimLeftB]) ?_
    · rw [hpr, hps]; simp [Txt.text, Txt.sign, Txt.point, Txt.exp]
    · have := mk_noughts_behind g f e e.toNat
      rw [show e - (e.toNat : Int) = 0 by omega] at this
      show mk g (f ++ noughts e.toNat ++ []) _ = _
      rw [List.append_nil]
      exact this.trans hmk
  rw [if_neg c1] at hps
  by_cases c2 : -20 ≤ e ∧ e ≤ -1
  · rw [if_pos c2] at hps
    obtain ⟨b, hb⟩ : ∃ b : Nat, e = -(b : Int) := ⟨(-e).toNat, by omega⟩
    have hbn : (-e).toNat = b := by omega
    rw [hbn] at hps
    have hplen := padF_len f b
    have hpad : padF f b = noughts (b + 1 - f.length) ++ f := by unfold padF; rw [repeat_noughts]
    have hpf : figs (padF f b) = true := by rw [hpad, figs_append, figs_noughts, hfi]; rfl
    have hW : (padF f b).take ((padF f b).length - b) = [48] ∨ ∃ a r, (padF f b).take ((padF f b).length - b) = a :: r ∧ a ≠ 48 := by
      by_cases hk : f.length ≤ b
      · left
        have hlp : (padF f b).length = b + 1 := by rw [hpad, List.length_append]; simp [noughts]; omega
        rw [hlp, show b + 1 - b = 1 by omega, hpad]
        obtain ⟨j, hj⟩ : ∃ j, b + 1 - f.length = j + 1 := ⟨b - f.length, by omega⟩
        rw [hj]; simp [noughts, List.replicate_succ]
      · right
        have : padF f b = f := padF_long (by omega)
        rw [this, hct]
        obtain ⟨j, hj⟩ : ∃ j, (c :: t).length - b = j + 1 := ⟨(c :: t).length - b - 1, by rw [← hct]; omega⟩
        rw [hj]
        exact ⟨c, t.take j, by simp, hc⟩
    have hdl : ((padF f b).drop ((padF f b).length - b)).length = b := by rw [List.length_drop]; omega
    refine key ⟨g, (padF f b).take ((padF f b).length - b), true, (padF f b).drop ((padF f b).length - b), false, false, []⟩ ⟨hW, figs_take hpf _, fun _ h => ?_, (fun h => by cases h), ?_, (fun h => by cases h), rfl, fun _ => ⟨rfl, rfl⟩⟩ ?_ (by simp [Lib.trimLeftB]) ?_
    · simp only at h
      rw [h] at hdl
      simp at hdl
      omega
    · have := hpf
      rw [← List.take_append_drop ((padF f b).length - b) (padF f b), figs_append, Bool.and_eq_true] at this
      exact this.2
    · rw [hpr, hps]
      unfold pointF
      simp [Txt.text, Txt.sign, Txt.point, Txt.exp]
    · show mk g ((padF f b).take _ ++ (padF f b).drop _) (_ - ((padF f b).drop ((padF f b).length - b)).length) = _
      rw [List.take_append_drop, hdl, hpad, mk_noughts_ahead]
      rw [hb] at hmk
      rw [hb]
      simp only [Lib.trimLeftB, List.dropWhile_nil]
      rw [show (if (false : Bool) = true then -(worth ([] : List UInt8) : Int) else (worth ([] : List UInt8) : Int)) - (b : Int) = -(b : Int) by simp [worth]]
      exact hmk
  rw [if_neg c2] at hps
  by_cases c3 : e < 0
  · obtain ⟨w1, w2, w3⟩ := dec_worth e.natAbs
    have hit : Lib.itoa e = 45 :: Lib.decDigits e.natAbs := by unfold Lib.itoa; rw [if_pos c3]
    refine key ⟨g, f, false, [], true, true, Lib.decDigits e.natAbs⟩ ⟨.inr ⟨c, t, hct, hc⟩, hfi, (fun h => by cases h), fun _ => rfl, rfl, fun _ => w3, w2, (fun h => by cases h)⟩ ?_ ?_ ?_
    · rw [hpr, hps, hit]; simp [Txt.text, Txt.sign, Txt.point, Txt.exp]
    · have h1 := (List.dropWhile_suffix (l := Lib.decDigits e.natAbs) (· == (48 : UInt8))).length_le
      have h2 := dec_len e.natAbs (by omega)
      show ¬ 6 < (Lib.trimLeftB (Lib.decDigits e.natAbs) 48).length
      unfold Lib.trimLeftB
      omega
    · show mk g (f ++ []) _ = _
      rw [List.append_nil, worth_trim, w1]
      simp only [if_true, List.length_nil]
      rw [show -(e.natAbs : Int) - ((0 : Nat) : Int) = e by omega]
      exact hmk
  · obtain ⟨w1, w2, w3⟩ := dec_worth e.toNat
    have hit : Lib.itoa e = Lib.decDigits e.toNat := by unfold Lib.itoa; rw [if_neg c3]
    refine key ⟨g, f, false, [], true, false, Lib.decDigits e.toNat⟩ ⟨.inr ⟨c, t, hct, hc⟩, hfi, (fun h => by cases h), fun _ => rfl, rfl, fun _ => w3, w2, (fun h => by cases h)⟩ ?_ ?_ ?_
    · rw [hpr, hps, hit]; simp [Txt.text, Txt.sign, Txt.point, Txt.exp]
    · have h1 := (List.dropWhile_suffix (l := Lib.decDigits e.toNat) (· == (48 : UInt8))).length_le
      have h2 := dec_len e.toNat (by omega)
      show ¬ 6 < (Lib.trimLeftB (Lib.decDigits e.toNat) 48).length
      unfold Lib.trimLeftB
      omega
    · show mk g (f ++ []) _ = _
      rw [List.append_nil, worth_trim, w1]
      simp only [Bool.false_eq_true, if_false, List.length_nil]
      rw [show ((e.toNat : Nat) : Int) - ((0 : Nat) : Int) = e by omega]
      exact hmk
/-- What is read is right, or there is none. -/
theorem mk_cases (g : Bool) (f : List UInt8) (e : Int) (hf : figs f = true) : ((mk g f e).2 = 0 ∧ right (mk g f e).1 = true) ∨ mk g f e = (nd0, 2) := by
  cases h : (Lib.trimLeftB f 48).isEmpty
  · cases h2 : right (mkN g f e)
    · right; exact mk_large g f e hf h h2
    · left; rw [mk_ok g f e hf h h2]; exact ⟨rfl, h2⟩
  · left; rw [mk_nought g f e hf h]; exact ⟨rfl, by decide⟩
theorem read_cases (l : List UInt8) : ((readF l).2.2 = 0 ∧ right (readF l).1 = true) ∨ ((readF l).1 = nd0 ∧ ((readF l).2.2 = 1 ∨ (readF l).2.2 = 2)) := by
  unfold readF
  split
  · exact .inr ⟨rfl, .inl rfl⟩
  split
  · exact .inr ⟨rfl, .inr rfl⟩
  obtain ⟨h1, h2, _⟩ := scanF_figs l
  rcases mk_cases (scanF l).1.neg ((scanF l).1.whole ++ (scanF l).1.part) (powOf (scanF l).1 - (scanF l).1.part.length) (by rw [figs_append, h1, h2]; rfl) with h | h
  · exact .inl h
  · right
    show (mkW (scanF l).1).1 = nd0 ∧ ((mkW (scanF l).1).2 = 1 ∨ (mkW (scanF l).1).2 = 2)
    unfold mkW
    rw [h]
    exact ⟨rfl, .inr rfl⟩

end Np
end Go.Proofs.YtfmoigbiohbocaaDoor
