/-
  Plain words: a number's text is read as it was printed. No program stands here.
-/
import Derived.Test.YtfmoigbiohbocaaDoorNumPlain9
import Derived.Test.YtfmoigbiohbocaaDoorNumPlain4
namespace Go.Proofs.YtfmoigbiohbocaaDoor
namespace Np
open Go.RowKit

theorem stands_drop {l R : List UInt8} {i : Nat} (h : l.drop i = R) (c : UInt8) : stands l i c = (R.head? == some c) := by
  unfold stands; rw [← h, List.head?_drop]
theorem run_drop {l R : List UInt8} {i : Nat} (h : l.drop i = R) : run l i = R.takeWhile fig := by unfold run; rw [h]
theorem drop_more {l A B : List UInt8} {i : Nat} (h : l.drop i = A ++ B) : l.drop (i + A.length) = B := by
  rw [← List.drop_drop, h, List.drop_left]
theorem takeWhile_figs {A B : List UInt8} (h : figs A = true) (hB : ∀ c, B.head? = some c → fig c = false) : (A ++ B).takeWhile fig = A := by
  have e : B.takeWhile fig = [] := by
    cases B with
    | nil => rfl
    | cons c t => simp [hB c rfl]
  rw [List.takeWhile_append_of_pos (by unfold figs at h; rw [List.all_eq_true] at h; exact h), e, List.append_nil]
/-- How a number is written. -/
structure Txt where
  g : Bool
  W : List UInt8
  dot : Bool
  P : List UInt8
  ex : Bool
  neg : Bool
  D : List UInt8
def Txt.exp (t : Txt) : List UInt8 := if t.ex = true then 101 :: ((if t.neg = true then [45] else []) ++ t.D) else []
def Txt.point (t : Txt) : List UInt8 := if t.dot = true then 46 :: t.P else []
def Txt.sign (t : Txt) : List UInt8 := if t.g = true then [45] else []
def Txt.text (t : Txt) : List UInt8 := t.sign ++ (t.W ++ (t.point ++ t.exp))
structure Txt.Fine (t : Txt) : Prop where
  w : t.W = [48] ∨ (∃ c r, t.W = c :: r ∧ c ≠ 48)
  wf : figs t.W = true
  p : t.dot = true → t.P ≠ []
  p0 : t.dot = false → t.P = []
  pf : figs t.P = true
  d : t.ex = true → t.D ≠ []
  df : figs t.D = true
  d0 : t.ex = false → t.D = [] ∧ t.neg = false
theorem fig_head {l : List UInt8} {c : UInt8} (h : figs l = true) (hc : l.head? = some c) : fig c = true := by
  cases l with
  | nil => cases hc
  | cons a r => simp at hc; subst hc; simp [figs] at h; exact h.1
theorem scan_text {t : Txt} (h : t.Fine) : ∃ wh, (wh = t.W ∨ t.W = 48 :: wh) ∧ scanF t.text = (⟨t.g, wh, t.P, t.neg, t.D⟩, t.text.length, true) := by
  have hWne : t.W ≠ [] := by rcases h.w with e | ⟨c, r, e, _⟩ <;> rw [e] <;> simp
  have hexp : ∀ c, t.exp.head? = some c → c = 101 := by
    intro c hc; unfold Txt.exp at hc; split at hc
    · simpa using hc.symm
    · cases hc
  have hrest : ∀ c, (t.point ++ t.exp).head? = some c → c = 46 ∨ c = 101 := by
    intro c hc
    unfold Txt.point at hc
    split at hc
    · left; simpa using hc.symm
    · right; exact hexp c (by simpa using hc)
  obtain ⟨a, r, hW⟩ : ∃ a r, t.W = a :: r := by cases hw : t.W with | nil => exact absurd hw hWne | cons a r => exact ⟨a, r, rfl⟩
  have ha : fig a = true := fig_head h.wf (by rw [hW]; rfl)
  have d0 : t.text.drop 0 = t.sign ++ (t.W ++ (t.point ++ t.exp)) := rfl
  have s45 : stands t.text 0 45 = t.g := by
    rw [stands_drop d0]
    unfold Txt.sign
    cases t.g
    · rw [hW]; simp; intro e; subst e; cases ha
    · simp
  have i0 : i0F t.text = t.sign.length := by
    unfold i0F; rw [s45]; unfold Txt.sign; cases t.g <;> simp
  have d1 : t.text.drop (i0F t.text) = t.W ++ (t.point ++ t.exp) := by
    rw [i0]; have := drop_more (i := 0) d0; rwa [Nat.zero_add] at this
  have r1 : run t.text (i0F t.text) = t.W := by
    rw [run_drop d1]
    refine takeWhile_figs h.wf (fun c hc => ?_)
    rcases hrest c hc with e | e <;> rw [e] <;> decide
  have b1 : bad1 t.text = false := by rw [bad1_run, r1, hW]; rfl
  have hw1 : (wholeF t.text = t.W ∨ t.W = 48 :: wholeF t.text) ∧ i1F t.text = i0F t.text + t.W.length := by
    cases h48 : stands t.text (i0F t.text) 48
    · obtain ⟨_, e2, e3⟩ := at1_no h48
      rw [r1] at e2 e3
      exact ⟨.inl e2, e3⟩
    · obtain ⟨_, e2, e3⟩ := at1_yes h48
      rw [stands_drop d1, hW] at h48
      have ha48 : a = 48 := by simpa using h48
      rcases h.w with e | ⟨c, r', e, hc⟩
      · rw [e]
        exact ⟨.inr (by rw [e2]), e3⟩
      · rw [hW] at e; cases e; exact absurd ha48 hc
  have d2 : t.text.drop (i1F t.text) = t.point ++ t.exp := by rw [hw1.2]; exact drop_more d1
  have s46 : stands t.text (i1F t.text) 46 = t.dot := by
    rw [stands_drop d2]
    unfold Txt.point
    cases hd : t.dot
    · simp
      intro e
      have := hexp _ e
      cases this
    · simp
  have hp : partF t.text = t.P ∧ i3F t.text = i1F t.text + t.point.length ∧ bad2 t.text = false := by
    cases hd : t.dot
    · obtain ⟨e1, e2, e3⟩ := at2_no (s46.trans hd)
      exact ⟨by rw [e2, h.p0 hd], by rw [e3]; unfold Txt.point; rw [hd]; simp, e1⟩
    · obtain ⟨e1, e2, e3⟩ := at2_yes (s46.trans hd)
      have d2' : t.text.drop (i1F t.text + 1) = t.P ++ t.exp := by
        have : t.text.drop (i1F t.text) = [46] ++ (t.P ++ t.exp) := by rw [d2]; unfold Txt.point; rw [hd]; rfl
        exact drop_more this
      have r2 : run t.text (i1F t.text + 1) = t.P := by
        rw [run_drop d2']
        exact takeWhile_figs h.pf (fun c hc => by rw [hexp c hc]; decide)
      rw [r2] at e1 e2 e3
      refine ⟨e2, by rw [e3]; unfold Txt.point; rw [hd]; simp; omega, ?_⟩
      rw [e1]
      cases hP : t.P with
      | nil => exact absurd hP (h.p hd)
      | cons a r => rfl
  obtain ⟨p1, p2, p3⟩ := hp
  have d3 : t.text.drop (i3F t.text) = t.exp := by rw [p2]; exact drop_more d2
  have hlen : t.text.length = i3F t.text + t.exp.length := by
    have := congrArg List.length d3
    rw [List.length_drop] at this
    have hle := i3F_le t.text
    omega
  have s69 : stands t.text (i3F t.text) 69 = false := by
    rw [stands_drop d3]
    simp
    intro e
    have := hexp _ e
    cases this
  have s101 : stands t.text (i3F t.text) 101 = t.ex := by
    rw [stands_drop d3]
    unfold Txt.exp
    cases t.ex <;> simp
  have hx : exF t.text = t.ex := by unfold exF; rw [s69, s101, Bool.or_false]
  refine ⟨wholeF t.text, hw1.1, ?_⟩
  cases he : t.ex
  · obtain ⟨q1, q2, q3, q4⟩ := at3_no (hx.trans he)
    obtain ⟨hD, hN⟩ := h.d0 he
    rw [scan_all b1 p3 q1 (by rw [q4, hlen]; unfold Txt.exp; rw [he]; simp), s45, p1, q2, q3, hD, hN, q4, hlen]
    unfold Txt.exp
    rw [he]; simp
  · have hxt := hx.trans he
    have d4 : t.text.drop (i3F t.text + 1) = (if t.neg = true then [45] else []) ++ t.D := by
      have : t.text.drop (i3F t.text) = [101] ++ ((if t.neg = true then [45] else []) ++ t.D) := by rw [d3]; unfold Txt.exp; rw [he]; rfl
      exact drop_more this
    obtain ⟨b, rb, hD⟩ : ∃ b rb, t.D = b :: rb := by cases hd : t.D with | nil => exact absurd hd (h.d he) | cons b rb => exact ⟨b, rb, rfl⟩
    have hb : fig b = true := fig_head h.df (by rw [hD]; rfl)
    have s43 : stands t.text (i3F t.text + 1) 43 = false := by
      rw [stands_drop d4]
      cases t.neg
      · rw [hD]; simp; intro e; subst e; cases hb
      · simp
    have s45' : stands t.text (i3F t.text + 1) 45 = t.neg := by
      rw [stands_drop d4]
      cases t.neg
      · rw [hD]; simp; intro e; subst e; cases hb
      · simp
    obtain ⟨e1, e2⟩ := at5_rest hxt s43
    rw [s45'] at e1 e2
    have d5 : t.text.drop (i5F t.text) = t.D ++ [] := by
      rw [e2, List.append_nil]
      have := drop_more d4
      cases hn : t.neg
      · rw [hn] at this; simpa using this
      · rw [hn] at this; simpa using this
    have r5 : run t.text (i5F t.text) = t.D := by
      rw [run_drop d5]; exact takeWhile_figs h.df (fun c hc => by cases hc)
    obtain ⟨q1, q2, q3⟩ := at3_yes hxt
    rw [r5] at q1 q2 q3
    have q1' : bad3 t.text = false := by rw [q1, hD]; rfl
    have hl6 : i6F t.text = t.text.length := by
      have := congrArg List.length d5
      rw [List.length_drop, List.append_nil] at this
      have hle := i5F_le t.text
      rw [q3]; omega
    rw [scan_all b1 p3 q1' hl6, s45, p1, e1, q2, hl6]

end Np
end Go.Proofs.YtfmoigbiohbocaaDoor
