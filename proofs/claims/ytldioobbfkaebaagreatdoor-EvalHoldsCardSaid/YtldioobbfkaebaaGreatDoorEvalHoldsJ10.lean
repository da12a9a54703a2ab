/-
  Joined: RefW2, FwA0, FwP, FwP2, FrA, PT4, ValW5, FwA.
-/
import Derived.Test.YtldioobbfkaebaaGreatDoorEvalHoldsJ6
import Derived.Outline
import Derived.Test.YtldioobbfkaebaaGreatDoorEvalHoldsJ9
import Derived.Test.YtldioobbfkaebaaGreatDoorEvalHoldsJ7
import Derived.Test.YtldioobbfkaebaaGreatDoorEvalHoldsJ8
set_option maxHeartbeats 4000000
set_option maxRecDepth 100000
namespace Go.Proofs.YtldioobbfkaebaaGreatDoor
section
open Go.RowKit Np
theorem take_eq_succ {α : Type} {a b : List α} {k : Nat} {x y : α} (h : a.take k = b.take k) (hx : a[k]? = some x) (hy : b[k]? = some y) (he : x = y) : a.take (k + 1) = b.take (k + 1) := by
 rw [List.take_add_one, List.take_add_one, h, hx, hy, he]
theorem ne_of_at {α : Type} {a b : List α} {k : Nat} {x y : α} (hx : a[k]? = some x) (hy : b[k]? = some y) (he : x ≠ y) : a ≠ b := by
 rintro rfl
 rw [hx] at hy
 exact he (Option.some.inj hy)
theorem eq_of_take {α : Type} {a b : List α} {k : Nat} (h : a.take k = b.take k) (ha : a.length ≤ k) (hb : b.length ≤ k) : a = b := by
 rwa [List.take_of_length_le ha, List.take_of_length_le hb] at h
theorem refSame_quiet (va vb : Value) (la lb : List Nd) (w : World) (ha : Nds w va la) (hb : Nds w vb lb) :
  Calls Tryz.prog 15 #[va, vb] w fun e w' => e = .returned (.bool (decide (la = lb))) ∧ ∃ n, w' = w.drewN n := by
 have hB : ∃ n, w = w.drewN n := ⟨0, rfl⟩
 by_cases hl : la.length = lb.length
 ·rcases Nat.eq_zero_or_pos la.length with h0 | h0
  ·have e1 := List.eq_nil_of_length_eq_zero h0
   have e2 := List.eq_nil_of_length_eq_zero (hl ▸ h0)
   subst e1 e2
   obtain ⟨A, c, rfl, -⟩ := ha
   obtain ⟨B, d, rfl, -⟩ := hb
   clear hl h0
   simp only [List.length_nil]
   go_enter Tryz.func15, Tryz.ntmps15
   go_wp2
   go_loopw [5] (fun i wr => i = .int .i64 0 ∧ wr = w) (fun _ _ => 0)
   case atStart => exact ⟨rfl, rfl⟩
   case round =>
    obtain ⟨rfl, rfl⟩ := hrel
    go_wp2
    go_ret
    exact ⟨ret_bool rfl, hB⟩
  ·have hlen := ha.len
   obtain ⟨g, o, c, rfl, hc, hcm, hg, hx⟩ := ha.opened h0
   obtain ⟨g2, o2, c2, rfl, hc2, hcm2, hg2, hx2⟩ := hb.opened (hl ▸ h0)
   rw [← hl]
   have HX := Lib.hid hx
   have HX2 := Lib.hid hx2
   have HL := Lib.hid hl
   clear hx hx2 hl
   generalize hn : la.length = n at *
   have HN := Lib.hid hn; clear hn
   unfold maxLen at hlen
   have hneq := neq_nd
   go_enter Tryz.func15, Tryz.ntmps15
   go_wp2
   go_loopw [5] (fun i wr => ∃ k : Nat, k ≤ n ∧ i = .int .i64 k ∧ (∃ m, wr = w.drewN m) ∧ la.take k = lb.take k) (fun i _ => n - (intOf i).toNat)
   case atStart => exact ⟨0, Nat.zero_le _, rfl, ⟨0, rfl⟩, rfl⟩
   case round =>
    obtain ⟨k, hk, rfl, hq, ht⟩ := hrel
    have HQ := Lib.hid hq; clear hq
    have HT := Lib.hid ht; clear ht
    by_cases hlt : k < n
    ·obtain ⟨a, ha⟩ : ∃ a, la[k]? = some a := ⟨_, List.getElem?_eq_getElem (by rw [HN.out]; exact hlt)⟩
     obtain ⟨b, hb'⟩ : ∃ b, lb[k]? = some b := ⟨_, List.getElem?_eq_getElem (by rw [← HL.out]; exact hlt)⟩
     obtain ⟨a0, a1, a2, a3, a4, a5⟩ := (HX.out k a ha).nd.quiet HQ.out
     obtain ⟨b0, b1, b2, b3, b4, b5⟩ := (HX2.out k b hb').nd.quiet HQ.out
     have HA := Lib.hid ha
     have HB := Lib.hid hb'
     clear ha hb'
     by_cases he : a = b
     ·have HE : Hid (la.take (k + 1) = lb.take (k + 1)) := Lib.hid (take_eq_succ HT.out HA.out HB.out he)
      have hd : decide (a = b) = true := by simp [he]
      clear he
      go_wp2
      go_quiet (fail)
      go_wp2
      go_roundw
      case rel => exact ⟨k + 1, by omega, by go_num, quiet_more HQ.out _, HE.out⟩
      case measure => simp [intOf]; omega
     ·have HE : Hid (la ≠ lb) := Lib.hid (ne_of_at HA.out HB.out he)
      have hd : decide (a = b) = false := by simp [he]
      clear he
      go_wp2
      go_quiet (fail)
      go_wp2
      go_ret
      exact ⟨ret_bool (by simp [HE.out]), quiet_more HQ.out _⟩
    ·have HE : Hid (la = lb) := Lib.hid (eq_of_take HT.out (by rw [HN.out]; omega) (by rw [← HL.out]; omega))
     go_wp2
     go_ret
     exact ⟨ret_bool (by simp [HE.out]), HQ.out⟩
 ·obtain ⟨A, c, rfl, -⟩ := ha
  obtain ⟨B, d, rfl, -⟩ := hb
  have HE : Hid (la ≠ lb) := Lib.hid (fun h => hl (by rw [h]))
  have hz : ((la.length : Int) == lb.length) = false := by simp; omega
  have hz2 : ((la.length : Int) != lb.length) = true := by simp; omega
  clear hl
  go_enter Tryz.func15, Tryz.ntmps15
  go_wp2
  go_ret
  exact ⟨ret_bool (by simp [HE.out]), hB⟩
theorem refSame_any (va vb : Value) (la lb : List Nd) (w : World) (ha : Nds w va la) (hb : Nds w vb lb) :
  Calls Tryz.prog 15 #[va, vb] w fun e w' => e = .returned (.bool (decide (la = lb))) ∧ Below w.heap.size w w' :=
 (refSame_quiet va vb la lb w ha hb).mono fun _ _ ⟨he, hw⟩ => ⟨he, below_quiet hw⟩
end
section
open Go.RowKit Np Rw Vp Pw Fw
end
section
namespace Fw
open Go.RowKit Np Rw Vp Pw
def isC (op : Int) : Bool := decide (16 ≤ op ∧ op ≤ 19)
def ofC (op : Int) : Bool := decide (op = 7 ∨ op = 17 ∨ op = 18 ∨ op = 19)
def isPth (s : List UInt8) : Bool := decide ((readP s).2.2 = 0)
def flatN (c : Nd) : Bool := rightL [c] && !cont c.kind
def sOk (op : Int) (s : List UInt8) : Bool := if op = 1 then vld s else if op = 12 ∨ op = 13 ∨ op = 15 ∨ op = 16 then isPth s else decide (s = [])
def nOk (op n : Int) : Bool := if op = 2 ∨ op = 3 then decide (0 ≤ n) && decide (n ≤ 1000000) else if op = 16 then decide (0 ≤ n) && decide (n ≤ 5) else decide (n = 0)
def cOk (op : Int) (c : Nd) : Bool := if op = 16 then flatN c else decide (c = zeroC)
def manyOk (op many : Int) : Bool :=
 if op = 4 ∨ op = 17 ∨ op = 18 then decide (many = 2)
 else if op = 5 ∨ op = 6 ∨ op = 7 ∨ op = 19 then decide (many = 1)
 else if op = 8 ∨ op = 9 then decide (0 ≤ many)
 else decide (many = 0)
def plainT (t : Tm) : Bool := decide (0 ≤ t.op ∧ t.op ≤ 19) && manyOk t.op t.many && sOk t.op t.s && nOk t.op t.n && cOk t.op t.c
theorem plainT_many {t : Tm} (h : plainT t = true) : 0 ≤ t.many := by
 unfold plainT manyOk at h
 simp only [Bool.and_eq_true] at h
 have h2 := h.1.1.1.2
 split at h2
 ·simp at h2; omega
 ·split at h2
  ·simp at h2; omega
  ·split at h2
   ·simp at h2; omega
   ·simp at h2; omega
structure Hf where
 op : Int
 left : Int
 ahead : List (List UInt8)
deriving DecidableEq
def letsN (h : Hf) (name : List UInt8) : Bool := if h.op = 8 then !decide (name ∈ h.ahead) && vld name else decide (name = [])
def letsF (h : Hf) (t : Tm) : Bool := !(decide (h.op = 4) && decide (h.left = 2) && decide (t.op = 4)) && (isC t.op == ofC h.op) && letsN h t.name
def popF : List Hf → List Hf
 | [] => []
 | h :: st => if h.left = 0 then popF st else h :: st
def stepF (h : Hf) (t : Tm) : Hf := ⟨h.op, h.left - 1, h.ahead ++ [t.name]⟩
def passF : List Hf → Tm → List Hf
 | [], _ => []
 | h :: st, t => if 0 < t.many then ⟨t.op, t.many, []⟩ :: stepF h t :: st else popF (stepF h t :: st)
theorem passF_cons (h : Hf) (st : List Hf) (t : Tm) : passF (h :: st) t = if 0 < t.many then ⟨t.op, t.many, []⟩ :: stepF h t :: st else popF (stepF h t :: st) := rfl
def runF : List Hf → List Tm → Bool
 | st, [] => st.isEmpty
 | [], _ :: _ => false
 | h :: st, t :: l => letsF h t && plainT t && runF (passF (h :: st) t) l
def startF : List Hf := [⟨9, 1, []⟩]
def rightF (l : List Tm) : Bool := runF startF l
theorem runF_nil (st : List Hf) : runF st [] = st.isEmpty := by cases st <;> simp [runF]
theorem runF_cons (h : Hf) (st : List Hf) (t : Tm) (l : List Tm) : runF (h :: st) (t :: l) = (letsF h t && plainT t && runF (passF (h :: st) t) l) := by simp [runF]
def FitF : List Hf → Prop
 | [] => True
 | h :: st => 1 ≤ h.left ∧ ∀ x ∈ st, 0 ≤ x.left
theorem popF_fit : ∀ {st : List Hf}, (∀ x ∈ st, 0 ≤ x.left) → FitF (popF st)
 | [], _ => by simp [popF, FitF]
 | h :: st, hh => by
  have h0 := hh h (by simp)
  have h1 : ∀ x ∈ st, 0 ≤ x.left := fun x hx => hh x (by simp [hx])
  unfold popF
  split
  ·exact popF_fit h1
  ·exact ⟨by omega, h1⟩
theorem passF_fit {st : List Hf} {t : Tm} (h : FitF st) : FitF (passF st t) := by
 cases st with
 | nil => simp [passF, FitF]
 | cons a st =>
  obtain ⟨h1, h2⟩ := h
  have h3 : ∀ x ∈ stepF a t :: st, 0 ≤ x.left := by
   intro x hx
   rcases List.mem_cons.1 hx with rfl | hx
   ·simp [stepF]; omega
   ·exact h2 x hx
  rw [passF_cons]
  split
  ·rename_i h0; exact ⟨by simp; omega, h3⟩
  ·exact popF_fit h3
def sumF : List Hf → Nat
 | [] => 0
 | h :: st => h.left.toNat + sumF st
theorem sumF_pop : ∀ st : List Hf, sumF (popF st) = sumF st
 | [] => rfl
 | h :: st => by
  unfold popF
  split
  ·rename_i h0; rw [sumF_pop st, sumF, h0]; simp
  ·rfl
theorem runF_skip : ∀ (l : List Tm) (st : List Hf), FitF st → runF st l = true → skip tmany l (sumF st) = some []
 | [], st, _, h => by
  rw [runF_nil, List.isEmpty_iff] at h
  subst h; rfl
 | t :: l, [], _, h => by simp [runF] at h
 | t :: l, a :: st, hf, h => by
  rw [runF_cons, Bool.and_eq_true, Bool.and_eq_true] at h
  obtain ⟨⟨_, hp⟩, hr⟩ := h
  have h0 := plainT_many hp
  have ih := runF_skip l _ (passF_fit hf) hr
  obtain ⟨h1, h2⟩ := hf
  have e : sumF (a :: st) = (a.left - 1).toNat + sumF st + 1 := by rw [sumF]; omega
  rw [e, skip_cons, if_neg (by show ¬ t.many < 0; omega)]
  rw [← ih]
  congr 1
  rw [passF_cons]
  split
  ·simp [sumF, stepF, tmany]; omega
  ·rw [sumF_pop]; simp [sumF, stepF, tmany]; omega
mutual
def rightTF : Tr Tm → Bool
 | .mk t ks => plainT t && rightKF t.op t.many [] ks
def rightKF (op : Int) : Int → List (List UInt8) → List (Tr Tm) → Bool
 | _, _, [] => true
 | left, ahead, k :: ks => letsF ⟨op, left, ahead⟩ k.nd && rightTF k && rightKF op (left - 1) (ahead ++ [k.nd.name]) ks
end
theorem rightTF_mk (t : Tm) (ks : List (Tr Tm)) : rightTF (.mk t ks) = (plainT t && rightKF t.op t.many [] ks) := by simp [rightTF]
theorem rightTF_eq (t : Tr Tm) : rightTF t = (plainT t.nd && rightKF t.nd.op t.nd.many [] t.ks) := by cases t; simp [rightTF]
@[simp] theorem rightKF_nil (op left : Int) (a : List (List UInt8)) : rightKF op left a [] = true := by simp [rightKF]
theorem rightKF_cons (op left : Int) (a : List (List UInt8)) (k : Tr Tm) (ks : List (Tr Tm)) : rightKF op left a (k :: ks) = (letsF ⟨op, left, a⟩ k.nd && rightTF k && rightKF op (left - 1) (a ++ [k.nd.name]) ks) := by simp [rightKF]
mutual
theorem runF_flat : ∀ (t : Tr Tm) (h : Hf) (st : List Hf) (r : List Tm), okT tmany t →
  runF (h :: st) (flat t ++ r) = (letsF h t.nd && rightTF t && runF (popF (stepF h t.nd :: st)) r)
 | .mk n ks, h, st, r, ho => by
  obtain ⟨h1, h2⟩ := okT_mk.1 ho
  have h1' : n.many = ks.length := h1
  rw [flat_mk, List.cons_append, runF_cons, rightTF_mk, Tr.nd_mk]
  cases ks with
  | nil =>
   have h0 : n.many = 0 := h1'
   simp [passF, h0]
  | cons t ts =>
   have h0 : 0 < n.many := by rw [h1', List.length_cons]; omega
   rw [passF, if_pos h0, runF_flats (t :: ts) ⟨n.op, n.many, []⟩ (stepF h n :: st) r h2 (by simp) (by simpa using h1')]
   simp only [Bool.and_assoc]
theorem runF_flats : ∀ (ts : List (Tr Tm)) (h : Hf) (st : List Hf) (r : List Tm), okTs tmany ts → ts ≠ [] → h.left = ts.length →
  runF (h :: st) (flats ts ++ r) = (rightKF h.op h.left h.ahead ts && runF (popF st) r)
 | [], _, _, _, _, h0, _ => absurd rfl h0
 | [t], h, st, r, ho, _, hl => by
  rw [flats_cons, flats_nil, List.append_nil, runF_flat t h st r (okTs_cons.1 ho).1, rightKF_cons, rightKF_nil]
  have : (stepF h t.nd).left = 0 := by simp [stepF, hl]
  rw [popF, if_pos this, Bool.and_true]
 | t :: u :: ts, h, st, r, ho, _, hl => by
  obtain ⟨h1, h2⟩ := okTs_cons.1 ho
  rw [flats_cons, List.append_assoc, runF_flat t h st _ h1, rightKF_cons]
  have : ¬ (stepF h t.nd).left = 0 := by simp [stepF, hl]; omega
  rw [popF, if_neg this, runF_flats (u :: ts) (stepF h t.nd) st r h2 (by simp) (by simp [stepF, hl])]
  simp only [stepF, Bool.and_assoc]
end
structure Flt (t : Tr Tm) : Prop where
 ok : okT tmany t
 rt : rightTF t = true
 nm : t.nd.name = []
 nc : isC t.nd.op = false
theorem rightF_flat {t : Tr Tm} (h : okT tmany t) : rightF (flat t) = (decide (t.nd.name = []) && !isC t.nd.op && rightTF t) := by
 have := runF_flat t ⟨9, 1, []⟩ [] [] h
 rw [List.append_nil] at this
 rw [rightF, startF, this]
 have e : popF [stepF ⟨9, 1, []⟩ t.nd] = [] := by simp [popF, stepF]
 rw [e, runF_nil]
 simp only [letsF, letsN, ofC]
 cases isC t.nd.op <;> cases rightTF t <;> simp
theorem flt_of_rightF {l : List Tm} (h : rightF l = true) : ∃ t, Flt t ∧ l = flat t := by
 have h1 := runF_skip l startF ⟨by simp, by simp⟩ h
 obtain ⟨t, ht, rfl⟩ := skip_one (many := tmany) h1
 rw [rightF_flat ht, Bool.and_eq_true, Bool.and_eq_true, decide_eq_true_eq, Bool.not_eq_true'] at h
 exact ⟨t, ⟨ht, h.2, h.1.1, h.1.2⟩, rfl⟩
theorem flt_parts {op : Int} : ∀ {left : Int} {a : List (List UInt8)} {ks : List (Tr Tm)}, rightKF op left a ks = true → ∀ k ∈ ks, rightTF k = true ∧ isC k.nd.op = ofC op ∧ (op ≠ 8 → k.nd.name = []) ∧ vld k.nd.name = true
 | _, _, [], _, k, hk => by simp at hk
 | left, a, u :: ks, h, k, hk => by
  rw [rightKF_cons, Bool.and_eq_true, Bool.and_eq_true] at h
  rcases List.mem_cons.1 hk with rfl | hk
  ·have h1 := h.1.1
   unfold letsF at h1
   simp only [Bool.and_eq_true, beq_iff_eq] at h1
   refine ⟨h.1.2, h1.1.2, fun h8 => ?_, ?_⟩
   ·have := h1.2; unfold letsN at this; rw [if_neg h8] at this; simpa using this
   ·have := h1.2
    unfold letsN at this
    split at this
    ·simp only [Bool.and_eq_true] at this; exact this.2
    ·simp at this; rw [this]; exact vld_nil
  ·exact flt_parts h.2 k hk
end Fw
end
section
namespace Fw
open Go.RowKit Np Rw Vp Pw
def kidsF (op : Int) : Int → List (List UInt8) → List (Tr Tm) → Bool
 | _, _, [] => true
 | left, ahead, k :: ks => letsF ⟨op, left, ahead⟩ k.nd && kidsF op (left - 1) (ahead ++ [k.nd.name]) ks
theorem kidsF_cons (op left : Int) (a : List (List UInt8)) (k : Tr Tm) (ks : List (Tr Tm)) : kidsF op left a (k :: ks) = (letsF ⟨op, left, a⟩ k.nd && kidsF op (left - 1) (a ++ [k.nd.name]) ks) := rfl
def termOk (t : Tr Tm) : Bool := plainT t.nd && kidsF t.nd.op t.nd.many [] t.ks
theorem rightKF_all (op : Int) : ∀ (ks : List (Tr Tm)) (left : Int) (a : List (List UInt8)), rightKF op left a ks = (kidsF op left a ks && ks.all rightTF)
 | [], _, _ => rfl
 | k :: ks, left, a => by
  rw [rightKF_cons, rightKF_all op ks, kidsF_cons, List.all_cons]
  cases letsF ⟨op, left, a⟩ k.nd <;> cases rightTF k <;> simp
theorem rightTF_node (t : Tr Tm) : rightTF t = (termOk t && t.ks.all rightTF) := by
 rw [rightTF_eq, rightKF_all, termOk, Bool.and_assoc]
mutual
theorem rightTF_subs : ∀ t : Tr Tm, rightTF t = (subs t).all termOk
 | .mk n ks => by rw [rightTF_node, subs_mk, List.all_cons, Tr.ks_mk, rightTFs_subs ks]
theorem rightTFs_subs : ∀ ts : List (Tr Tm), ts.all rightTF = (subss ts).all termOk
 | [] => by simp
 | t :: ts => by rw [subss_cons, List.all_append, List.all_cons, rightTF_subs t, rightTFs_subs ts]
end
theorem flt_kids {t : Tr Tm} (ho : okT tmany t) (hr : rightTF t = true) : ∀ k ∈ t.ks, okT tmany k ∧ rightTF k = true ∧ isC k.nd.op = ofC t.nd.op ∧ (t.nd.op ≠ 8 → k.nd.name = []) ∧ vld k.nd.name = true := by
 rw [rightTF_eq, Bool.and_eq_true] at hr
 intro k hk
 obtain ⟨h1, h2, h3, h4⟩ := flt_parts hr.2 k hk
 exact ⟨okTs_all.1 (okT_eq.1 ho).2 k hk, h1, h2, h3, h4⟩
def clrF (t : Tr Tm) : Tr Tm := .mk (noNm t.nd) t.ks
theorem flat_clrF (t : Tr Tm) : flat (clrF t) = noNm t.nd :: flats t.ks := by rw [clrF, flat_mk]
theorem clrF_self {t : Tr Tm} (h : t.nd.name = []) : clrF t = t := by
 obtain ⟨⟨o, m, nm, s, n, c⟩, ks⟩ := t
 simp at h
 subst h; rfl
def nxtF (N : Nat) : List Tm → Nat → Nat → Int
 | _, 0, i => i
 | [], _ + 1, _ => -1
 | n :: l, o + 1, i => if n.many < 0 ∨ (N : Int) < n.many then -1 else nxtF N l (o + n.many.toNat) (i + 1)
@[simp] theorem nxtF_zero (N : Nat) (l : List Tm) (i : Nat) : nxtF N l 0 i = i := by cases l <;> simp [nxtF]
@[simp] theorem nxtF_nil (N o i : Nat) : nxtF N [] (o + 1) i = -1 := by simp [nxtF]
theorem nxtF_cons (N : Nat) (n : Tm) (l : List Tm) (o i : Nat) : nxtF N (n :: l) (o + 1) i = if n.many < 0 ∨ (N : Int) < n.many then -1 else nxtF N l (o + n.many.toNat) (i + 1) := by simp [nxtF]
mutual
theorem nxtF_flat : ∀ (t : Tr Tm) (N : Nat) (r : List Tm) (k i : Nat), okT tmany t → (flat t).length ≤ N → nxtF N (flat t ++ r) (k + 1) i = nxtF N r k (i + (flat t).length)
 | .mk n ks, N, r, k, i, h, hl => by
  obtain ⟨h1, h2⟩ := okT_mk.1 h
  have h1' : n.many = ks.length := h1
  have h3 := flats_len ks
  rw [flat_mk, List.length_cons] at hl
  rw [flat_mk, List.cons_append, nxtF_cons, if_neg (by omega), h1', Int.toNat_natCast, Nat.add_comm k, nxtF_flats ks N r k (i + 1) h2 (by omega), List.length_cons]
  congr 1; omega
theorem nxtF_flats : ∀ (ts : List (Tr Tm)) (N : Nat) (r : List Tm) (k i : Nat), okTs tmany ts → (flats ts).length ≤ N → nxtF N (flats ts ++ r) (ts.length + k) i = nxtF N r k (i + (flats ts).length)
 | [], N, r, k, i, _, _ => by simp
 | t :: ts, N, r, k, i, h, hl => by
  obtain ⟨h1, h2⟩ := okTs_cons.1 h
  rw [flats_cons, List.length_append] at hl
  rw [flats_cons, List.append_assoc, List.length_cons, show ts.length + 1 + k = ts.length + k + 1 by omega, nxtF_flat t N _ _ i h1 (by omega), nxtF_flats ts N r k _ h2 (by omega), List.length_append]
  congr 1; omega
end
theorem nxtF_inv (N : Nat) : ∀ (l : List Tm) (k i : Nat), 0 ≤ nxtF N l k i → ∃ r, skip tmany l k = some r ∧ nxtF N l k i + r.length = i + l.length
 | l, 0, i, _ => ⟨l, by simp, by simp⟩
 | [], k + 1, i, h => by simp at h
 | n :: l, k + 1, i, h => by
  rw [nxtF_cons] at h ⊢
  by_cases hn : n.many < 0 ∨ (N : Int) < n.many
  ·rw [if_pos hn] at h; omega
  ·rw [if_neg hn] at h ⊢
   obtain ⟨r, h1, h2⟩ := nxtF_inv N l _ _ h
   refine ⟨r, ?_, ?_⟩
   ·rw [skip_cons, if_neg (by show ¬ n.many < 0; omega)]; exact h1
   ·rw [h2, List.length_cons]; omega
theorem nxtF_whole {l : List Tm} : nxtF l.length l 1 0 = l.length ↔ skip tmany l 1 = some [] := by
 constructor
 ·intro h
  obtain ⟨r, h1, h2⟩ := nxtF_inv l.length l 1 0 (by omega)
  rw [h] at h2
  have : r = [] := List.eq_nil_of_length_eq_zero (by omega)
  rw [h1, this]
 ·intro h
  obtain ⟨t, ht, rfl⟩ := skip_one h
  have := nxtF_flat t (flat t).length [] 0 0 ht (Nat.le_refl _)
  simpa using this
theorem nxtF_at {l r : List Tm} {k : Nat} {t : Tr Tm} (h : l.drop k = flat t ++ r) (ho : okT tmany t) : nxtF l.length (l.drop k) 1 k = (k + (flat t).length : Nat) := by
 have hl : (flat t).length ≤ l.length := by
  have := congrArg List.length h
  rw [List.length_drop, List.length_append] at this; omega
 rw [h, nxtF_flat t l.length r 0 k ho hl]
 simp
end Fw
end
section
open Go.RowKit Np Rw Vp Pw Fw
theorem refNextT_any (v : Value) (l : List Tm) (i : Nat) (w : World) (hv : Tms w v l) (hl : l.length ≤ 65536) (hi : i ≤ l.length) :
  Calls Tryz.prog 60 #[v, .int .i64 i] w fun e w' => e = .returned (.int .i64 (nxtF l.length (l.drop i) 1 i)) ∧ w = w' := by
 generalize hans : nxtF l.length (l.drop i) 1 i = ans
 have HANS := Lib.hid hans; clear hans
 rcases Nat.lt_or_ge i l.length with hlt | hge
 ·obtain ⟨g, o, c, rfl, hc, hcm, hg, hx⟩ := hv.opened (by omega)
  have HX := Lib.hid hx; clear hx
  generalize hn : l.length = n at *
  have HN := Lib.hid hn; clear hn
  go_enter Tryz.func60, Tryz.ntmps60
  go_wp2
  go_loop [1, 5] (fun i op => ∃ k q : Nat, k ≤ n ∧ q ≤ 1 + k * 65536 ∧ i = .int .i64 k ∧ op = .int .i64 q ∧ nxtF n (l.drop k) q k = ans) (fun i _ => n - (intOf i).toNat)
  case atStart => exact ⟨i, 1, hi, by omega, rfl, rfl, HANS.out⟩
  case round =>
   obtain ⟨k, q, hk, hq, rfl, rfl, hans⟩ := hrel
   have HA := Lib.hid hans; clear hans
   by_cases hq0 : q = 0
   ·subst hq0
    have HE : Hid ((k : Int) = ans) := Lib.hid (by rw [← HA.out, nxtF_zero])
    go_wp2
    go_ret
    exact ⟨ret_i64 HE.out, rfl⟩
   ·obtain ⟨p, rfl⟩ : ∃ p, q = p + 1 := ⟨q - 1, by omega⟩
    have hqp : (0 : Int) < (p + 1 : Nat) := by omega
    by_cases hkn : k < n
    ·obtain ⟨x, hx⟩ : ∃ a, l[k]? = some a := ⟨_, List.getElem?_eq_getElem (by rw [HN.out]; exact hkn)⟩
     obtain ⟨a0, a1, a2, a3, a4, a5⟩ := (HX.out k x hx).tm
     have HD : Hid (nxtF n (l.drop k) (p + 1) k = if x.many < 0 ∨ (n : Int) < x.many then -1 else nxtF n (l.drop (k + 1)) (p + x.many.toNat) (k + 1)) := Lib.hid (by rw [drop_at hx, nxtF_cons])
     clear hx
     by_cases hm : x.many < 0
     ·have HE : Hid (-1 = ans) := Lib.hid (by rw [← HA.out, HD.out, if_pos (.inl hm)])
      go_wp2
      go_ret
      exact ⟨ret_i64 HE.out, rfl⟩
     ·by_cases hm2 : (n : Int) < x.many
      ·have HE : Hid (-1 = ans) := Lib.hid (by rw [← HA.out, HD.out, if_pos (.inr hm2)])
       go_wp2
       go_ret
       exact ⟨ret_i64 HE.out, rfl⟩
      ·obtain ⟨m, hme⟩ : ∃ m : Nat, x.many = m := ⟨x.many.toNat, by omega⟩
       rw [hme] at a1 hm hm2
       have HE : Hid (nxtF n (l.drop (k + 1)) (p + m) (k + 1) = ans) := Lib.hid (by rw [← HA.out, HD.out, if_neg (by omega), hme]; rfl)
       clear hme
       go_wp2
       go_round
       case rel => exact ⟨k + 1, p + m, by omega, by omega, by go_num, by go_num, HE.out⟩
       case measure => simp [intOf]; omega
    ·have HE : Hid (-1 = ans) := Lib.hid (by rw [← HA.out, List.drop_of_length_le (by rw [HN.out]; omega), nxtF_nil])
     go_wp2
     go_ret
     exact ⟨ret_i64 HE.out, rfl⟩
 ·have HE : Hid (-1 = ans) := Lib.hid (by rw [← HANS.out, List.drop_of_length_le hge, nxtF_nil])
  obtain ⟨A, c, rfl, -⟩ := hv
  go_enter Tryz.func60, Tryz.ntmps60
  go_wp2
  go_loop [1, 5] (fun a op => a = .int .i64 i ∧ op = .int .i64 1) (fun _ _ => 0)
  case atStart => exact ⟨rfl, rfl⟩
  case round =>
   obtain ⟨rfl, rfl⟩ := hrel
   go_wp2
   go_ret
   exact ⟨ret_i64 HE.out, rfl⟩
theorem tmr_below (w : World) (t : Tm) : Below w.heap.size w (w.alloc (.cells #[.int .i64 t.op, .int .i64 t.many, .string ⟨t.name.toArray⟩, .string ⟨t.s.toArray⟩, .int .i64 t.n, .int .i64 t.c.kind, .int .i64 t.c.many, .string ⟨t.c.name.toArray⟩, .string ⟨t.c.s.toArray⟩, .bool t.c.neg, .int .i64 t.c.e] 32)) := (Below.refl _ _).alloc (Nat.le_refl _) _
theorem tmr_alloc (w : World) (t : Tm) : Tm11 (w.alloc (.cells #[.int .i64 t.op, .int .i64 t.many, .string ⟨t.name.toArray⟩, .string ⟨t.s.toArray⟩, .int .i64 t.n, .int .i64 t.c.kind, .int .i64 t.c.many, .string ⟨t.c.name.toArray⟩, .string ⟨t.c.s.toArray⟩, .bool t.c.neg, .int .i64 t.c.e] 32)) w.heap.size 0 t := by
 have h := heap_alloc_new w (.cells #[.int .i64 t.op, .int .i64 t.many, .string ⟨t.name.toArray⟩, .string ⟨t.s.toArray⟩, .int .i64 t.n, .int .i64 t.c.kind, .int .i64 t.c.many, .string ⟨t.c.name.toArray⟩, .string ⟨t.c.s.toArray⟩, .bool t.c.neg, .int .i64 t.c.e] 32)
 constructor <;> (rw [Lib.cell_of_heap h]; rfl)
theorem refIs_any (t : Tm) (w : World) :
  Calls Tryz.prog 72 #[tma t] w fun e w' => e = .returned (.bool (isC t.op)) ∧ Below w.heap.size w w' := by
 have HB := Lib.hid (tmr_below w t)
 obtain ⟨op, many, name, s, n, c⟩ := t
 by_cases h1 : 16 ≤ op
 ·by_cases h2 : op ≤ 19
  ·have HE : Hid (isC op = true) := Lib.hid (by simp [isC, h1, h2])
   go_enter Tryz.func72, Tryz.ntmps72
   go_wp2_with fail
   go_ret
   exact ⟨ret_bool HE.out.symm, HB.out⟩
  ·have HE : Hid (isC op = false) := Lib.hid (by simp [isC, h2])
   go_enter Tryz.func72, Tryz.ntmps72
   go_wp2_with fail
   go_ret
   exact ⟨ret_bool HE.out.symm, HB.out⟩
 ·have HE : Hid (isC op = false) := Lib.hid (by simp [isC, h1])
  go_enter Tryz.func72, Tryz.ntmps72
  go_wp2_with fail
  go_ret
  exact ⟨ret_bool HE.out.symm, HB.out⟩
end
section
open Go.RowKit Np Rw Vp Up Qp Pw
theorem figD_take {r : List UInt8} {j : Nat} (hj : j ≤ 7) (hl : j ≤ r.length) (h0 : ∀ t, t < j → ∀ x, r[t]? = some x → isF x = true) (h1 : j = 7 ∨ j = r.length ∨ ∃ x, r[j]? = some x ∧ isF x = false) : figD r = r.take j := by
 unfold figD
 have h2 := takeWhile_len isF (r.take 7) j (by rw [List.length_take]; omega) (fun t ht x hx => h0 t ht x (by
  rw [List.getElem?_take] at hx
  split at hx
  ·exact hx
  ·cases hx)) (by
  rw [List.length_take]
  by_cases hj7 : j = 7
  ·left; omega
  ·rcases h1 with h | h | ⟨x, hx, hp⟩
   ·exact absurd h hj7
   ·left; omega
   ·right
    exact ⟨x, by rw [List.getElem?_take, if_pos (by omega)]; exact hx, hp⟩)
 rw [h2, List.take_take, Nat.min_eq_left hj]
theorem valD_take {r : List UInt8} {j : Nat} {c : UInt8} (h : r[j]? = some c) : valD (r.take (j + 1)) = valD (r.take j) * 10 + (c.toNat - 48) := by
 rw [List.take_add_one, h]
 exact valD_snoc _ _
theorem valD_lt : ∀ (j : Nat) (r : List UInt8), (∀ t, t < j → ∀ x, r[t]? = some x → isF x = true) → valD (r.take j) < 10 ^ j
 | 0, r, _ => by simp [valD]
 | j + 1, r, h => by
  have ih := valD_lt j r (fun t ht => h t (by omega))
  cases hc : r[j]? with
  | none =>
   rw [List.take_add_one, hc]
   simp only [Option.toList, List.append_nil]
   rw [Nat.pow_succ]; omega
  | some c =>
   have hf := isF_iff.1 (h j (by omega) c hc)
   rw [valD_take hc, Nat.pow_succ]; omega
def figV (i : Nat) : Option (Nat × Nat) → Value
 | none => .tuple #[.int .i64 (-1), .int .i64 i]
 | some x => .tuple #[.int .i64 x.1, .int .i64 (i + x.2 : Nat)]
theorem refFigP_any (s : ByteArray) (i : Nat) (w : World) (hs : s.size ≤ 1000000) (hi : i ≤ s.size) : Calls Tryz.prog 170 #[.string s, .int .i64 i] w fun e w' => e = .returned (figV i (figR (s.data.toList.drop i))) ∧ w' = w := by
 have HR : Hid (∀ j, i + j < s.size → ∃ c : UInt8, (s.data.toList.drop i)[j]? = some c ∧ ∀ h : i + j < s.size, s[i + j] = c) := Lib.hid (fun j hj => ⟨s[i + j], by
  rw [List.getElem?_drop, List.getElem?_eq_getElem (by rw [size_toList]; exact hj)]; rfl, fun _ => rfl⟩)
 have HL : Hid ((s.data.toList.drop i).length = s.size - i) := Lib.hid (by rw [List.length_drop, size_toList])
 generalize s.data.toList.drop i = r at *
 go_enter Tryz.func170, Tryz.ntmps170
 go_wp2_with fail
 go_loopw [1, 6] (fun iv nv wr => ∃ j : Nat, j ≤ 7 ∧ i + j ≤ s.size ∧ iv = .int .i64 ((i + j : Nat) : Int) ∧ nv = .int .i64 (valD (r.take j)) ∧ Hid (∀ t, t < j → ∀ x, r[t]? = some x → isF x = true) ∧ wr = w) (fun iv _ _ => s.size - (intOf iv).toNat)
 case atStart => exact ⟨0, by omega, by omega, by simp, rfl, Lib.hid (fun t ht => by omega), rfl⟩
 case round =>
  obtain ⟨j, hj, hij, rfl, rfl, HF, rfl⟩ := hrel
  have hvl : valD (r.take j) < 10000000 := by
   have h1 := valD_lt j r HF.out
   have h2 : 10 ^ j ≤ 10 ^ 7 := Nat.pow_le_pow_right (by omega) hj
   omega
  have hi2 : ((i + j : Nat) : Int) - (i : Int) = (j : Int) := by omega
  have HEND : Hid (j = 7 ∨ j = r.length ∨ (∃ x, r[j]? = some x ∧ isF x = false) → figD r = r.take j) := Lib.hid (fun h => figD_take hj (by rw [HL.out]; omega) HF.out h)
  by_cases hlt : i + j < s.size
  ·obtain ⟨c, hc, hcs⟩ := HR.out j hlt
   have hc256 := c.toNat_lt
   by_cases hf : 48 ≤ c.toNat ∧ c.toNat ≤ 57
   ·by_cases h7 : j < 7
    ·have HF2 : Hid (∀ t, t < j + 1 → ∀ x, r[t]? = some x → isF x = true) := Lib.hid (fun t ht x hx => by
      by_cases htj : t < j
      ·exact HF.out t htj x hx
      ·obtain rfl : t = j := by omega
       rw [hc] at hx
       injection hx with hx
       subst hx
       rw [isF_iff]; exact hf)
     have HV2 : Hid (valD (r.take (j + 1)) = valD (r.take j) * 10 + (c.toNat - 48)) := Lib.hid (by rw [valD_take hc])
     obtain ⟨hf1, hf2⟩ := hf
     clear hc
     go_wp2_with fail
     refine ⟨⟨j + 1, by omega, by omega, by congr 1, ?_, HF2, trivial⟩, by simp [intOf]; omega⟩
     rw [HV2.out]
     congr 1
     omega
    ·have HD := Lib.hid (HEND.out (.inl (by omega)))
     rcases Nat.eq_zero_or_pos j with h0 | hjp
     ·subst h0
      have HN : Hid (figR r = none) := Lib.hid (by unfold figR; rw [HD.out]; simp)
      go_wp2_with fail
      all_goals first
       | (go_ret2; exact ⟨by rw [HN.out]; rfl, rfl⟩)
       | (exfalso; clear HN HF HR HL; simp at *; omega)
     ·obtain ⟨c0, hc0, hcs0⟩ := HR.out 0 (by omega)
      have hs0 : ∀ h : i < s.size, s[i] = c0 := fun h => hcs0 (by omega)
      have hlt0 : i < s.size := by omega
      have hc0r := c0.toNat_lt
      have hhd : (figD r).head? = some c0 := by
       rw [HD.out, List.head?_take, if_neg (by omega), List.head?_eq_getElem?]
       exact hc0
      have hdl : (figD r).length = j := by rw [HD.out, List.length_take, HL.out]; omega
      have hne : figD r ≠ [] := by intro e; rw [e] at hdl; simp at hdl; omega
      have hji : ((i + j : Nat) : Int) ≠ (i : Int) := by omega
      by_cases hz : c0.toNat = 48 ∧ 1 < j
      ·have HN : Hid (figR r = none) := Lib.hid (by
        unfold figR
        rw [if_pos (.inr (.inl ⟨by rw [hhd, u8_of (c := c0) (n := 48) hz.1 |>.symm]; rfl, by rw [hdl]; exact hz.2⟩))])
       obtain ⟨hz1, hz2⟩ := hz
       clear hhd hdl hne HD HEND hcs0 hc0
       go_wp2_with fail
       all_goals first
        | (go_ret2; exact ⟨by rw [HN.out]; rfl, rfl⟩)
        | (exfalso; clear HN HF HR HL; simp at *; omega)
      ·have hz' : ¬ ((figD r).head? = some 48 ∧ 1 < (figD r).length) := by
        rintro ⟨h1, h2⟩
        rw [hhd] at h1
        injection h1 with h1
        rw [hdl] at h2
        exact hz ⟨by rw [h1]; rfl, h2⟩
       by_cases hm : 1000000 < valD (r.take j)
       ·have HN : Hid (figR r = none) := Lib.hid (by
         unfold figR
         rw [if_pos (.inr (.inr (by rw [HD.out]; exact hm)))])
        clear hhd hdl hne HD HEND hcs0 hc0 hz'
        have hmi : ((valD (r.take j) : Nat) : Int) ≤ 1000000 ∨ (1000000 : Int) < ((valD (r.take j) : Nat) : Int) := by omega
        by_cases h48 : c0.toNat = 48
        ·obtain rfl : j = 1 := by omega
         go_wp2_with fail
         all_goals first
          | (go_ret2; exact ⟨by rw [HN.out]; rfl, rfl⟩)
          | (exfalso; clear HN HF HR HL; simp at *; omega)
        ·have h48b : ((c0.toNat : Int) == 48) = false := by simp; omega
         go_wp2_with fail
         all_goals first
          | (go_ret2; exact ⟨by rw [HN.out]; rfl, rfl⟩)
          | (exfalso; clear HN HF HR HL; simp at *; omega)
       ·have HN : Hid (figR r = some (valD (r.take j), j)) := Lib.hid (by
         unfold figR
         rw [if_neg (by rintro (h | h | h); exact hne h; exact hz' h; rw [HD.out] at h; exact hm h), hdl, HD.out])
        clear hhd hdl hne HD HEND hcs0 hc0 hz'
        have hmi : ((valD (r.take j) : Nat) : Int) ≤ 1000000 ∨ (1000000 : Int) < ((valD (r.take j) : Nat) : Int) := by omega
        by_cases h48 : c0.toNat = 48
        ·obtain rfl : j = 1 := by omega
         go_wp2_with fail
         all_goals first
          | (go_ret2; exact ⟨by rw [HN.out]; rfl, rfl⟩)
          | (exfalso; clear HN HF HR HL; simp at *; omega)
        ·have h48b : ((c0.toNat : Int) == 48) = false := by simp; omega
         go_wp2_with fail
         all_goals first
          | (go_ret2; exact ⟨by rw [HN.out]; rfl, rfl⟩)
          | (exfalso; clear HN HF HR HL; simp at *; omega)
   ·have HD := Lib.hid (HEND.out (.inr (.inr ⟨c, hc, by cases hb : isF c with | false => rfl | true => exact absurd (isF_iff.1 hb) hf⟩)))
    rcases Nat.eq_zero_or_pos j with h0 | hjp
    ·subst h0
     have hcs' : ∀ h : i < s.size, s[i] = c := fun h => hcs (by omega)
     have HN : Hid (figR r = none) := Lib.hid (by unfold figR; rw [HD.out]; simp)
     go_wp2_with fail
     all_goals first
      | (go_ret2; exact ⟨by rw [HN.out]; rfl, rfl⟩)
      | (exfalso; clear HN HF HR HL; simp at *; omega)
    ·obtain ⟨c0, hc0, hcs0⟩ := HR.out 0 (by omega)
     have hs0 : ∀ h : i < s.size, s[i] = c0 := fun h => hcs0 (by omega)
     have hlt0 : i < s.size := by omega
     have hc0r := c0.toNat_lt
     have hhd : (figD r).head? = some c0 := by
      rw [HD.out, List.head?_take, if_neg (by omega), List.head?_eq_getElem?]
      exact hc0
     have hdl : (figD r).length = j := by rw [HD.out, List.length_take, HL.out]; omega
     have hne : figD r ≠ [] := by intro e; rw [e] at hdl; simp at hdl; omega
     have hji : ((i + j : Nat) : Int) ≠ (i : Int) := by omega
     by_cases hz : c0.toNat = 48 ∧ 1 < j
     ·have HN : Hid (figR r = none) := Lib.hid (by
       unfold figR
       rw [if_pos (.inr (.inl ⟨by rw [hhd, u8_of (c := c0) (n := 48) hz.1 |>.symm]; rfl, by rw [hdl]; exact hz.2⟩))])
      obtain ⟨hz1, hz2⟩ := hz
      clear hhd hdl hne HD HEND hcs0 hc0
      go_wp2_with fail
      all_goals first
       | (go_ret2; exact ⟨by rw [HN.out]; rfl, rfl⟩)
       | (exfalso; clear HN HF HR HL; simp at *; omega)
     ·have hz' : ¬ ((figD r).head? = some 48 ∧ 1 < (figD r).length) := by
       rintro ⟨h1, h2⟩
       rw [hhd] at h1
       injection h1 with h1
       rw [hdl] at h2
       exact hz ⟨by rw [h1]; rfl, h2⟩
      by_cases hm : 1000000 < valD (r.take j)
      ·have HN : Hid (figR r = none) := Lib.hid (by
        unfold figR
        rw [if_pos (.inr (.inr (by rw [HD.out]; exact hm)))])
       clear hhd hdl hne HD HEND hcs0 hc0 hz'
       have hmi : ((valD (r.take j) : Nat) : Int) ≤ 1000000 ∨ (1000000 : Int) < ((valD (r.take j) : Nat) : Int) := by omega
       by_cases h48 : c0.toNat = 48
       ·obtain rfl : j = 1 := by omega
        go_wp2_with fail
        all_goals first
         | (go_ret2; exact ⟨by rw [HN.out]; rfl, rfl⟩)
         | (exfalso; clear HN HF HR HL; simp at *; omega)
       ·have h48b : ((c0.toNat : Int) == 48) = false := by simp; omega
        go_wp2_with fail
        all_goals first
         | (go_ret2; exact ⟨by rw [HN.out]; rfl, rfl⟩)
         | (exfalso; clear HN HF HR HL; simp at *; omega)
      ·have HN : Hid (figR r = some (valD (r.take j), j)) := Lib.hid (by
        unfold figR
        rw [if_neg (by rintro (h | h | h); exact hne h; exact hz' h; rw [HD.out] at h; exact hm h), hdl, HD.out])
       clear hhd hdl hne HD HEND hcs0 hc0 hz'
       have hmi : ((valD (r.take j) : Nat) : Int) ≤ 1000000 ∨ (1000000 : Int) < ((valD (r.take j) : Nat) : Int) := by omega
       by_cases h48 : c0.toNat = 48
       ·obtain rfl : j = 1 := by omega
        go_wp2_with fail
        all_goals first
         | (go_ret2; exact ⟨by rw [HN.out]; rfl, rfl⟩)
         | (exfalso; clear HN HF HR HL; simp at *; omega)
       ·have h48b : ((c0.toNat : Int) == 48) = false := by simp; omega
        go_wp2_with fail
        all_goals first
         | (go_ret2; exact ⟨by rw [HN.out]; rfl, rfl⟩)
         | (exfalso; clear HN HF HR HL; simp at *; omega)
  ·have HD := Lib.hid (HEND.out (.inr (.inl (by rw [HL.out]; omega))))
   rcases Nat.eq_zero_or_pos j with h0 | hjp
   ·subst h0
    have HN : Hid (figR r = none) := Lib.hid (by unfold figR; rw [HD.out]; simp)
    go_wp2_with fail
    all_goals first
     | (go_ret2; exact ⟨by rw [HN.out]; rfl, rfl⟩)
     | (exfalso; clear HN HF HR HL; simp at *; omega)
   ·obtain ⟨c0, hc0, hcs0⟩ := HR.out 0 (by omega)
    have hs0 : ∀ h : i < s.size, s[i] = c0 := fun h => hcs0 (by omega)
    have hlt0 : i < s.size := by omega
    have hc0r := c0.toNat_lt
    have hhd : (figD r).head? = some c0 := by
     rw [HD.out, List.head?_take, if_neg (by omega), List.head?_eq_getElem?]
     exact hc0
    have hdl : (figD r).length = j := by rw [HD.out, List.length_take, HL.out]; omega
    have hne : figD r ≠ [] := by intro e; rw [e] at hdl; simp at hdl; omega
    have hji : ((i + j : Nat) : Int) ≠ (i : Int) := by omega
    by_cases hz : c0.toNat = 48 ∧ 1 < j
    ·have HN : Hid (figR r = none) := Lib.hid (by
      unfold figR
      rw [if_pos (.inr (.inl ⟨by rw [hhd, u8_of (c := c0) (n := 48) hz.1 |>.symm]; rfl, by rw [hdl]; exact hz.2⟩))])
     obtain ⟨hz1, hz2⟩ := hz
     clear hhd hdl hne HD HEND hcs0 hc0
     go_wp2_with fail
     all_goals first
      | (go_ret2; exact ⟨by rw [HN.out]; rfl, rfl⟩)
      | (exfalso; clear HN HF HR HL; simp at *; omega)
    ·have hz' : ¬ ((figD r).head? = some 48 ∧ 1 < (figD r).length) := by
      rintro ⟨h1, h2⟩
      rw [hhd] at h1
      injection h1 with h1
      rw [hdl] at h2
      exact hz ⟨by rw [h1]; rfl, h2⟩
     by_cases hm : 1000000 < valD (r.take j)
     ·have HN : Hid (figR r = none) := Lib.hid (by
       unfold figR
       rw [if_pos (.inr (.inr (by rw [HD.out]; exact hm)))])
      clear hhd hdl hne HD HEND hcs0 hc0 hz'
      have hmi : ((valD (r.take j) : Nat) : Int) ≤ 1000000 ∨ (1000000 : Int) < ((valD (r.take j) : Nat) : Int) := by omega
      by_cases h48 : c0.toNat = 48
      ·obtain rfl : j = 1 := by omega
       go_wp2_with fail
       all_goals first
        | (go_ret2; exact ⟨by rw [HN.out]; rfl, rfl⟩)
        | (exfalso; clear HN HF HR HL; simp at *; omega)
      ·have h48b : ((c0.toNat : Int) == 48) = false := by simp; omega
       go_wp2_with fail
       all_goals first
        | (go_ret2; exact ⟨by rw [HN.out]; rfl, rfl⟩)
        | (exfalso; clear HN HF HR HL; simp at *; omega)
     ·have HN : Hid (figR r = some (valD (r.take j), j)) := Lib.hid (by
       unfold figR
       rw [if_neg (by rintro (h | h | h); exact hne h; exact hz' h; rw [HD.out] at h; exact hm h), hdl, HD.out])
      clear hhd hdl hne HD HEND hcs0 hc0 hz'
      have hmi : ((valD (r.take j) : Nat) : Int) ≤ 1000000 ∨ (1000000 : Int) < ((valD (r.take j) : Nat) : Int) := by omega
      by_cases h48 : c0.toNat = 48
      ·obtain rfl : j = 1 := by omega
       go_wp2_with fail
       all_goals first
        | (go_ret2; exact ⟨by rw [HN.out]; rfl, rfl⟩)
        | (exfalso; clear HN HF HR HL; simp at *; omega)
      ·have h48b : ((c0.toNat : Int) == 48) = false := by simp; omega
       go_wp2_with fail
       all_goals first
        | (go_ret2; exact ⟨by rw [HN.out]; rfl, rfl⟩)
        | (exfalso; clear HN HF HR HL; simp at *; omega)
end
section
open Go.RowKit Np Rw Vp
abbrev OwnN (base : Nat) (w : World) (v : Value) (l : List Nd) : Prop := Own ndc 6 30 base w v l
def OwnsN (w : World) (l : List Nd) (e : Ending) (w' : World) : Prop := ∃ v', e = .returned v' ∧ OwnN w.heap.size w' v' l ∧ Below w.heap.size w w'
def noName (n : Nd) : Nd := { n with name := [] }
end
section
open Go.RowKit Np Rw Vp Pw Fw
end
end Go.Proofs.YtldioobbfkaebaaGreatDoor
