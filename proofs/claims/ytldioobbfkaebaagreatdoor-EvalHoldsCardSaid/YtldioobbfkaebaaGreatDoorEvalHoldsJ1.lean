/-
  Joined: NumPlain, RowP, ValP, ValP2, NumPlain5, NumOrdP, ObjP, FindP.
-/
import Derived.PlainAid
import Derived.Lib.Small
import Derived.Lib.TrimByte
import Derived.Lib.ValidU
import Derived.Sort.Walk0
namespace Go.Proofs.YtldioobbfkaebaaGreatDoor
section
namespace Np
open Go.RowKit
def fig (c : UInt8) : Bool := decide (48 ≤ c.toNat) && decide (c.toNat ≤ 57)
def figs (l : List UInt8) : Bool := l.all fig
theorem fig_iff (c : UInt8) : fig c = true ↔ 48 ≤ c.toNat ∧ c.toNat ≤ 57 := by simp [fig]
theorem size_toList (s : ByteArray) : s.data.toList.length = s.size := by simp
theorem get_toList (s : ByteArray) (k : Nat) (h : k < s.size) : s.data.toList[k]'(by simpa using h) = s[k] := rfl
theorem take_snoc (l : List UInt8) (k : Nat) (h : k < l.length) : l.take (k + 1) = l.take k ++ [l[k]] := List.take_succ_eq_append_getElem h
theorem figs_snoc (l : List UInt8) (c : UInt8) : figs (l ++ [c]) = (figs l && fig c) := by simp [figs]
theorem figs_of_not {l : List UInt8} {k : Nat} (h : k < l.length) (hf : fig l[k] = false) : figs l = false := by
 rw [figs, List.all_eq_false]
 exact ⟨l[k], List.getElem_mem h, by simp [hf]⟩
def rfigs (l : List UInt8) : Bool := decide (l.length ≤ 100) && figs l && l.headD 0 != 48 && l.getLastD 0 != 48
def rpow (n e : Int) : Bool := decide (-1000 ≤ e) && decide (e ≤ 1000 - n)
theorem headD_eq (s : ByteArray) (h : 0 < s.size) : s.data.toList.headD 0 = s[0] := by
 rw [← get_toList s 0 h]
 rw [List.headD_eq_head?_getD, List.head?_eq_getElem?, List.getElem?_eq_getElem (by simp; omega)]
 simp
theorem getLastD_eq (s : ByteArray) (h : 0 < s.size) : s.data.toList.getLastD 0 = s[s.size - 1] := by
 rw [← get_toList s (s.size - 1) (by omega)]
 rw [List.getLastD_eq_getLast?, List.getLast?_eq_getElem?, List.getElem?_eq_getElem (by simp; omega)]
 simp
theorem toNat_beq (c : UInt8) : (c != 48) = ((c.toNat : Int) != 48) := by
 rw [Bool.eq_iff_iff]; simp only [bne_iff_ne, ne_eq, ← UInt8.toNat_inj]; simp; omega
structure Nd where
 kind : Int
 many : Int
 name : List UInt8
 s : List UInt8
 neg : Bool
 e : Int
deriving DecidableEq
def right (n : Nd) : Bool := decide (n.kind = 3) && decide (n.many = 0) && n.name.isEmpty && (if n.s.isEmpty then !n.neg && decide (n.e = 0) else rfigs n.s && rpow n.s.length n.e)
def sgn (s : List UInt8) (g : Bool) : Int := if s.isEmpty then 0 else if g then -1 else 1
def cmpB (a b : List UInt8) : Int := if Op.bytesLess a b = true then -1 else if a = b then 0 else 1
def cmpSz (a : List UInt8) (x : Int) (b : List UInt8) (y : Int) : Int := if Lib.compareInt (a.length + x) (b.length + y) = 0 then cmpB a b else Lib.compareInt (a.length + x) (b.length + y)
def cmpN (a : List UInt8) (g : Bool) (x : Int) (b : List UInt8) (g2 : Bool) (y : Int) : Int := if Lib.compareInt (sgn a g) (sgn b g2) = 0 then sgn a g * cmpSz a x b y else Lib.compareInt (sgn a g) (sgn b g2)
theorem compareInt_cases (x y : Int) : Lib.compareInt x y = -1 ∨ Lib.compareInt x y = 0 ∨ Lib.compareInt x y = 1 := by
 unfold Lib.compareInt; split
 ·exact .inl rfl
 ·split
  ·exact .inr (.inr rfl)
  ·exact .inr (.inl rfl)
theorem cmpB_cases (a b : List UInt8) : cmpB a b = -1 ∨ cmpB a b = 0 ∨ cmpB a b = 1 := by
 unfold cmpB; split
 ·exact .inl rfl
 ·split
  ·exact .inr (.inl rfl)
  ·exact .inr (.inr rfl)
theorem cmpSz_cases (a : List UInt8) (x : Int) (b : List UInt8) (y : Int) : cmpSz a x b y = -1 ∨ cmpSz a x b y = 0 ∨ cmpSz a x b y = 1 := by
 unfold cmpSz; split
 ·exact cmpB_cases a b
 ·exact compareInt_cases _ _
theorem sgn_cases (a : List UInt8) (g : Bool) : sgn a g = -1 ∨ sgn a g = 0 ∨ sgn a g = 1 := by
 unfold sgn; split
 ·exact .inr (.inl rfl)
 ·split
  ·exact .inl rfl
  ·exact .inr (.inr rfl)
def nd0 : Nd := ⟨0, 0, [], [], false, 0⟩
def nought : Nd := ⟨3, 0, [], [], false, 0⟩
def mkN (g : Bool) (f : List UInt8) (e : Int) : Nd := ⟨3, 0, [], Lib.trimRightB (Lib.trimLeftB f 48) 48, g, wrap64 (wrap64 (e + (Lib.trimLeftB f 48).length) - (Lib.trimRightB (Lib.trimLeftB f 48) 48).length)⟩
def mk (g : Bool) (f : List UInt8) (e : Int) : Nd × Int :=
 if figs f = false then (nd0, 4) else if (Lib.trimLeftB f 48).isEmpty = true then (nought, 0) else if right (mkN g f e) = true then (mkN g f e, 0) else (nd0, 2)
end Np
end
section
namespace Rw
inductive Tr (α : Type) where
 | mk (n : α) (ks : List (Tr α)) : Tr α
section
variable {α : Type}
def Tr.nd : Tr α → α | .mk n _ => n
def Tr.ks : Tr α → List (Tr α) | .mk _ k => k
@[simp] theorem Tr.nd_mk (n : α) (ks : List (Tr α)) : (Tr.mk n ks).nd = n := rfl
@[simp] theorem Tr.ks_mk (n : α) (ks : List (Tr α)) : (Tr.mk n ks).ks = ks := rfl
theorem Tr.eta (t : Tr α) : t = .mk t.nd t.ks := by cases t; rfl
mutual
def flat : Tr α → List α
 | .mk n ks => n :: flats ks
def flats : List (Tr α) → List α
 | [] => []
 | t :: ts => flat t ++ flats ts
end
theorem flat_mk (n : α) (ks : List (Tr α)) : flat (.mk n ks) = n :: flats ks := by simp [flat]
@[simp] theorem flats_nil : flats ([] : List (Tr α)) = [] := by simp [flats]
@[simp] theorem flats_cons (t : Tr α) (ts : List (Tr α)) : flats (t :: ts) = flat t ++ flats ts := by simp [flats]
theorem flat_eq (t : Tr α) : flat t = t.nd :: flats t.ks := by cases t; simp [flat]
theorem flats_append (a b : List (Tr α)) : flats (a ++ b) = flats a ++ flats b := by
 induction a with
 | nil => simp
 | cons t ts ih => simp [ih]
theorem flats_map (ts : List (Tr α)) : flats ts = (ts.map flat).flatten := by
 induction ts with
 | nil => simp
 | cons t ts ih => simp [ih]
theorem flat_pos (t : Tr α) : 0 < (flat t).length := by rw [flat_eq]; simp
theorem flat_ne (t : Tr α) : flat t ≠ [] := by rw [flat_eq]; simp
theorem flats_len (ts : List (Tr α)) : ts.length ≤ (flats ts).length := by
 induction ts with
 | nil => simp
 | cons t ts ih => have := flat_pos t; simp; omega
variable (many : α → Int)
mutual
def okT : Tr α → Prop
 | .mk n ks => many n = ks.length ∧ okTs ks
def okTs : List (Tr α) → Prop
 | [] => True
 | t :: ts => okT t ∧ okTs ts
end
variable {many}
theorem okT_mk {n : α} {ks : List (Tr α)} : okT many (.mk n ks) ↔ many n = ks.length ∧ okTs many ks := by simp [okT]
theorem okT_eq {t : Tr α} : okT many t ↔ many t.nd = t.ks.length ∧ okTs many t.ks := by cases t; simp [okT]
@[simp] theorem okTs_nil : okTs many [] := by simp [okTs]
@[simp] theorem okTs_cons {t : Tr α} {ts : List (Tr α)} : okTs many (t :: ts) ↔ okT many t ∧ okTs many ts := by simp [okTs]
theorem okTs_append {a b : List (Tr α)} : okTs many (a ++ b) ↔ okTs many a ∧ okTs many b := by
 induction a with
 | nil => simp
 | cons t ts ih => simp [ih, and_assoc]
theorem okTs_all {ts : List (Tr α)} : okTs many ts ↔ ∀ t ∈ ts, okT many t := by
 induction ts with
 | nil => simp
 | cons t ts ih => simp [ih]
variable (many)
def skip : List α → Nat → Option (List α)
 | l, 0 => some l
 | [], _ + 1 => none
 | n :: l, k + 1 => if many n < 0 then none else skip l (k + (many n).toNat)
variable {many}
@[simp] theorem skip_zero (l : List α) : skip many l 0 = some l := by cases l <;> simp [skip]
@[simp] theorem skip_nil (k : Nat) : skip many [] (k + 1) = none := by simp [skip]
theorem skip_cons (n : α) (l : List α) (k : Nat) : skip many (n :: l) (k + 1) = if many n < 0 then none else skip many l (k + (many n).toNat) := by simp [skip]
mutual
theorem skip_flat : ∀ (t : Tr α) (r : List α) (k : Nat), okT many t → skip many (flat t ++ r) (k + 1) = skip many r k
 | .mk n ks, r, k, h => by
  obtain ⟨h1, h2⟩ := okT_mk.1 h
  rw [flat_mk, List.cons_append, skip_cons, if_neg (by omega), h1, Int.toNat_natCast, Nat.add_comm k, skip_flats ks r k h2]
theorem skip_flats : ∀ (ts : List (Tr α)) (r : List α) (k : Nat), okTs many ts → skip many (flats ts ++ r) (ts.length + k) = skip many r k
 | [], r, k, _ => by simp
 | t :: ts, r, k, h => by
  obtain ⟨h1, h2⟩ := okTs_cons.1 h
  rw [flats_cons, List.append_assoc, List.length_cons, show ts.length + 1 + k = ts.length + k + 1 by omega, skip_flat t _ _ h1, skip_flats ts r k h2]
end
theorem skip_inv : ∀ (l : List α) (k : Nat) (r : List α), skip many l k = some r → ∃ ts, okTs many ts ∧ ts.length = k ∧ l = flats ts ++ r
 | l, 0, r, h => ⟨[], by simp, rfl, by simpa using h⟩
 | [], k + 1, r, h => by simp at h
 | n :: l, k + 1, r, h => by
  rw [skip_cons] at h
  by_cases hn : many n < 0
  ·rw [if_pos hn] at h; cases h
  ·rw [if_neg hn] at h
   obtain ⟨ts, h1, h2, h3⟩ := skip_inv l _ r h
   refine ⟨.mk n (ts.take (many n).toNat) :: ts.drop (many n).toNat, ?_, by simp; omega, ?_⟩
   ·rw [← List.take_append_drop (many n).toNat ts, okTs_append] at h1
    rw [okTs_cons, okT_mk]
    exact ⟨⟨by rw [List.length_take]; omega, h1.1⟩, h1.2⟩
   ·rw [flats_cons, flat_mk, List.cons_append, ← flats_append, List.take_append_drop, h3, List.cons_append]
mutual
theorem flat_inj : ∀ (t u : Tr α) (r r' : List α), okT many t → okT many u → flat t ++ r = flat u ++ r' → t = u ∧ r = r'
 | .mk n ks, .mk m js, r, r', h, h', he => by
  rw [flat_mk, flat_mk, List.cons_append, List.cons_append] at he
  injection he with hn hr
  subst hn
  obtain ⟨h1, h2⟩ := okT_mk.1 h
  obtain ⟨h3, h4⟩ := okT_mk.1 h'
  obtain ⟨e1, e2⟩ := flats_inj ks js r r' h2 h4 (by omega) hr
  exact ⟨by rw [e1], e2⟩
theorem flats_inj : ∀ (ts us : List (Tr α)) (r r' : List α), okTs many ts → okTs many us → ts.length = us.length → flats ts ++ r = flats us ++ r' → ts = us ∧ r = r'
 | [], [], r, r', _, _, _, he => ⟨rfl, by simpa using he⟩
 | [], _ :: _, _, _, _, _, hl, _ => by simp at hl
 | _ :: _, [], _, _, _, _, hl, _ => by simp at hl
 | t :: ts, u :: us, r, r', h, h', hl, he => by
  obtain ⟨h1, h2⟩ := okTs_cons.1 h
  obtain ⟨h3, h4⟩ := okTs_cons.1 h'
  rw [flats_cons, flats_cons, List.append_assoc, List.append_assoc] at he
  obtain ⟨e1, e2⟩ := flat_inj t u _ _ h1 h3 he
  obtain ⟨e3, e4⟩ := flats_inj ts us r r' h2 h4 (by simpa using hl) e2
  exact ⟨by rw [e1, e3], e4⟩
end
theorem skip_one {l : List α} (h : skip many l 1 = some []) : ∃ t, okT many t ∧ l = flat t := by
 obtain ⟨ts, h1, h2, h3⟩ := skip_inv l 1 [] h
 match ts, h2 with
 | [t], _ => exact ⟨t, (okTs_cons.1 h1).1, by simpa using h3⟩
theorem skip_flat_one {t : Tr α} (h : okT many t) : skip many (flat t) 1 = some [] := by
 have := skip_flat t [] 0 h
 simpa using this
mutual
def subs : Tr α → List (Tr α)
 | .mk n ks => .mk n ks :: subss ks
def subss : List (Tr α) → List (Tr α)
 | [] => []
 | t :: ts => subs t ++ subss ts
end
theorem subs_mk (n : α) (ks : List (Tr α)) : subs (.mk n ks) = .mk n ks :: subss ks := by simp [subs]
@[simp] theorem subss_nil : subss ([] : List (Tr α)) = [] := by simp [subss]
@[simp] theorem subss_cons (t : Tr α) (ts : List (Tr α)) : subss (t :: ts) = subs t ++ subss ts := by simp [subss]
mutual
theorem subs_nd : ∀ t : Tr α, (subs t).map Tr.nd = flat t
 | .mk n ks => by rw [subs_mk, flat_mk, List.map_cons, subss_nd ks]; rfl
theorem subss_nd : ∀ ts : List (Tr α), (subss ts).map Tr.nd = flats ts
 | [] => by simp
 | t :: ts => by rw [subss_cons, flats_cons, List.map_append, subs_nd t, subss_nd ts]
end
theorem subs_length (t : Tr α) : (subs t).length = (flat t).length := by rw [← subs_nd, List.length_map]
mutual
theorem subs_drop : ∀ (t : Tr α) (r : List α) (i : Nat) (s : Tr α), (subs t)[i]? = some s → ∃ q, (flat t ++ r).drop i = flat s ++ q
 | .mk n ks, r, 0, s, h => by
  rw [subs_mk] at h; simp at h; subst h; exact ⟨r, by simp⟩
 | .mk n ks, r, i + 1, s, h => by
  rw [subs_mk] at h
  rw [flat_mk, List.cons_append, List.drop_succ_cons]
  exact subss_drop ks r i s (by simpa using h)
theorem subss_drop : ∀ (ts : List (Tr α)) (r : List α) (i : Nat) (s : Tr α), (subss ts)[i]? = some s → ∃ q, (flats ts ++ r).drop i = flat s ++ q
 | [], _, _, _, h => by simp at h
 | t :: ts, r, i, s, h => by
  rw [subss_cons] at h
  rw [flats_cons, List.append_assoc]
  by_cases hi : i < (subs t).length
  ·rw [List.getElem?_append_left hi] at h
   exact subs_drop t _ i s h
  ·rw [List.getElem?_append_right (by omega)] at h
   rw [subs_length] at hi h
   rw [List.drop_append, List.drop_eq_nil_of_le (by omega), List.nil_append]
   exact subss_drop ts r _ s h
end
mutual
theorem subs_ok : ∀ (t : Tr α), okT many t → ∀ s ∈ subs t, okT many s
 | .mk n ks, h, s, hs => by
  rw [subs_mk, List.mem_cons] at hs
  rcases hs with rfl | hs
  ·exact h
  ·exact subss_ok ks (okT_mk.1 h).2 s hs
theorem subss_ok : ∀ (ts : List (Tr α)), okTs many ts → ∀ s ∈ subss ts, okT many s
 | [], _, _, hs => by simp at hs
 | t :: ts, h, s, hs => by
  rw [subss_cons, List.mem_append] at hs
  obtain ⟨h1, h2⟩ := okTs_cons.1 h
  rcases hs with hs | hs
  ·exact subs_ok t h1 s hs
  ·exact subss_ok ts h2 s hs
end
end
end Rw
end
section
namespace Vp
open Go.RowKit Np Rw
abbrev many (n : Nd) : Int := n.many
abbrev vld (s : List UInt8) : Bool := Lib.validD s
def plainN (n : Nd) : Bool :=
 if n.kind = 0 ∨ n.kind = 1 ∨ n.kind = 2 then decide (n.many = 0) && decide (n.s = []) && !n.neg && decide (n.e = 0)
 else if n.kind = 3 then right { n with name := [] }
 else if n.kind = 4 then decide (n.many = 0) && vld n.s && !n.neg && decide (n.e = 0)
 else if n.kind = 5 ∨ n.kind = 6 then decide (0 ≤ n.many) && decide (n.s = []) && !n.neg && decide (n.e = 0)
 else false
theorem plainN_many {n : Nd} (h : plainN n = true) : 0 ≤ n.many ∧ (n.kind ≠ 5 → n.kind ≠ 6 → n.many = 0) := by
 unfold plainN at h
 split at h
 ·simp at h; omega
 ·split at h
  ·simp [right] at h; omega
  ·split at h
   ·simp at h; omega
   ·split at h
    ·simp at h; omega
    ·cases h
def lets (kind : Int) (begun : Bool) (ahead : List UInt8) (name : List UInt8) : Bool :=
 if kind = 6 then vld name && (!begun || decide (ahead < name)) else decide (name = [])
structure Hd where
 kind : Int
 left : Int
 begun : Bool
 ahead : List UInt8
deriving DecidableEq
def pop : List Hd → List Hd
 | [] => []
 | h :: st => if h.left = 0 then pop st else h :: st
def stepH (h : Hd) (n : Nd) : Hd := ⟨h.kind, h.left - 1, true, n.name⟩
def passH : List Hd → Nd → List Hd
 | [], _ => []
 | h :: st, n => if 0 < n.many then ⟨n.kind, n.many, false, []⟩ :: stepH h n :: st else pop (stepH h n :: st)
theorem passH_cons (h : Hd) (st : List Hd) (n : Nd) : passH (h :: st) n = if 0 < n.many then ⟨n.kind, n.many, false, []⟩ :: stepH h n :: st else pop (stepH h n :: st) := rfl
def run : List Hd → List Nd → Bool
 | st, [] => st.isEmpty
 | [], _ :: _ => false
 | h :: st, n :: l => lets h.kind h.begun h.ahead n.name && plainN n && run (passH (h :: st) n) l
def start : List Hd := [⟨5, 1, false, []⟩]
def rightL (l : List Nd) : Bool := run start l
theorem run_nil (st : List Hd) : run st [] = st.isEmpty := by cases st <;> simp [run]
theorem run_cons (h : Hd) (st : List Hd) (n : Nd) (l : List Nd) : run (h :: st) (n :: l) = (lets h.kind h.begun h.ahead n.name && plainN n && run (passH (h :: st) n) l) := by simp [run]
def Fit : List Hd → Prop
 | [] => True
 | h :: st => 1 ≤ h.left ∧ ∀ x ∈ st, 0 ≤ x.left
theorem pop_fit : ∀ {st : List Hd}, (∀ x ∈ st, 0 ≤ x.left) → Fit (pop st)
 | [], _ => by simp [pop, Fit]
 | h :: st, hh => by
  have h0 := hh h (by simp)
  have h1 : ∀ x ∈ st, 0 ≤ x.left := fun x hx => hh x (by simp [hx])
  unfold pop
  split
  ·exact pop_fit h1
  ·exact ⟨by omega, h1⟩
theorem passH_fit {st : List Hd} {n : Nd} (h : Fit st) : Fit (passH st n) := by
 cases st with
 | nil => simp [passH, Fit]
 | cons a st =>
  obtain ⟨h1, h2⟩ := h
  have h3 : ∀ x ∈ stepH a n :: st, 0 ≤ x.left := by
   intro x hx
   rcases List.mem_cons.1 hx with rfl | hx
   ·simp [stepH]; omega
   ·exact h2 x hx
  rw [passH_cons]
  split
  ·rename_i h0; exact ⟨by simp; omega, h3⟩
  ·exact pop_fit h3
def sumH : List Hd → Nat
 | [] => 0
 | h :: st => h.left.toNat + sumH st
theorem sumH_pop : ∀ st : List Hd, sumH (pop st) = sumH st
 | [] => rfl
 | h :: st => by
  unfold pop
  split
  ·rename_i h0; rw [sumH_pop st, sumH, h0]; simp
  ·rfl
theorem run_skip : ∀ (l : List Nd) (st : List Hd), Fit st → run st l = true → skip many l (sumH st) = some []
 | [], st, _, h => by
  rw [run_nil, List.isEmpty_iff] at h
  subst h; rfl
 | n :: l, [], _, h => by simp [run] at h
 | n :: l, a :: st, hf, h => by
  rw [run_cons, Bool.and_eq_true, Bool.and_eq_true] at h
  obtain ⟨⟨_, hp⟩, hr⟩ := h
  have h0 := (plainN_many hp).1
  have ih := run_skip l _ (passH_fit hf) hr
  obtain ⟨h1, h2⟩ := hf
  have e : sumH (a :: st) = (a.left - 1).toNat + sumH st + 1 := by rw [sumH]; omega
  rw [e, skip_cons, if_neg (by show ¬ n.many < 0; omega)]
  rw [← ih]
  congr 1
  rw [passH_cons]
  split
  ·simp [sumH, stepH, many]; omega
  ·rw [sumH_pop]; simp [sumH, stepH, many]; omega
mutual
def rightT : Tr Nd → Bool
 | .mk n ks => plainN n && rightKs n.kind false [] ks
def rightKs (kind : Int) : Bool → List UInt8 → List (Tr Nd) → Bool
 | _, _, [] => true
 | b, a, t :: ts => lets kind b a t.nd.name && rightT t && rightKs kind true t.nd.name ts
end
theorem rightT_mk (n : Nd) (ks : List (Tr Nd)) : rightT (.mk n ks) = (plainN n && rightKs n.kind false [] ks) := by simp [rightT]
theorem rightT_eq (t : Tr Nd) : rightT t = (plainN t.nd && rightKs t.nd.kind false [] t.ks) := by cases t; simp [rightT]
@[simp] theorem rightKs_nil (k : Int) (b : Bool) (a : List UInt8) : rightKs k b a [] = true := by simp [rightKs]
theorem rightKs_cons (k : Int) (b : Bool) (a : List UInt8) (t : Tr Nd) (ts : List (Tr Nd)) : rightKs k b a (t :: ts) = (lets k b a t.nd.name && rightT t && rightKs k true t.nd.name ts) := by simp [rightKs]
mutual
theorem run_flat : ∀ (t : Tr Nd) (h : Hd) (st : List Hd) (r : List Nd), okT many t →
  run (h :: st) (flat t ++ r) = (lets h.kind h.begun h.ahead t.nd.name && rightT t && run (pop (stepH h t.nd :: st)) r)
 | .mk n ks, h, st, r, ho => by
  obtain ⟨h1, h2⟩ := okT_mk.1 ho
  have h1' : n.many = ks.length := h1
  rw [flat_mk, List.cons_append, run_cons, rightT_mk, Tr.nd_mk]
  cases ks with
  | nil =>
   have h0 : n.many = 0 := h1'
   simp [passH, h0]
  | cons t ts =>
   have h0 : 0 < n.many := by rw [h1', List.length_cons]; omega
   rw [passH, if_pos h0, run_flats (t :: ts) ⟨n.kind, n.many, false, []⟩ (stepH h n :: st) r h2 (by simp) (by simpa using h1')]
   simp only [Bool.and_assoc]
theorem run_flats : ∀ (ts : List (Tr Nd)) (h : Hd) (st : List Hd) (r : List Nd), okTs many ts → ts ≠ [] → h.left = ts.length →
  run (h :: st) (flats ts ++ r) = (rightKs h.kind h.begun h.ahead ts && run (pop st) r)
 | [], _, _, _, _, h0, _ => absurd rfl h0
 | [t], h, st, r, ho, _, hl => by
  rw [flats_cons, flats_nil, List.append_nil, run_flat t h st r (okTs_cons.1 ho).1, rightKs_cons, rightKs_nil]
  have : (stepH h t.nd).left = 0 := by simp [stepH, hl]
  rw [pop, if_pos this, Bool.and_true]
 | t :: u :: ts, h, st, r, ho, _, hl => by
  obtain ⟨h1, h2⟩ := okTs_cons.1 ho
  rw [flats_cons, List.append_assoc, run_flat t h st _ h1, rightKs_cons]
  have : ¬ (stepH h t.nd).left = 0 := by simp [stepH, hl]; omega
  rw [pop, if_neg this, run_flats (u :: ts) (stepH h t.nd) st r h2 (by simp) (by simp [stepH, hl])]
  simp only [stepH, Bool.and_assoc]
end
structure Val (t : Tr Nd) : Prop where
 ok : okT many t
 rt : rightT t = true
 nm : t.nd.name = []
theorem rightL_flat {t : Tr Nd} (h : okT many t) : rightL (flat t) = (decide (t.nd.name = []) && rightT t) := by
 have := run_flat t ⟨5, 1, false, []⟩ [] [] h
 rw [List.append_nil] at this
 rw [rightL, start, this]
 have e : pop [stepH ⟨5, 1, false, []⟩ t.nd] = [] := by simp [pop, stepH]
 rw [e, run_nil]
 simp [lets]
theorem val_of_rightL {l : List Nd} (h : rightL l = true) : ∃ t, Val t ∧ l = flat t := by
 have h1 := run_skip l start ⟨by simp, by simp⟩ h
 obtain ⟨t, ht, rfl⟩ := skip_one (many := many) h1
 rw [rightL_flat ht, Bool.and_eq_true, decide_eq_true_eq] at h
 exact ⟨t, ⟨ht, h.2, h.1⟩, rfl⟩
theorem rightL_no_skip {l : List Nd} (h : skip many l 1 ≠ some []) : rightL l = false := by
 rw [← Bool.not_eq_true]
 intro h1
 exact h (run_skip l start ⟨by simp, by simp⟩ h1)
def nameOk (kind : Int) (t : Tr Nd) : Bool := (!decide (kind = 5) || decide (t.nd.name = [])) && vld t.nd.name
def rising (kind : Int) : List (Tr Nd) → Bool
 | [] => true
 | [t] => nameOk kind t
 | t :: u :: ts => nameOk kind t && (!decide (kind = 6) || decide (t.nd.name < u.nd.name)) && rising kind (u :: ts)
def nodeOk (t : Tr Nd) : Bool := plainN t.nd && rising t.nd.kind t.ks
theorem rising_nil (kind : Int) : rising kind [] = true := rfl
theorem vld_nil : vld [] = true := rfl
theorem rightKs_six : ∀ (ts : List (Tr Nd)) (a : List UInt8), rightKs 6 true a ts = ((match ts with | [] => true | t :: _ => decide (a < t.nd.name)) && rising 6 ts && ts.all rightT)
 | [], _ => rfl
 | [t], a => by simp [rightKs_cons, lets, rising, nameOk]; cases vld t.nd.name <;> cases decide (a < t.nd.name) <;> simp
 | t :: u :: ts, a => by
  rw [rightKs_cons, rightKs_six (u :: ts) t.nd.name]
  simp only [lets, rising, nameOk, List.all_cons]
  simp
  cases vld t.nd.name <;> cases decide (a < t.nd.name) <;> cases rightT t <;> simp
theorem rightKs_obj (ts : List (Tr Nd)) : rightKs 6 false [] ts = (rising 6 ts && ts.all rightT) := by
 cases ts with
 | nil => rfl
 | cons t ts =>
  rw [rightKs_cons, rightKs_six]
  cases ts with
  | nil => simp [lets, rising, nameOk]
  | cons u ts =>
   simp only [lets, rising, nameOk, List.all_cons]
   simp
   cases vld t.nd.name <;> cases rightT t <;> simp
theorem rightKs_arr : ∀ (ts : List (Tr Nd)) (b : Bool) (a : List UInt8), rightKs 5 b a ts = (rising 5 ts && ts.all rightT)
 | [], _, _ => rfl
 | [t], b, a => by
  simp [rightKs_cons, lets, rising, nameOk]
  by_cases h : t.nd.name = []
  ·simp [h, vld_nil]
  ·simp [h]
 | t :: u :: ts, b, a => by
  rw [rightKs_cons, rightKs_arr (u :: ts)]
  simp only [lets, rising, nameOk, List.all_cons]
  by_cases h : t.nd.name = []
  ·simp [h, vld_nil]; cases rightT t <;> simp
  ·simp [h]
theorem rightT_node {t : Tr Nd} (h : okT many t) : rightT t = (nodeOk t && t.ks.all rightT) := by
 obtain ⟨n, ks⟩ := t
 obtain ⟨h1, _⟩ := okT_mk.1 h
 have h1' : n.many = ks.length := h1
 rw [rightT_mk]
 simp only [nodeOk, Tr.nd_mk, Tr.ks_mk]
 cases hp : plainN n
 ·simp
 ·have h2 := (plainN_many hp).2
  by_cases h5 : n.kind = 5
  ·rw [h5, rightKs_arr]; simp
  ·by_cases h6 : n.kind = 6
   ·rw [h6, rightKs_obj]; simp
   ·have h0 : ks = [] := by
     have := h2 h5 h6
     cases ks with
     | nil => rfl
     | cons t ts => rw [h1'] at this; simp at this; omega
    subst h0
    simp [rising_nil]
mutual
theorem rightT_subs : ∀ t : Tr Nd, okT many t → rightT t = (subs t).all nodeOk
 | .mk n ks, h => by
  rw [rightT_node h, subs_mk, List.all_cons, Tr.ks_mk, rightTs_subs ks (okT_mk.1 h).2]
theorem rightTs_subs : ∀ ts : List (Tr Nd), okTs many ts → ts.all rightT = (subss ts).all nodeOk
 | [], _ => by simp
 | t :: ts, h => by
  obtain ⟨h1, h2⟩ := okTs_cons.1 h
  rw [subss_cons, List.all_append, List.all_cons, rightT_subs t h1, rightTs_subs ts h2]
end
theorem val_kids {t : Tr Nd} (h : Val t) : ∀ k ∈ t.ks, okT many k ∧ rightT k = true := by
 have h1 := rightT_node h.ok
 rw [h.rt] at h1
 have h2 : (nodeOk t && t.ks.all rightT) = true := h1.symm
 rw [Bool.and_eq_true, List.all_eq_true] at h2
 intro k hk
 exact ⟨okTs_all.1 (okT_eq.1 h.ok).2 k hk, h2.2 k hk⟩
def cont (k : Int) : Bool := decide (k = 5) || decide (k = 6)
mutual
def depth : Tr Nd → Nat
 | .mk n ks => if cont n.kind = true then depths ks + 1 else 0
def depths : List (Tr Nd) → Nat
 | [] => 0
 | t :: ts => max (depth t) (depths ts)
end
@[simp] theorem depths_nil : depths [] = 0 := by simp [depths]
@[simp] theorem depths_cons (t : Tr Nd) (ts : List (Tr Nd)) : depths (t :: ts) = max (depth t) (depths ts) := by simp [depths]
end Vp
end
section
namespace Vp
open Go.RowKit Np Rw
def nxtL (N : Nat) : List Nd → Nat → Nat → Int
 | _, 0, i => i
 | [], _ + 1, _ => -1
 | n :: l, o + 1, i => if n.many < 0 ∨ (N : Int) < n.many then -1 else nxtL N l (o + n.many.toNat) (i + 1)
@[simp] theorem nxtL_zero (N : Nat) (l : List Nd) (i : Nat) : nxtL N l 0 i = i := by cases l <;> simp [nxtL]
@[simp] theorem nxtL_nil (N o i : Nat) : nxtL N [] (o + 1) i = -1 := by simp [nxtL]
theorem nxtL_cons (N : Nat) (n : Nd) (l : List Nd) (o i : Nat) : nxtL N (n :: l) (o + 1) i = if n.many < 0 ∨ (N : Int) < n.many then -1 else nxtL N l (o + n.many.toNat) (i + 1) := by simp [nxtL]
mutual
theorem nxt_flat : ∀ (t : Tr Nd) (N : Nat) (r : List Nd) (k i : Nat), okT many t → (flat t).length ≤ N → nxtL N (flat t ++ r) (k + 1) i = nxtL N r k (i + (flat t).length)
 | .mk n ks, N, r, k, i, h, hl => by
  obtain ⟨h1, h2⟩ := okT_mk.1 h
  have h1' : n.many = ks.length := h1
  have h3 := flats_len ks
  rw [flat_mk, List.length_cons] at hl
  rw [flat_mk, List.cons_append, nxtL_cons, if_neg (by omega), h1', Int.toNat_natCast, Nat.add_comm k, nxt_flats ks N r k (i + 1) h2 (by omega), List.length_cons]
  congr 1; omega
theorem nxt_flats : ∀ (ts : List (Tr Nd)) (N : Nat) (r : List Nd) (k i : Nat), okTs many ts → (flats ts).length ≤ N → nxtL N (flats ts ++ r) (ts.length + k) i = nxtL N r k (i + (flats ts).length)
 | [], N, r, k, i, _, _ => by simp
 | t :: ts, N, r, k, i, h, hl => by
  obtain ⟨h1, h2⟩ := okTs_cons.1 h
  rw [flats_cons, List.length_append] at hl
  rw [flats_cons, List.append_assoc, List.length_cons, show ts.length + 1 + k = ts.length + k + 1 by omega, nxt_flat t N _ _ i h1 (by omega), nxt_flats ts N r k _ h2 (by omega), List.length_append]
  congr 1; omega
end
theorem nxt_inv (N : Nat) : ∀ (l : List Nd) (k i : Nat), 0 ≤ nxtL N l k i → ∃ r, skip many l k = some r ∧ nxtL N l k i + r.length = i + l.length
 | l, 0, i, _ => ⟨l, by simp, by simp⟩
 | [], k + 1, i, h => by simp at h
 | n :: l, k + 1, i, h => by
  rw [nxtL_cons] at h ⊢
  by_cases hn : n.many < 0 ∨ (N : Int) < n.many
  ·rw [if_pos hn] at h; omega
  ·rw [if_neg hn] at h ⊢
   obtain ⟨r, h1, h2⟩ := nxt_inv N l _ _ h
   refine ⟨r, ?_, ?_⟩
   ·rw [skip_cons, if_neg (by show ¬ n.many < 0; omega)]; exact h1
   ·rw [h2, List.length_cons]; omega
theorem nxt_whole {l : List Nd} : nxtL l.length l 1 0 = l.length ↔ skip many l 1 = some [] := by
 constructor
 ·intro h
  obtain ⟨r, h1, h2⟩ := nxt_inv l.length l 1 0 (by omega)
  rw [h] at h2
  have : r = [] := List.eq_nil_of_length_eq_zero (by omega)
  rw [h1, this]
 ·intro h
  obtain ⟨t, ht, rfl⟩ := skip_one h
  have := nxt_flat t (flat t).length [] 0 0 ht (Nat.le_refl _)
  simpa using this
theorem rightL_eq (l : List Nd) : rightL l = (decide (l ≠ []) && decide ((l.headD ⟨0, 0, [], [], false, 0⟩).name = []) && decide (nxtL l.length l 1 0 = l.length) && rightL l) := by
 cases h : rightL l
 ·simp
 ·obtain ⟨t, ht, rfl⟩ := val_of_rightL h
  have h1 : nxtL (flat t).length (flat t) 1 0 = (flat t).length := nxt_whole.2 (skip_flat_one ht.ok)
  have h2 := ht.nm
  rw [h1, flat_eq]
  simp [h2]
theorem rightL_empty : rightL [] = false := rfl
theorem rightL_name {n : Nd} {l : List Nd} (h : n.name ≠ []) : rightL (n :: l) = false := by rw [rightL_eq]; simp [h]
theorem rightL_next {l : List Nd} (h : nxtL l.length l 1 0 ≠ l.length) : rightL l = false := rightL_no_skip (fun h' => h (nxt_whole.2 h'))
end Vp
end
section
namespace Np
open Go.RowKit
theorem right_iff (n : Nd) : right n = true ↔ n.kind = 3 ∧ n.many = 0 ∧ n.name = [] ∧ (n.s = [] ∧ n.neg = false ∧ n.e = 0 ∨ n.s ≠ [] ∧ rfigs n.s = true ∧ -1000 ≤ n.e ∧ n.e ≤ 1000 - n.s.length) := by
 unfold right rpow
 by_cases hs : n.s = []
 ·simp [hs, and_assoc]
 ·simp [hs, and_assoc]
theorem right_not {n : Nd} (h : ¬ (n.kind = 3 ∧ n.many = 0 ∧ n.name = [] ∧ (n.s = [] ∧ n.neg = false ∧ n.e = 0 ∨ n.s ≠ [] ∧ rfigs n.s = true ∧ -1000 ≤ n.e ∧ n.e ≤ 1000 - n.s.length))) : right n = false := by
 rw [← Bool.not_eq_true, right_iff]; exact h
theorem right_figs {n : Nd} (h : figs n.s = false) : right n = false := right_not (by
 rintro ⟨_, _, _, ⟨h1, _⟩ | ⟨_, h1, _⟩⟩
 ·rw [h1] at h; cases h
 ·simp [rfigs, h] at h1)
theorem right_empty' {k m : Int} {nm s : List UInt8} {g : Bool} {x : Int} (h : s = []) : right ⟨k, m, nm, s, g, x⟩ = (decide (k = 3) && decide (m = 0) && decide (nm = []) && (!g && decide (x = 0))) := by
 subst h; cases nm <;> simp [right]
theorem right_some' {k m : Int} {nm s : List UInt8} {g : Bool} {x : Int} (h : s ≠ []) (hf : figs s = true) : right ⟨k, m, nm, s, g, x⟩ = (decide (k = 3) && decide (m = 0) && decide (nm = []) && (decide (s.length ≤ 100) && (s.headD 0 != 48) && (s.getLastD 0 != 48) && decide (-1000 ≤ x) && decide (x ≤ 1000 - s.length))) := by
 cases nm <;> simp [right, h, rfigs, rpow, hf, Bool.and_assoc]
theorem right_bounds {n : Nd} (h : right n = true) : n.s.length ≤ 100 ∧ -1000 ≤ n.e ∧ n.e ≤ 1000 := by
 obtain ⟨_, _, _, ⟨h1, _, h2⟩ | ⟨_, h1, h2, h3⟩⟩ := (right_iff n).1 h
 ·rw [h1, h2]; simp
 ·simp [rfigs] at h1; omega
end Np
end
section
namespace Np
open Go.RowKit
theorem cmpB_lt (a b : List UInt8) : cmpB a b = -1 ↔ a < b := by
 unfold cmpB
 simp only [bytesLess_eq, decide_eq_true_eq]
 split
 ·simp [*]
 ·split <;> simp [*]
theorem cmpB_eq (a b : List UInt8) : cmpB a b = 0 ↔ a = b := by
 unfold cmpB
 simp only [bytesLess_eq, decide_eq_true_eq]
 split
 ·rename_i h
  constructor
  ·intro h; cases h
  ·intro e; subst e; exact absurd h (List.lt_irrefl _)
 ·split <;> simp [*]
theorem cmpB_gt (a b : List UInt8) : cmpB a b = 1 ↔ b < a := by
 have h0 := cmpB_cases a b
 have h1 := cmpB_lt a b
 have h2 := cmpB_eq a b
 constructor
 ·intro h
  rcases Std.lt_trichotomy a b with h3 | h3 | h3
  ·rw [h1.2 h3] at h; cases h
  ·rw [h2.2 h3] at h; cases h
  ·exact h3
 ·intro h
  rcases h0 with h3 | h3 | h3
  ·exact absurd (h1.1 h3) (List.lt_asymm h)
  ·exact absurd h (by rw [h2.1 h3]; exact List.lt_irrefl _)
  ·exact h3
theorem cmpI_lt (x y : Int) : Lib.compareInt x y = -1 ↔ x < y := by unfold Lib.compareInt; (repeat' split) <;> omega
theorem cmpI_eq (x y : Int) : Lib.compareInt x y = 0 ↔ x = y := by unfold Lib.compareInt; (repeat' split) <;> omega
theorem cmpI_gt (x y : Int) : Lib.compareInt x y = 1 ↔ y < x := by unfold Lib.compareInt; (repeat' split) <;> omega
theorem cmpSz_neg (a : List UInt8) (x : Int) (b : List UInt8) (y : Int) : cmpSz b y a x = -cmpSz a x b y := by
 have h1 := cmpI_lt (a.length + x) (b.length + y)
 have h2 := cmpI_eq (a.length + x) (b.length + y)
 have h2' := cmpI_gt (a.length + x) (b.length + y)
 have h1' := cmpI_lt (b.length + y) (a.length + x)
 have h3' := cmpI_eq (b.length + y) (a.length + x)
 have h4' := cmpI_gt (b.length + y) (a.length + x)
 have h3 := compareInt_cases (a.length + x) (b.length + y)
 have c1 := cmpB_lt a b
 have c2 := cmpB_eq a b
 have c3 := cmpB_gt a b
 have d1 := cmpB_lt b a
 have d2 := cmpB_eq b a
 have d3 := cmpB_gt b a
 have c4 := cmpB_cases a b
 unfold cmpSz
 by_cases h : a.length + x = b.length + y
 ·rw [if_pos (h3'.2 h.symm), if_pos (h2.2 h)]
  rcases c4 with e | e | e
  ·rw [e, d3.2 (c1.1 e)]; rfl
  ·rw [e, d2.2 (c2.1 e).symm]; rfl
  ·rw [e, d1.2 (c3.1 e)]
 ·rw [if_neg (fun e => h (h3'.1 e).symm), if_neg (fun e => h (h2.1 e))]
  rcases h3 with e | e | e
  ·rw [e, h4'.2 (h1.1 e)]; rfl
  ·exact absurd (h2.1 e) h
  ·rw [e, h1'.2 (h2'.1 e)]
theorem cmpN_neg (a : List UInt8) (g : Bool) (x : Int) (b : List UInt8) (g2 : Bool) (y : Int) : cmpN b g2 y a g x = -cmpN a g x b g2 y := by
 unfold cmpN
 have h1 := cmpI_lt (sgn a g) (sgn b g2)
 have h2 := cmpI_eq (sgn a g) (sgn b g2)
 have h2' := cmpI_gt (sgn a g) (sgn b g2)
 have h1' := cmpI_lt (sgn b g2) (sgn a g)
 have h3' := cmpI_eq (sgn b g2) (sgn a g)
 have h4' := cmpI_gt (sgn b g2) (sgn a g)
 have h3 := compareInt_cases (sgn a g) (sgn b g2)
 by_cases h : sgn a g = sgn b g2
 ·rw [if_pos (h3'.2 h.symm), if_pos (h2.2 h), cmpSz_neg, h, Int.mul_neg]
 ·rw [if_neg (fun e => h (h3'.1 e).symm), if_neg (fun e => h (h2.1 e))]
  rcases h3 with e | e | e
  ·rw [e, h4'.2 (h1.1 e)]; rfl
  ·exact absurd (h2.1 e) h
  ·rw [e, h1'.2 (h2'.1 e)]
end Np
end
section
open Go.RowKit Np Rw Vp
def hdN (kind : Int) (m : Nat) : Nd := ⟨kind, m, [], [], false, 0⟩
abbrev zeroN : Nd := ⟨0, 0, [], [], false, 0⟩
def setNm (nm : List UInt8) : List Nd → List Nd
 | [] => []
 | n :: l => { n with name := nm } :: l
theorem setNm_len (nm : List UInt8) (l : List Nd) : (setNm nm l).length = l.length := by cases l <;> rfl
abbrev Pr := List UInt8 × List Nd
def laid (ps : List Pr) : List Nd := (ps.map fun p => setNm p.1 p.2).flatten
theorem laid_snoc (ps : List Pr) (p : Pr) : laid (ps ++ [p]) = laid ps ++ setNm p.1 p.2 := by simp [laid]
theorem laid_cons (p : Pr) (ps : List Pr) : laid (p :: ps) = setNm p.1 p.2 ++ laid ps := by simp [laid]
theorem laid_len (ps : List Pr) : (laid ps).length = (ps.map fun p => p.2.length).sum := by
 induction ps with
 | nil => rfl
 | cons p ps ih =>
  rw [laid_cons, List.length_append, ih, setNm_len]; simp
def srt (ps : List Pr) : List Pr := ps.mergeSort (fun a b => decide (a.1 ≤ b.1))
def rises (ps : List Pr) : Prop := ps.Pairwise (fun a b => a.1 < b.1)
theorem le_of_not {a b : List UInt8} (h : ¬ b < a) : a ≤ b := List.not_lt.1 h
theorem lt_of_ne {a b : List UInt8} (h : ¬ b < a) (hne : a ≠ b) : a < b := by
 rcases Classical.em (a < b) with h1 | h1
 ·exact h1
 ·exact absurd (List.le_antisymm (le_of_not h) (le_of_not h1)) hne
theorem srt_of {ps qs : List Pr} (hp : ps.Perm qs) (hr : rises ps) : srt qs = ps := by
 have h1 : (srt qs).Perm ps := (List.mergeSort_perm qs _).trans hp.symm
 have h2 : (srt qs).Pairwise (fun a b => decide (a.1 ≤ b.1) = true) := List.pairwise_mergeSort
  (fun a b c h1 h2 => by simp only [decide_eq_true_eq] at *; exact List.le_trans h1 h2)
  (fun a b => by
   rcases List.le_total a.1 b.1 with h | h
   ·simp [h]
   ·simp [h]) qs
 have h3 : ps.Pairwise (fun a b => decide (a.1 ≤ b.1) = true) := hr.imp fun h => by simpa using List.le_of_lt h
 refine List.Perm.eq_of_pairwise (le := fun a b => decide (a.1 ≤ b.1) = true) ?_ h2 h3 h1
 intro a b ha hb h4 h5
 simp only [decide_eq_true_eq] at h4 h5
 have ha' : a ∈ ps := h1.mem_iff.1 ha
 have he : a.1 = b.1 := List.le_antisymm h4 h5
 have key : ∀ (l : List Pr), rises l → ∀ a ∈ l, ∀ b ∈ l, a.1 = b.1 → a = b := by
  intro l
  induction l with
  | nil => intro _ a ha; simp at ha
  | cons x l ih =>
   intro hr a ha b hb he
   obtain ⟨hx, hl⟩ := List.pairwise_cons.1 hr
   rcases List.mem_cons.1 ha with h1 | h1 <;> rcases List.mem_cons.1 hb with h2 | h2
   ·rw [h1, h2]
   ·have := hx b h2; rw [← he, h1] at this; exact absurd this (List.lt_irrefl _)
   ·have := hx a h1; rw [he, h2] at this; exact absurd this (List.lt_irrefl _)
   ·exact ih hl a h1 b h2 he
 exact key ps hr a ha' b hb he
def okNames (names : List (List UInt8)) : Bool := decide names.Nodup && names.all vld
def objB (names : List (List UInt8)) (L : List (List Nd)) : Bool := decide (names.length = L.length) && okNames names
def objV (names : List (List UInt8)) (L : List (List Nd)) : List Nd := if objB names L = true then hdN 6 L.length :: laid (srt (names.zip L)) else []
def objE (names : List (List UInt8)) (L : List (List Nd)) : Int := if objB names L = true then 0 else 4
theorem strict : ∀ (q : List (List UInt8)), q.Pairwise (fun a b => ¬ b < a) → (∀ i a b, q[i]? = some a → q[i + 1]? = some b → a ≠ b) → q.Pairwise (· < ·)
 | [], _, _ => List.Pairwise.nil
 | [a], _, _ => by simp
 | a :: c :: q, h, hn => by
  obtain ⟨h1, h2⟩ := List.pairwise_cons.1 h
  have ih := strict (c :: q) h2 (fun i x y hx hy => hn (i + 1) x y (by simpa using hx) (by simpa using hy))
  obtain ⟨h3, h4⟩ := List.pairwise_cons.1 ih
  have hac : a < c := lt_of_ne (h1 c (by simp)) (hn 0 a c rfl rfl)
  refine List.pairwise_cons.2 ⟨fun b hb => ?_, ih⟩
  rcases List.mem_cons.1 hb with rfl | hb
  ·exact hac
  ·exact List.lt_trans hac (h3 b hb)
abbrev atN (names : List (List UInt8)) (j : Nat) : List UInt8 := names.getD j []
abbrev atL (L : List (List Nd)) (j : Nat) : List Nd := L.getD j []
theorem range_names (names : List (List UInt8)) : (List.range names.length).map (atN names) = names := by
 apply List.ext_getElem
 ·simp
 ·intro i h1 h2
  simp [atN, List.getD_eq_getElem?_getD, h2]
theorem range_zip (names : List (List UInt8)) (L : List (List Nd)) (h : names.length = L.length) : (List.range names.length).map (fun j => (atN names j, atL L j)) = names.zip L := by
 apply List.ext_getElem
 ·simp [h]
 ·intro i h1 h2
  simp at h1
  simp [atN, atL, List.getD_eq_getElem?_getD, h1, show i < L.length by omega]
structure Places (names : List (List UInt8)) (p : List Nat) : Prop where
 perm : p.Perm (List.range names.length)
 rise : p.Pairwise (fun i j => ¬ atN names j < atN names i)
theorem Places.length {names : List (List UInt8)} {p : List Nat} (h : Places names p) : p.length = names.length := by rw [h.perm.length_eq]; simp
theorem Places.lt {names : List (List UInt8)} {p : List Nat} (h : Places names p) {j : Nat} (hj : j ∈ p) : j < names.length := by simpa using h.perm.mem_iff.1 hj
theorem Places.names {names : List (List UInt8)} {p : List Nat} (h : Places names p) : (p.map (atN names)).Perm names := by
 have := h.perm.map (atN names)
 rwa [range_names] at this
theorem Places.same {names : List (List UInt8)} {p : List Nat} (h : Places names p) {k i j : Nat} (hi : p[k]? = some i) (hj : p[k + 1]? = some j) (he : atN names i = atN names j) : okNames names = false := by
 have : ¬ names.Nodup := fun hn => by
  have h2 := h.names.nodup_iff.2 hn
  have h3 : (p.map (atN names))[k]? = some (atN names i) := by rw [List.getElem?_map, hi]; rfl
  have h4 : (p.map (atN names))[k + 1]? = some (atN names j) := by rw [List.getElem?_map, hj]; rfl
  obtain ⟨l3, e3⟩ := List.getElem?_eq_some_iff.1 h3
  obtain ⟨l4, e4⟩ := List.getElem?_eq_some_iff.1 h4
  have h5 := List.pairwise_iff_getElem.1 h2 k (k + 1) l3 l4 (by omega)
  rw [e3, e4] at h5
  exact h5 he
 unfold okNames
 simp [this]
theorem Places.wrong {names : List (List UInt8)} {p : List Nat} (h : Places names p) {i : Nat} (hi : i ∈ p) (hv : vld (atN names i) = false) : okNames names = false := by
 unfold okNames
 have hlt := h.lt hi
 have : names.all vld = false := by
  rw [List.all_eq_false]
  refine ⟨atN names i, ?_, by rw [hv]; decide⟩
  rw [atN, List.getD_eq_getElem?_getD, List.getElem?_eq_getElem hlt]
  exact List.getElem_mem hlt
 simp [this]
theorem Places.pairs {names : List (List UInt8)} {L : List (List Nd)} {p : List Nat} (h : Places names p) (hl : names.length = L.length) (hs : (p.map (atN names)).Pairwise (· < ·)) :
  srt (names.zip L) = p.map (fun j => (atN names j, atL L j)) := by
 refine srt_of ?_ (List.pairwise_map.2 (List.pairwise_map.1 hs))
 have := h.perm.map (fun j => (atN names j, atL L j))
 rwa [range_zip names L hl] at this
theorem Places.sum {names : List (List UInt8)} {L : List (List Nd)} {p : List Nat} (h : Places names p) (hl : names.length = L.length) : (p.map fun x => (atL L x).length).sum = (L.map List.length).sum := by
 rw [(h.perm.map (fun x => (atL L x).length)).sum_nat, hl]
 congr 1
 apply List.ext_getElem
 ·simp
 ·intro i h1 h2
  simp at h1
  simp [atL, List.getD_eq_getElem?_getD, h1]
end
section
namespace Vp
open Go.RowKit Np Rw
def passes (nm : List UInt8) (t : Tr Nd) : Prop := t.nd.name ≠ nm ∧ ¬ nm < t.nd.name
end Vp
end
end Go.Proofs.YtldioobbfkaebaaGreatDoor
