/-
  Plain words on rows: a node, and behind it its parts, each likewise; trees, the row of a tree, what is left of a row behind some of its values. No program stands here.
-/
import Derived.Test.YtbhgmfddjnkglaaGreatDoorNumPlain
namespace Go.Proofs.YtbhgmfddjnkglaaGreatDoor
namespace Rw

inductive Tr (α : Type) where
  | mk (n : α) (ks : List (Tr α)) : Tr α

section
variable {α : Type}
def Tr.nd : Tr α → α | .mk n _ => n
def Tr.ks : Tr α → List (Tr α) | .mk _ k => k
@[simp] theorem Tr.nd_mk (n : α) (ks : List (Tr α)) : (Tr.mk n ks).nd = n := rfl
@[simp] theorem Tr.ks_mk (n : α) (ks : List (Tr α)) : (Tr.mk n ks).ks = ks := rfl
theorem Tr.eta (t : Tr α) : t = .mk t.nd t.ks := by cases t; rfl

mutual
def flat : Tr α → List α
  | .mk n ks => n :: flats ks
def flats : List (Tr α) → List α
  | [] => []
  | t :: ts => flat t ++ flats ts
end
theorem flat_mk (n : α) (ks : List (Tr α)) : flat (.mk n ks) = n :: flats ks := by simp [flat]
@[simp] theorem flats_nil : flats ([] : List (Tr α)) = [] := by simp [flats]
@[simp] theorem flats_cons (t : Tr α) (ts : List (Tr α)) : flats (t :: ts) = flat t ++ flats ts := by simp [flats]
theorem flat_eq (t : Tr α) : flat t = t.nd :: flats t.ks := by cases t; simp [flat]
theorem flats_append (a b : List (Tr α)) : flats (a ++ b) = flats a ++ flats b := by
  induction a with
  | nil => simp
  | cons t ts ih => simp [ih]
theorem flats_map (ts : List (Tr α)) : flats ts = (ts.map flat).flatten := by
  induction ts with
  | nil => simp
  | cons t ts ih => simp [ih]
theorem flat_pos (t : Tr α) : 0 < (flat t).length := by rw [flat_eq]; simp
theorem flat_ne (t : Tr α) : flat t ≠ [] := by rw [flat_eq]; simp
theorem flats_len (ts : List (Tr α)) : ts.length ≤ (flats ts).length := by
  induction ts with
  | nil => simp
  | cons t ts ih => have := flat_pos t; simp; omega

variable (many : α → Int)
mutual
def okT : Tr α → Prop
  | .mk n ks => many n = ks.length ∧ okTs ks
def okTs : List (Tr α) → Prop
  | [] => True
  | t :: ts => okT t ∧ okTs ts
end
variable {many}
theorem okT_mk {n : α} {ks : List (Tr α)} : okT many (.mk n ks) ↔ many n = ks.length ∧ okTs many ks := by simp [okT]
theorem okT_eq {t : Tr α} : okT many t ↔ many t.nd = t.ks.length ∧ okTs many t.ks := by cases t; simp [okT]
@[simp] theorem okTs_nil : okTs many [] := by simp [okTs]
@[simp] theorem okTs_cons {t : Tr α} {ts : List (Tr α)} : okTs many (t :: ts) ↔ okT many t ∧ okTs many ts := by simp [okTs]
theorem okTs_append {a b : List (Tr α)} : okTs many (a ++ b) ↔ okTs many a ∧ okTs many b := by
  induction a with
  | nil => simp
  | cons t ts ih => simp [ih, and_assoc]
theorem okTs_all {ts : List (Tr α)} : okTs many ts ↔ ∀ t ∈ ts, okT many t := by
  induction ts with
  | nil => simp
  | cons t ts ih => simp [ih]

variable (many)
/-- What is left of a row behind so many values; none: it ends too soon. -/
def skip : List α → Nat → Option (List α)
  | l, 0 => some l
  | [], _ + 1 => none
  | n :: l, k + 1 => if many n < 0 then none else skip l (k + (many n).toNat)
variable {many}
@[simp] theorem skip_zero (l : List α) : skip many l 0 = some l := by cases l <;> simp [skip]
@[simp] theorem skip_nil (k : Nat) : skip many [] (k + 1) = none := by simp [skip]
theorem skip_cons (n : α) (l : List α) (k : Nat) : skip many (n :: l) (k + 1) = if many n < 0 then none else skip many l (k + (many n).toNat) := by simp [skip]

mutual
theorem skip_flat : ∀ (t : Tr α) (r : List α) (k : Nat), okT many t → skip many (flat t ++ r) (k + 1) = skip many r k
  | .mk n ks, r, k, h => by
    obtain ⟨h1, h2⟩ := okT_mk.1 h
    rw [flat_mk, List.cons_append, skip_cons, if_neg (by omega), h1, Int.toNat_natCast, Nat.add_comm k, skip_flats ks r k h2]
theorem skip_flats : ∀ (ts : List (Tr α)) (r : List α) (k : Nat), okTs many ts → skip many (flats ts ++ r) (ts.length + k) = skip many r k
  | [], r, k, _ => by simp
  | t :: ts, r, k, h => by
    obtain ⟨h1, h2⟩ := okTs_cons.1 h
    rw [flats_cons, List.append_assoc, List.length_cons, show ts.length + 1 + k = ts.length + k + 1 by omega, skip_flat t _ _ h1, skip_flats ts r k h2]
end
theorem skip_inv : ∀ (l : List α) (k : Nat) (r : List α), skip many l k = some r → ∃ ts, okTs many ts ∧ ts.length = k ∧ l = flats ts ++ r
  | l, 0, r, h => ⟨[], by simp, rfl, by simpa using h⟩
  | [], k + 1, r, h => by simp at h
  | n :: l, k + 1, r, h => by
    rw [skip_cons] at h
    by_cases hn : many n < 0
    · rw [if_pos hn] at h; cases h
    · rw [if_neg hn] at h
      obtain ⟨ts, h1, h2, h3⟩ := skip_inv l _ r h
      refine ⟨.mk n (ts.take (many n).toNat) :: ts.drop (many n).toNat, ?_, by simp; omega, ?_⟩
      · rw [← List.take_append_drop (many n).toNat ts, okTs_append] at h1
        rw [okTs_cons, okT_mk]
        exact ⟨⟨by rw [List.length_take]; omega, h1.1⟩, h1.2⟩
      · rw [flats_cons, flat_mk, List.cons_append, ← flats_append, List.take_append_drop, h3, List.cons_append]

mutual
theorem flat_inj : ∀ (t u : Tr α) (r r' : List α), okT many t → okT many u → flat t ++ r = flat u ++ r' → t = u ∧ r = r'
  | .mk n ks, .mk m js, r, r', h, h', he => by
    rw [flat_mk, flat_mk, List.cons_append, List.cons_append] at he
    injection he with hn hr
    subst hn
    obtain ⟨h1, h2⟩ := okT_mk.1 h
    obtain ⟨h3, h4⟩ := okT_mk.1 h'
    obtain ⟨e1, e2⟩ := flats_inj ks js r r' h2 h4 (by omega) hr
    exact ⟨by rw [e1], e2⟩
theorem flats_inj : ∀ (ts us : List (Tr α)) (r r' : List α), okTs many ts → okTs many us → ts.length = us.length → flats ts ++ r = flats us ++ r' → ts = us ∧ r = r'
  | [], [], r, r', _, _, _, he => ⟨rfl, by simpa using he⟩
  | [], _ :: _, _, _, _, _, hl, _ => by simp at hl
  | _ :: _, [], _, _, _, _, hl, _ => by simp at hl
  | t :: ts, u :: us, r, r', h, h', hl, he => by
    obtain ⟨h1, h2⟩ := okTs_cons.1 h
    obtain ⟨h3, h4⟩ := okTs_cons.1 h'
    rw [flats_cons, flats_cons, List.append_assoc, List.append_assoc] at he
    obtain ⟨e1, e2⟩ := flat_inj t u _ _ h1 h3 he
    obtain ⟨e3, e4⟩ := flats_inj ts us r r' h2 h4 (by simpa using hl) e2
    exact ⟨by rw [e1, e3], e4⟩
end
theorem flat_inj' {t u : Tr α} (h : okT many t) (h' : okT many u) (he : flat t = flat u) : t = u :=
  (flat_inj t u [] [] h h' (by simpa using he)).1
/-- A row that is one value just is a tree's. -/
theorem skip_one {l : List α} (h : skip many l 1 = some []) : ∃ t, okT many t ∧ l = flat t := by
  obtain ⟨ts, h1, h2, h3⟩ := skip_inv l 1 [] h
  match ts, h2 with
  | [t], _ => exact ⟨t, (okTs_cons.1 h1).1, by simpa using h3⟩
theorem skip_flat_one {t : Tr α} (h : okT many t) : skip many (flat t) 1 = some [] := by
  have := skip_flat t [] 0 h
  simpa using this

mutual
/-- All trees within one, in the order of their nodes. -/
def subs : Tr α → List (Tr α)
  | .mk n ks => .mk n ks :: subss ks
def subss : List (Tr α) → List (Tr α)
  | [] => []
  | t :: ts => subs t ++ subss ts
end
theorem subs_mk (n : α) (ks : List (Tr α)) : subs (.mk n ks) = .mk n ks :: subss ks := by simp [subs]
@[simp] theorem subss_nil : subss ([] : List (Tr α)) = [] := by simp [subss]
@[simp] theorem subss_cons (t : Tr α) (ts : List (Tr α)) : subss (t :: ts) = subs t ++ subss ts := by simp [subss]
mutual
theorem subs_nd : ∀ t : Tr α, (subs t).map Tr.nd = flat t
  | .mk n ks => by rw [subs_mk, flat_mk, List.map_cons, subss_nd ks]; rfl
theorem subss_nd : ∀ ts : List (Tr α), (subss ts).map Tr.nd = flats ts
  | [] => by simp
  | t :: ts => by rw [subss_cons, flats_cons, List.map_append, subs_nd t, subss_nd ts]
end
theorem subs_length (t : Tr α) : (subs t).length = (flat t).length := by rw [← subs_nd, List.length_map]
mutual
theorem subs_drop : ∀ (t : Tr α) (r : List α) (i : Nat) (s : Tr α), (subs t)[i]? = some s → ∃ q, (flat t ++ r).drop i = flat s ++ q
  | .mk n ks, r, 0, s, h => by
    rw [subs_mk] at h; simp at h; subst h; exact ⟨r, by simp⟩
  | .mk n ks, r, i + 1, s, h => by
    rw [subs_mk] at h
    rw [flat_mk, List.cons_append, List.drop_succ_cons]
    exact subss_drop ks r i s (by simpa using h)
theorem subss_drop : ∀ (ts : List (Tr α)) (r : List α) (i : Nat) (s : Tr α), (subss ts)[i]? = some s → ∃ q, (flats ts ++ r).drop i = flat s ++ q
  | [], _, _, _, h => by simp at h
  | t :: ts, r, i, s, h => by
    rw [subss_cons] at h
    rw [flats_cons, List.append_assoc]
    by_cases hi : i < (subs t).length
    · rw [List.getElem?_append_left hi] at h
      exact subs_drop t _ i s h
    · rw [List.getElem?_append_right (by omega)] at h
      rw [subs_length] at hi h
      rw [List.drop_append, List.drop_eq_nil_of_le (by omega), List.nil_append]
      exact subss_drop ts r _ s h
end
mutual
theorem subs_ok : ∀ (t : Tr α), okT many t → ∀ s ∈ subs t, okT many s
  | .mk n ks, h, s, hs => by
    rw [subs_mk, List.mem_cons] at hs
    rcases hs with rfl | hs
    · exact h
    · exact subss_ok ks (okT_mk.1 h).2 s hs
theorem subss_ok : ∀ (ts : List (Tr α)), okTs many ts → ∀ s ∈ subss ts, okT many s
  | [], _, _, hs => by simp at hs
  | t :: ts, h, s, hs => by
    rw [subss_cons, List.mem_append] at hs
    obtain ⟨h1, h2⟩ := okTs_cons.1 h
    rcases hs with hs | hs
    · exact subs_ok t h1 s hs
    · exact subss_ok ts h2 s hs
end
end
end Rw
end Go.Proofs.YtbhgmfddjnkglaaGreatDoor
