/-
  Joined: OTxP, OSrtP, IntW, CmpW, SortW.
-/
import Derived.Test.YtbffeffplabaeaaOrderTotalJ3
import Derived.Test.YtbffeffplabaeaaOrderTotalJ6
import Derived.Deep.QuietTactic
import Derived.BigQuiet

/-
  Plain words: the order of values, told of their trees. No program stands here.
-/
namespace Go.Proofs.Ytbffeffplabaeaa
namespace Ov
open Go.RowKit Np Rw Vp

/-- The first of two that is not nought. -/
def orI (a b : Int) : Int := if a = 0 then b else a
/-- Which of two rows of texts is less. -/
def cmpNm : List (List UInt8) → List (List UInt8) → Int
  | a :: aa, b :: bb => orI (cmpB a b) (cmpNm aa bb)
  | [], bb => Lib.compareInt 0 bb.length
  | _ :: aa, [] => Lib.compareInt (aa.length + 1 : Nat) 0
abbrev nms (ts : List (Tr Nd)) : List (List UInt8) := ts.map fun t => t.nd.name

mutual
/-- Which of two values is less. -/
def cmpT : Tr Nd → Tr Nd → Int
  | .mk x xs, .mk y ys =>
    orI (Lib.compareInt x.kind y.kind)
      (if x.kind = 3 then cmpN x.s x.neg x.e y.s y.neg y.e
       else if x.kind = 4 then cmpB x.s y.s
       else if x.kind = 5 then cmpTs xs ys
       else if x.kind = 6 then orI (cmpNm (nms xs) (nms ys)) (cmpTs xs ys)
       else 0)
/-- Which of two rows of values is less, part by part; else the shorter one. -/
def cmpTs : List (Tr Nd) → List (Tr Nd) → Int
  | t :: ts, us => match us with
    | [] => 1
    | u :: us => orI (cmpT t u) (cmpTs ts us)
  | [], us => match us with
    | [] => 0
    | _ :: _ => -1
end
theorem cmpT_mk (x y : Nd) (xs ys : List (Tr Nd)) : cmpT (.mk x xs) (.mk y ys) = orI (Lib.compareInt x.kind y.kind) (if x.kind = 3 then cmpN x.s x.neg x.e y.s y.neg y.e else if x.kind = 4 then cmpB x.s y.s else if x.kind = 5 then cmpTs xs ys else if x.kind = 6 then orI (cmpNm (nms xs) (nms ys)) (cmpTs xs ys) else 0) := by rw [cmpT]
theorem cmpTs_cons (t u : Tr Nd) (ts us : List (Tr Nd)) : cmpTs (t :: ts) (u :: us) = orI (cmpT t u) (cmpTs ts us) := by rw [cmpTs]
@[simp] theorem cmpTs_nil : cmpTs [] [] = 0 := by rw [cmpTs]
@[simp] theorem cmpTs_less (u : Tr Nd) (us : List (Tr Nd)) : cmpTs [] (u :: us) = -1 := by rw [cmpTs]
@[simp] theorem cmpTs_more (t : Tr Nd) (ts : List (Tr Nd)) : cmpTs (t :: ts) [] = 1 := by rw [cmpTs]
theorem cmpI_neg (x y : Int) : Lib.compareInt y x = -Lib.compareInt x y := by unfold Lib.compareInt; (repeat' split) <;> omega
theorem cmpI_range (x y : Int) : Lib.compareInt x y = -1 ∨ Lib.compareInt x y = 0 ∨ Lib.compareInt x y = 1 := by unfold Lib.compareInt; (repeat' split) <;> omega
theorem cmpB_neg (a b : List UInt8) : cmpB b a = -cmpB a b := by
  rcases cmpB_cases a b with h | h | h
  · rw [h, (cmpB_gt b a).2 ((cmpB_lt a b).1 h)]; rfl
  · rw [h, (cmpB_eq b a).2 ((cmpB_eq a b).1 h).symm]; rfl
  · rw [h, (cmpB_lt b a).2 ((cmpB_gt a b).1 h)]
theorem orI_neg {a b a' b' : Int} (h : a' = -a) (h2 : b' = -b) : orI a' b' = -orI a b := by unfold orI; split <;> split <;> omega
theorem orI_range {a b : Int} (h : a = -1 ∨ a = 0 ∨ a = 1) (h2 : b = -1 ∨ b = 0 ∨ b = 1) : orI a b = -1 ∨ orI a b = 0 ∨ orI a b = 1 := by unfold orI; split <;> omega
theorem orI_zero {a b : Int} : orI a b = 0 ↔ a = 0 ∧ b = 0 := by unfold orI; split <;> omega
@[simp] theorem orI_z (b : Int) : orI 0 b = b := by simp [orI]
@[simp] theorem orI_r (a : Int) : orI a 0 = a := by unfold orI; split <;> omega
theorem orI_ne {a b : Int} (h : a ≠ 0) : orI a b = a := by simp [orI, h]
theorem cmpNm_nil : cmpNm [] [] = 0 := by simp [cmpNm, Lib.compareInt]
theorem cmpNm_less (b : List UInt8) (bb : List (List UInt8)) : cmpNm [] (b :: bb) = -1 := by simp only [cmpNm]; exact (cmpI_lt _ _).2 (by simp)
theorem cmpNm_more (a : List UInt8) (aa : List (List UInt8)) : cmpNm (a :: aa) [] = 1 := by simp only [cmpNm]; exact (cmpI_gt _ _).2 (by omega)
theorem cmpNm_cons (a b : List UInt8) (aa bb : List (List UInt8)) : cmpNm (a :: aa) (b :: bb) = orI (cmpB a b) (cmpNm aa bb) := by rw [cmpNm]
theorem cmpNm_neg : ∀ aa bb : List (List UInt8), cmpNm bb aa = -cmpNm aa bb
  | [], [] => by simp [cmpNm_nil]
  | [], b :: bb => by simp [cmpNm_less, cmpNm_more]
  | a :: aa, [] => by simp [cmpNm_less, cmpNm_more]
  | a :: aa, b :: bb => by rw [cmpNm_cons, cmpNm_cons]; exact orI_neg (cmpB_neg a b) (cmpNm_neg aa bb)
theorem cmpNm_range : ∀ aa bb : List (List UInt8), cmpNm aa bb = -1 ∨ cmpNm aa bb = 0 ∨ cmpNm aa bb = 1
  | [], [] => by simp [cmpNm_nil]
  | [], b :: bb => by simp [cmpNm_less]
  | a :: aa, [] => by simp [cmpNm_more]
  | a :: aa, b :: bb => by rw [cmpNm_cons]; exact orI_range (cmpB_cases a b) (cmpNm_range aa bb)
theorem cmpNm_zero : ∀ aa bb : List (List UInt8), cmpNm aa bb = 0 ↔ aa = bb
  | [], [] => by simp [cmpNm_nil]
  | [], b :: bb => by simp [cmpNm_less]
  | a :: aa, [] => by simp [cmpNm_more]
  | a :: aa, b :: bb => by rw [cmpNm_cons, orI_zero, cmpB_eq, cmpNm_zero aa bb]; simp

/-- Of two kinds that are the same. -/
theorem cmpT_kind {t u : Tr Nd} (h : t.nd.kind ≠ u.nd.kind) : cmpT t u = Lib.compareInt t.nd.kind u.nd.kind := by
  cases t with | mk x xs => cases u with | mk y ys =>
    rw [cmpT_mk, orI_ne (a := Lib.compareInt x.kind y.kind) (fun e => h ((cmpI_eq _ _).1 e))]; rfl
theorem cmpT_same {t u : Tr Nd} (h : t.nd.kind = u.nd.kind) : cmpT t u = (if t.nd.kind = 3 then cmpN t.nd.s t.nd.neg t.nd.e u.nd.s u.nd.neg u.nd.e else if t.nd.kind = 4 then cmpB t.nd.s u.nd.s else if t.nd.kind = 5 then cmpTs t.ks u.ks else if t.nd.kind = 6 then orI (cmpNm (nms t.ks) (nms u.ks)) (cmpTs t.ks u.ks) else 0) := by
  cases t with | mk x xs => cases u with | mk y ys =>
    rw [cmpT_mk, show Lib.compareInt x.kind y.kind = 0 from (cmpI_eq _ _).2 h, orI_z]; rfl
theorem cmpT_nmd (a b : List UInt8) (t u : Tr Nd) : cmpT (nmd a t) (nmd b u) = cmpT t u := by
  cases t with | mk x xs => cases u with | mk y ys =>
    show cmpT (.mk (nmN a x) xs) (.mk (nmN b y) ys) = _
    rw [cmpT_mk, cmpT_mk]; rfl

mutual
theorem cmpT_neg : ∀ t u : Tr Nd, cmpT u t = -cmpT t u
  | .mk x xs, .mk y ys => by
    rw [cmpT_mk, cmpT_mk]
    by_cases h : x.kind = y.kind
    · refine orI_neg (cmpI_neg _ _) ?_
      rw [h]
      split
      · exact cmpN_neg _ _ _ _ _ _
      · split
        · exact cmpB_neg _ _
        · split
          · exact cmpTs_neg xs ys
          · split
            · exact orI_neg (cmpNm_neg _ _) (cmpTs_neg xs ys)
            · rfl
    · rw [orI_ne (fun e => h ((cmpI_eq _ _).1 e).symm), orI_ne (fun e => h ((cmpI_eq _ _).1 e))]
      exact cmpI_neg _ _
theorem cmpTs_neg : ∀ ts us : List (Tr Nd), cmpTs us ts = -cmpTs ts us
  | [], [] => by simp
  | [], u :: us => by simp
  | t :: ts, [] => by simp
  | t :: ts, u :: us => by rw [cmpTs_cons, cmpTs_cons]; exact orI_neg (cmpT_neg t u) (cmpTs_neg ts us)
end
mutual
theorem cmpT_range : ∀ t u : Tr Nd, cmpT t u = -1 ∨ cmpT t u = 0 ∨ cmpT t u = 1
  | .mk x xs, .mk y ys => by
    rw [cmpT_mk]
    refine orI_range (cmpI_range _ _) ?_
    split
    · exact cmpN_range _ _ _ _ _ _
    · split
      · exact cmpB_cases _ _
      · split
        · exact cmpTs_range xs ys
        · split
          · exact orI_range (cmpNm_range _ _) (cmpTs_range xs ys)
          · simp
theorem cmpTs_range : ∀ ts us : List (Tr Nd), cmpTs ts us = -1 ∨ cmpTs ts us = 0 ∨ cmpTs ts us = 1
  | [], [] => by simp
  | [], u :: us => by simp
  | t :: ts, [] => by simp
  | t :: ts, u :: us => by rw [cmpTs_cons]; exact orI_range (cmpT_range t u) (cmpTs_range ts us)
end

/-- What three answers ask of one another. -/
def Tri (x y z : Int) : Prop := x ≤ 0 → y ≤ 0 → z ≤ 0 ∧ (z = 0 → x = 0 ∧ y = 0)
theorem Tri.or {a b c a' b' c' : Int} (h : Tri a b c) (h' : a = 0 → b = 0 → c = 0 → Tri a' b' c') : Tri (orI a a') (orI b b') (orI c c') := by
  intro h1 h2
  have ha : a ≤ 0 := by unfold orI at h1; split at h1 <;> omega
  have hb : b ≤ 0 := by unfold orI at h2; split at h2 <;> omega
  obtain ⟨h3, h4⟩ := h ha hb
  by_cases hc : c = 0
  · obtain ⟨e1, e2⟩ := h4 hc
    subst e1 e2 hc
    rw [orI_z] at h1 h2 ⊢
    rw [orI_z, orI_z]
    exact h' rfl rfl rfl h1 h2
  · rw [orI_ne hc]
    exact ⟨h3, fun e => absurd e hc⟩
theorem tri_int (x y z : Int) : Tri (Lib.compareInt x y) (Lib.compareInt y z) (Lib.compareInt x z) := by
  unfold Tri Lib.compareInt; (repeat' split) <;> omega
theorem tri_bytes (a b c : List UInt8) : Tri (cmpB a b) (cmpB b c) (cmpB a c) := by
  intro h1 h2
  have e1 : ¬ b < a := fun h => by rw [(cmpB_gt a b).2 h] at h1; omega
  have e2 : ¬ c < b := fun h => by rw [(cmpB_gt b c).2 h] at h2; omega
  have e3 : ¬ c < a := fun h => by
    have h5 : a ≤ b := List.not_lt.1 e1
    have h6 : b ≤ c := List.not_lt.1 e2
    exact absurd h (List.not_lt.2 (List.le_trans h5 h6))
  refine ⟨?_, fun h => ?_⟩
  · rcases cmpB_cases a c with h | h | h
    · omega
    · omega
    · exact absurd ((cmpB_gt a c).1 h) e3
  · obtain rfl := (cmpB_eq a c).1 h
    have : a = b := by
      rcases cmpB_cases a b with h | h | h
      · exact absurd ((cmpB_lt a b).1 h) e2
      · exact (cmpB_eq a b).1 h
      · exact absurd ((cmpB_gt a b).1 h) e1
    subst this
    exact ⟨(cmpB_eq _ _).2 rfl, (cmpB_eq _ _).2 rfl⟩
theorem tri_num (a : List UInt8) (g : Bool) (x : Int) (b : List UInt8) (g2 : Bool) (y : Int) (c : List UInt8) (g3 : Bool) (z : Int) : Tri (cmpN a g x b g2 y) (cmpN b g2 y c g3 z) (cmpN a g x c g3 z) := by
  intro h1 h2
  refine ⟨cmpN_trans h1 h2, fun h => ?_⟩
  have h3 := cmpN_neg a g x c g3 z
  have h4 := cmpN_trans (a := c) (g := g3) (x := z) (b := a) (g2 := g) (y := x) (c := b) (g3 := g2) (z := y) (by omega) h1
  have h5 := cmpN_trans (a := b) (g := g2) (x := y) (b := c) (g2 := g3) (y := z) (c := a) (g3 := g) (z := x) h2 (by omega)
  have h6 := cmpN_neg b g2 y c g3 z
  have h7 := cmpN_neg a g x b g2 y
  omega
theorem tri_names : ∀ aa bb cc : List (List UInt8), Tri (cmpNm aa bb) (cmpNm bb cc) (cmpNm aa cc)
  | [], [], cc => by intro h1 h2; exact ⟨h2, fun h => ⟨cmpNm_nil, h⟩⟩
  | [], b :: bb, [] => by intro h1 h2; rw [cmpNm_more] at h2; omega
  | [], b :: bb, c :: cc => by intro _ _; rw [cmpNm_less]; omega
  | a :: aa, [], cc => by intro h1; rw [cmpNm_more] at h1; omega
  | a :: aa, b :: bb, [] => by intro _ h2; rw [cmpNm_more] at h2; omega
  | a :: aa, b :: bb, c :: cc => by rw [cmpNm_cons, cmpNm_cons, cmpNm_cons]; exact (tri_bytes a b c).or fun _ _ _ => tri_names aa bb cc
mutual
theorem cmpT_tri : ∀ t u v : Tr Nd, Tri (cmpT t u) (cmpT u v) (cmpT t v)
  | .mk x xs, .mk y ys, .mk z zs => by
    rw [cmpT_mk, cmpT_mk, cmpT_mk]
    refine (tri_int _ _ _).or fun h1 h2 h3 => ?_
    rw [cmpI_eq] at h1 h2
    rw [h1, h2]
    split
    · exact tri_num _ _ _ _ _ _ _ _ _
    · split
      · exact tri_bytes _ _ _
      · split
        · exact cmpTs_tri xs ys zs
        · split
          · exact (tri_names _ _ _).or fun _ _ _ => cmpTs_tri xs ys zs
          · intro _ _; exact ⟨by omega, fun _ => ⟨rfl, rfl⟩⟩
theorem cmpTs_tri : ∀ ts us vs : List (Tr Nd), Tri (cmpTs ts us) (cmpTs us vs) (cmpTs ts vs)
  | [], [], cc => by intro h1 h2; exact ⟨h2, fun h => ⟨cmpTs_nil, h⟩⟩
  | [], b :: bb, [] => by intro h1 h2; rw [cmpTs_more] at h2; omega
  | [], b :: bb, c :: cc => by intro _ _; rw [cmpTs_less]; omega
  | a :: aa, [], cc => by intro h1; rw [cmpTs_more] at h1; omega
  | a :: aa, b :: bb, [] => by intro _ h2; rw [cmpTs_more] at h2; omega
  | a :: aa, b :: bb, c :: cc => by rw [cmpTs_cons, cmpTs_cons, cmpTs_cons]; exact (cmpT_tri a b c).or fun _ _ _ => cmpTs_tri aa bb cc
end
theorem cmpT_refl (t : Tr Nd) : cmpT t t = 0 := by have := cmpT_neg t t; omega
theorem cmpTs_refl (ts : List (Tr Nd)) : cmpTs ts ts = 0 := by have := cmpTs_neg ts ts; omega

/-- Two right nodes that compare aa one, whose names are the same, are one. -/
theorem plain_one {x y : Nd} (hx : plainN x = true) (hy : plainN y = true) (hn : x.name = y.name) (hk : x.kind = y.kind) (hm : x.many = y.many)
    (h3 : x.kind = 3 → cmpN x.s x.neg x.e y.s y.neg y.e = 0) (h4 : x.kind = 4 → x.s = y.s) : x = y := by
  obtain ⟨k, m, nm, s, g, e⟩ := x
  obtain ⟨k2, m2, nm2, s2, g2, e2⟩ := y
  simp only at hn hk hm h3 h4
  subst hn hk hm
  by_cases c3 : k = 3
  · subst c3
    have hx' : right ⟨3, m, [], s, g, e⟩ = true := hx
    have hy' : right ⟨3, m, [], s2, g2, e2⟩ = true := hy
    obtain ⟨-, -, -, e1, e3, e4⟩ := (cmpN_zero hx' hy').1 (h3 rfl)
    rw [e1, e3, e4]
  · by_cases c4 : k = 4
    · subst c4
      have := h4 rfl
      subst this
      simp [plainN] at hx hy
      simp [hx, hy]
    · unfold plainN at hx hy
      simp only at hx hy
      split at hx
      · rename_i h
        rw [if_pos h] at hy
        simp at hx hy
        simp [hx, hy]
      · rename_i h
        rw [if_neg h, if_neg c3, if_neg c4] at hy
        try rw [if_neg c3, if_neg c4] at hx
        split at hx
        · rename_i h
          rw [if_pos h] at hy
          simp at hx hy
          simp [hx, hy]
        · cases hx
theorem Parts.cons {t : Tr Nd} {ts : List (Tr Nd)} (h : Parts (t :: ts)) : (okT many t ∧ rightT t = true) ∧ Parts ts := ⟨h t (by simp), fun u hu => h u (by simp [hu])⟩
theorem cmpTs_len : ∀ ts us : List (Tr Nd), cmpTs ts us = 0 → ts.length = us.length
  | [], [], _ => rfl
  | [], u :: us, h => by simp at h
  | t :: ts, [], h => by simp at h
  | t :: ts, u :: us, h => by
    rw [cmpTs_cons, orI_zero] at h
    rw [List.length_cons, List.length_cons, cmpTs_len ts us h.2]
theorem nms_none {ts : List (Tr Nd)} (h : ∀ u ∈ ts, u.nd.name = []) : nms ts = List.replicate ts.length [] := by
  induction ts with
  | nil => rfl
  | cons t ts ih => simp only [nms, List.map_cons, List.length_cons, List.replicate_succ]; rw [h t (by simp), ← ih fun u hu => h u (by simp [hu])]
mutual
theorem cmpT_one : ∀ t u : Tr Nd, okT many t → rightT t = true → okT many u → rightT u = true → t.nd.name = u.nd.name → cmpT t u = 0 → t = u
  | .mk x xs, .mk y ys, ht, hrt, hu, hru, hn, h => by
    have V := Val.clr ht hrt
    have U := Val.clr hu hru
    have pV : plainN x = true := by have := V.plain; exact this
    have pU : plainN y = true := by have := U.plain; exact this
    rw [cmpT_mk, orI_zero, cmpI_eq] at h
    obtain ⟨hk, h⟩ := h
    obtain ⟨m1, o1⟩ := okT_mk.1 ht
    obtain ⟨m2, o2⟩ := okT_mk.1 hu
    have hks : xs = ys := by
      by_cases c5 : x.kind = 5
      · rw [if_neg (by omega), if_neg (by omega), if_pos c5] at h
        refine cmpTs_one xs ys V.parts U.parts ?_ h
        have r1 : ∀ u ∈ xs, u.nd.name = [] := V.unnamed c5
        have r2 : ∀ u ∈ ys, u.nd.name = [] := U.unnamed (hk ▸ c5)
        rw [nms_none r1, nms_none r2, cmpTs_len xs ys h]
      · by_cases c6 : x.kind = 6
        · rw [if_neg (by omega), if_neg (by omega), if_neg c5, if_pos c6, orI_zero, cmpNm_zero] at h
          exact cmpTs_one xs ys V.parts U.parts h.1 h.2
        · have e1 := (plainN_many pV).2 c5 c6
          have e2 := (plainN_many pU).2 (by rw [← hk]; exact c5) (by rw [← hk]; exact c6)
          have l1 : xs.length = 0 := by have : x.many = xs.length := m1; omega
          have l2 : ys.length = 0 := by have : y.many = ys.length := m2; omega
          rw [List.eq_nil_of_length_eq_zero l1, List.eq_nil_of_length_eq_zero l2]
    subst hks
    have hxy : x = y := by
      refine plain_one pV pU hn hk ?_ ?_ ?_
      · have a1 : x.many = xs.length := m1
        have a2 : y.many = xs.length := m2
        rw [a1, a2]
      · intro c3; rw [if_pos c3] at h; exact h
      · intro c4; rw [if_neg (by omega), if_pos c4] at h; exact (cmpB_eq _ _).1 h
    rw [hxy]
theorem cmpTs_one : ∀ ts us : List (Tr Nd), Parts ts → Parts us → nms ts = nms us → cmpTs ts us = 0 → ts = us
  | [], [], _, _, _, _ => rfl
  | [], u :: us, _, _, _, h => by simp at h
  | t :: ts, [], _, _, _, h => by simp at h
  | t :: ts, u :: us, ht, hu, hn, h => by
    rw [cmpTs_cons, orI_zero] at h
    obtain ⟨a1, a2⟩ := Parts.cons ht
    obtain ⟨b1, b2⟩ := Parts.cons hu
    simp only [nms, List.map_cons, List.cons.injEq] at hn
    rw [cmpT_one t u a1.1 a1.2 b1.1 b1.2 hn.1 h.1, cmpTs_one ts us a2 b2 hn.2 h.2]
end
/-- The same are just those that are one. -/
theorem cmp_same {t u : Tr Nd} (ht : Val t) (hu : Val u) : cmpT t u = 0 ↔ t = u := by
  constructor
  · intro h
    exact cmpT_one t u ht.ok ht.rt hu.ok hu.rt (ht.nm.trans hu.nm.symm) h
  · rintro rfl; exact cmpT_refl _
end Ov
end Go.Proofs.Ytbffeffplabaeaa

/-
  Plain words: places sorted by a comparison, halves merged; the groups of what is the same. No program stands here.
-/
namespace Go.Proofs.Ytbffeffplabaeaa
namespace Ov
open Go.RowKit Np Rw Vp

/-- A comparison that is an order. -/
structure Cp (c : Nat → Nat → Int) : Prop where
  neg : ∀ i k, c k i = -c i k
  tri : ∀ i j k, Tri (c i j) (c j k) (c i k)
theorem Cp.refl {c : Nat → Nat → Int} (h : Cp c) (i : Nat) : c i i = 0 := by have := h.neg i i; omega
/-- What stands ahead of what. -/
def Bf (c : Nat → Nat → Int) (i k : Nat) : Prop := c i k < 0 ∨ c i k = 0 ∧ i < k
instance (c : Nat → Nat → Int) (i k : Nat) : Decidable (Bf c i k) := by unfold Bf; infer_instance
theorem Bf.asymm {c : Nat → Nat → Int} (h : Cp c) {i k : Nat} (h1 : Bf c i k) : ¬ Bf c k i := by
  have := h.neg i k
  unfold Bf at *
  omega
theorem Bf.trans {c : Nat → Nat → Int} (h : Cp c) {i j k : Nat} (h1 : Bf c i j) (h2 : Bf c j k) : Bf c i k := by
  have := h.tri i j k
  unfold Bf Tri at *
  omega
theorem Bf.total {c : Nat → Nat → Int} (h : Cp c) {i k : Nat} (hn : i ≠ k) : Bf c i k ∨ Bf c k i := by
  have := h.neg i k
  unfold Bf
  omega

def leC (c : Nat → Nat → Int) (i k : Nat) : Bool := decide (c i k ≤ 0)
/-- A list's halves, sorted, and merged. -/
def srtC (c : Nat → Nat → Int) (l : List Nat) : List Nat :=
  if h : l.length < 2 then l else List.merge (srtC c (l.take (l.length / 2))) (srtC c (l.drop (l.length / 2))) (leC c)
termination_by l.length
decreasing_by all_goals simp; omega
theorem srtC_short (c : Nat → Nat → Int) {l : List Nat} (h : l.length < 2) : srtC c l = l := by rw [srtC, dif_pos h]
theorem srtC_long (c : Nat → Nat → Int) {l : List Nat} (h : ¬ l.length < 2) : srtC c l = List.merge (srtC c (l.take (l.length / 2))) (srtC c (l.drop (l.length / 2))) (leC c) := by rw [srtC, dif_neg h]
theorem srt_perm (c : Nat → Nat → Int) : ∀ (n : Nat) (l : List Nat), l.length = n → (srtC c l).Perm l := by
  intro n
  induction n using Nat.strongRecOn with
  | ind n ih =>
    intro l hl
    by_cases h : l.length < 2
    · rw [srtC_short c h]
    · rw [srtC_long c h]
      refine (List.merge_perm_append _).trans ?_
      have h1 := ih (l.take (l.length / 2)).length (by simp; omega) _ rfl
      have h2 := ih (l.drop (l.length / 2)).length (by simp; omega) _ rfl
      have := h1.append h2
      rwa [List.take_append_drop] at this
theorem srt_len (c : Nat → Nat → Int) (l : List Nat) : (srtC c l).length = l.length := (srt_perm c _ l rfl).length_eq
theorem merge_bf {c : Nat → Nat → Int} (h : Cp c) : ∀ (n : Nat) (xs ys : List Nat), xs.length + ys.length = n → xs.Pairwise (Bf c) → ys.Pairwise (Bf c) → (∀ x ∈ xs, ∀ y ∈ ys, x < y) → (xs.merge ys (leC c)).Pairwise (Bf c) := by
  intro n
  induction n with
  | zero =>
    intro xs ys hn _ _ _
    obtain rfl : xs = [] := List.eq_nil_of_length_eq_zero (by omega)
    obtain rfl : ys = [] := List.eq_nil_of_length_eq_zero (by simpa using hn)
    simp
  | succ n ih =>
    intro xs ys hn hx hy hlt
    cases xs with
    | nil => simpa using hy
    | cons a xs =>
      cases ys with
      | nil => simpa using hx
      | cons b ys =>
        obtain ⟨x1, x2⟩ := List.pairwise_cons.1 hx
        obtain ⟨y1, y2⟩ := List.pairwise_cons.1 hy
        have hab := hlt a (by simp) b (by simp)
        rw [List.cons_merge_cons]
        by_cases hc : c a b ≤ 0
        · rw [if_pos (by simp [leC, hc])]
          have hB : Bf c a b := by unfold Bf; omega
          refine List.pairwise_cons.2 ⟨fun z hz => ?_, ih xs (b :: ys) (by simp at hn ⊢; omega) x2 hy fun x hx' y hy' => hlt x (by simp [hx']) y hy'⟩
          rcases List.mem_append.1 ((List.merge_perm_append _).mem_iff.1 hz) with h1 | h1
          · exact x1 z h1
          · rcases List.mem_cons.1 h1 with rfl | h1
            · exact hB
            · exact hB.trans h (y1 z h1)
        · rw [if_neg (by simp [leC]; omega)]
          have hB : Bf c b a := by have := h.neg a b; unfold Bf; omega
          refine List.pairwise_cons.2 ⟨fun z hz => ?_, ih (a :: xs) ys (by simp at hn ⊢; omega) hx y2 fun x hx' y hy' => hlt x hx' y (by simp [hy'])⟩
          rcases List.mem_append.1 ((List.merge_perm_append _).mem_iff.1 hz) with h1 | h1
          · rcases List.mem_cons.1 h1 with rfl | h1
            · exact hB
            · exact hB.trans h (x1 z h1)
          · exact y1 z h1
theorem srt_bf {c : Nat → Nat → Int} (h : Cp c) : ∀ (n : Nat) (l : List Nat), l.length = n → l.Pairwise (· < ·) → (srtC c l).Pairwise (Bf c) := by
  intro n
  induction n using Nat.strongRecOn with
  | ind n ih =>
    intro l hl hp
    by_cases h2 : l.length < 2
    · rw [srtC_short c h2]
      match l, h2 with
      | [], _ => exact List.Pairwise.nil
      | [x], _ => simp
    · rw [srtC_long c h2]
      have hp' := hp
      rw [← List.take_append_drop (l.length / 2) l, List.pairwise_append] at hp'
      obtain ⟨p1, p2, p3⟩ := hp'
      refine merge_bf h _ _ _ rfl (ih (l.take (l.length / 2)).length (by simp; omega) _ rfl p1) (ih (l.drop (l.length / 2)).length (by simp; omega) _ rfl p2) fun x hx y hy => ?_
      exact p3 x ((srt_perm c _ _ rfl).mem_iff.1 hx) y ((srt_perm c _ _ rfl).mem_iff.1 hy)
/-- The places of so many keys, sorted. -/
def plc (c : Nat → Nat → Int) (n : Nat) : List Nat := srtC c (List.range n)
theorem plc_len (c : Nat → Nat → Int) (n : Nat) : (plc c n).length = n := by rw [plc, srt_len, List.length_range]
theorem plc_perm (c : Nat → Nat → Int) (n : Nat) : (plc c n).Perm (List.range n) := srt_perm c _ _ rfl
theorem plc_bf {c : Nat → Nat → Int} (h : Cp c) (n : Nat) : (plc c n).Pairwise (Bf c) := srt_bf h _ _ rfl List.pairwise_lt_range
theorem plc_lt {c : Nat → Nat → Int} {n i : Nat} (hi : i ∈ plc c n) : i < n := by simpa using (plc_perm c n).mem_iff.1 hi
theorem plc_nodup (c : Nat → Nat → Int) (n : Nat) : (plc c n).Nodup := (plc_perm c n).nodup_iff.2 List.nodup_range
/-- There is but one such list. -/
theorem plc_uniq {c : Nat → Nat → Int} (h : Cp c) {n : Nat} {l : List Nat} (hp : l.Perm (List.range n)) (hb : l.Pairwise (Bf c)) : plc c n = l :=
  List.Perm.eq_of_pairwise (le := Bf c) (fun _ _ _ _ h1 h2 => absurd h2 (h1.asymm h)) (plc_bf h n) hb ((plc_perm c n).trans hp.symm)
/-- Do keys rise? -/
def rise (c : Nat → Nat → Int) (n : Nat) : Bool := (List.range (n - 1)).all fun i => decide (c i (i + 1) ≤ 0)
theorem rise_iff (c : Nat → Nat → Int) (n : Nat) : rise c n = true ↔ ∀ i, i + 1 < n → c i (i + 1) ≤ 0 := by
  unfold rise
  rw [List.all_eq_true]
  constructor
  · intro h i hi
    have := h i (by simp; omega)
    simpa using this
  · intro h i hi
    have : i < n - 1 := by simpa using hi
    simpa using h i (by omega)
theorem rise_all {c : Nat → Nat → Int} (h : Cp c) {n : Nat} (hr : rise c n = true) : ∀ d i, i + d < n → c i (i + d) ≤ 0 := by
  rw [rise_iff] at hr
  intro d
  induction d with
  | zero => intro i _; rw [Nat.add_zero, h.refl]; omega
  | succ d ih =>
    intro i hi
    exact (h.tri i (i + d) (i + (d + 1)) (ih i (by omega)) (hr (i + d) (by omega))).1
/-- What rises stays; what does not, does not. -/
theorem plc_stays {c : Nat → Nat → Int} (h : Cp c) (n : Nat) : plc c n = List.range n ↔ rise c n = true := by
  constructor
  · intro e
    rw [rise_iff]
    intro i hi
    have hb := plc_bf h n
    rw [e] at hb
    have := List.pairwise_iff_getElem.1 hb i (i + 1) (by simp; omega) (by simpa using hi) (by omega)
    rw [List.getElem_range, List.getElem_range] at this
    unfold Bf at this
    omega
  · intro hr
    refine plc_uniq h (List.Perm.refl _) (List.pairwise_iff_getElem.2 fun i j hi hj hij => ?_)
    rw [List.getElem_range, List.getElem_range]
    have := rise_all h hr (j - i) i (by simp at hj; omega)
    rw [show i + (j - i) = j by omega] at this
    unfold Bf
    omega
/-- How many stand ahead of one. -/
def cnt (c : Nat → Nat → Int) (n i : Nat) : Nat := (List.range n).countP fun k => decide (Bf c k i)
theorem cnt_at {c : Nat → Nat → Int} (h : Cp c) {n j i : Nat} (hj : (plc c n)[j]? = some i) : cnt c n i = j := by
  obtain ⟨hl, e⟩ := List.getElem?_eq_some_iff.1 hj
  have hb := plc_bf h n
  rw [cnt, ← (plc_perm c n).countP_eq]
  have hs : plc c n = (plc c n).take j ++ (i :: (plc c n).drop (j + 1)) := by
    rw [← e, List.getElem_cons_drop, List.take_append_drop]
  rw [hs] at hb ⊢
  rw [List.countP_append, List.countP_cons]
  obtain ⟨p1, p2, p3⟩ := List.pairwise_append.1 hb
  obtain ⟨p4, p5⟩ := List.pairwise_cons.1 p2
  have e1 : (List.countP (fun k => decide (Bf c k i)) ((plc c n).take j)) = j := by
    rw [List.countP_eq_length.2]
    · rw [List.length_take]; omega
    · intro a ha
      exact decide_eq_true (p3 a ha i (by simp))
  have e2 : (List.countP (fun k => decide (Bf c k i)) ((plc c n).drop (j + 1))) = 0 := by
    rw [List.countP_eq_zero]
    intro a ha
    have := (p4 a ha).asymm h
    simpa using this
  have e3 : ¬ Bf c i i := by have := h.refl i; unfold Bf; omega
  rw [e1, e2]
  simp [e3]
theorem cnt_lt {c : Nat → Nat → Int} (h : Cp c) {n i : Nat} (hi : i < n) : cnt c n i < n := by
  have hm : i ∈ plc c n := (plc_perm c n).mem_iff.2 (by simpa using hi)
  obtain ⟨j, hj⟩ := List.mem_iff_getElem?.1 hm
  rw [cnt_at h hj]
  have := (List.getElem?_eq_some_iff.1 hj).1
  rwa [plc_len] at this
/-- What has each place where as many stand ahead is what is sorted. -/
theorem plc_of_cnt {c : Nat → Nat → Int} (h : Cp c) {n : Nat} {l : List Nat} (hl : l.length = n) (hx : ∀ i, i < n → l[cnt c n i]? = some i) : l = plc c n := by
  refine List.ext_getElem? fun j => ?_
  by_cases hj : j < n
  · have h1 : j < (plc c n).length := by rw [plc_len]; exact hj
    have h2 : (plc c n)[j]? = some (plc c n)[j] := List.getElem?_eq_getElem h1
    have h3 := cnt_at h h2
    rw [h2, ← hx _ (plc_lt (List.getElem_mem h1)), h3]
  · rw [List.getElem?_eq_none (by omega), List.getElem?_eq_none (by rw [plc_len]; omega)]

/-! Groups. -/
/-- What is gathered: whole groups, and the one under way. -/
def stepG (c : Nat → Nat → Int) (s : List (List Nat) × List Nat) (at' : Nat) : List (List Nat) × List Nat :=
  match s.2 with
  | [] => (s.1, [at'])
  | h :: g => if c h at' = 0 then (s.1, h :: g ++ [at']) else (s.1 ++ [h :: g], [at'])
def allG (s : List (List Nat) × List Nat) : List (List Nat) := if s.2 = [] then s.1 else s.1 ++ [s.2]
def foldG (c : Nat → Nat → Int) (l : List Nat) : List (List Nat) × List Nat := l.foldl (stepG c) ([], [])
def grps (c : Nat → Nat → Int) (n : Nat) : List (List Nat) := allG (foldG c (plc c n))
theorem foldG_snoc (c : Nat → Nat → Int) (l : List Nat) (x : Nat) : foldG c (l ++ [x]) = stepG c (foldG c l) x := by simp [foldG]
theorem foldG_cur (c : Nat → Nat → Int) (l : List Nat) (h : l ≠ []) : (foldG c l).2 ≠ [] := by
  obtain ⟨l', x, rfl⟩ : ∃ l' x, l = l' ++ [x] := ⟨l.dropLast, l.getLast h, (List.dropLast_concat_getLast h).symm⟩
  rw [foldG_snoc, stepG]
  split
  · simp
  · split <;> simp
theorem foldG_flat (c : Nat → Nat → Int) (l : List Nat) : (foldG c l).1.flatten ++ (foldG c l).2 = l := by
  have key : ∀ (l : List Nat) (s : List (List Nat) × List Nat), (l.foldl (stepG c) s).1.flatten ++ (l.foldl (stepG c) s).2 = s.1.flatten ++ s.2 ++ l := by
    intro l
    induction l with
    | nil => intro s; simp
    | cons x l ih =>
      intro s
      rw [List.foldl_cons, ih, stepG]
      split
      · rename_i h; simp [h]
      · rename_i a g h
        split <;> simp [h]
  have := key l ([], [])
  rw [foldG, this]
  simp
theorem allG_flat (s : List (List Nat) × List Nat) : (allG s).flatten = s.1.flatten ++ s.2 := by
  unfold allG
  split
  · rename_i h; rw [h]; simp
  · simp
theorem grps_flat (c : Nat → Nat → Int) (n : Nat) : (grps c n).flatten = plc c n := by rw [grps, allG_flat, foldG_flat]
/-- What is known of groups: none is empty, all of one are the same. -/
structure Gd (c : Nat → Nat → Int) (g : List Nat) : Prop where
  ne : g ≠ []
  sm : ∀ h ∈ g.head?, ∀ x ∈ g, c h x = 0
theorem foldG_good {c : Nat → Nat → Int} (hc : Cp c) (l : List Nat) : (∀ g ∈ (foldG c l).1, Gd c g) ∧ ((foldG c l).2 = [] ∨ Gd c (foldG c l).2) := by
  have key : ∀ (l : List Nat) (s : List (List Nat) × List Nat), ((∀ g ∈ s.1, Gd c g) ∧ (s.2 = [] ∨ Gd c s.2)) → ((∀ g ∈ (l.foldl (stepG c) s).1, Gd c g) ∧ ((l.foldl (stepG c) s).2 = [] ∨ Gd c (l.foldl (stepG c) s).2)) := by
    intro l
    induction l with
    | nil => intro s h; exact h
    | cons x l ih =>
      intro s ⟨h1, h2⟩
      rw [List.foldl_cons]
      refine ih _ ?_
      have one : Gd c [x] := ⟨by simp, by intro h hh y hy; simp at hh hy; subst hh hy; exact hc.refl _⟩
      rw [stepG]
      split
      · exact ⟨h1, Or.inr one⟩
      · rename_i a g e
        rw [e] at h2
        have h2' := h2.resolve_left (by simp)
        split
        · rename_i h0
          refine ⟨h1, Or.inr ⟨by simp, ?_⟩⟩
          intro h hh y hy
          simp at hh
          subst hh
          rcases List.mem_append.1 hy with hy | hy
          · exact h2'.sm a (by simp) y hy
          · simp at hy; subst hy; exact h0
        · refine ⟨?_, Or.inr one⟩
          intro g' hg'
          rcases List.mem_append.1 hg' with hg' | hg'
          · exact h1 g' hg'
          · simp at hg'; subst hg'; exact h2'
  exact key l ([], []) ⟨by simp, Or.inl rfl⟩
theorem grps_good {c : Nat → Nat → Int} (hc : Cp c) (n : Nat) : ∀ g ∈ grps c n, Gd c g := by
  obtain ⟨h1, h2⟩ := foldG_good hc (plc c n)
  intro g hg
  rw [grps, allG] at hg
  split at hg
  · exact h1 g hg
  · rename_i h0
    rcases List.mem_append.1 hg with hg | hg
    · exact h1 g hg
    · simp at hg; subst hg; exact h2.resolve_left h0
/-- Heads of neighbours are not the same. -/
def apart (c : Nat → Nat → Int) (gs : List (List Nat)) : Prop := ∀ i a b, gs[i]? = some a → gs[i + 1]? = some b → ∀ x ∈ a.head?, ∀ y ∈ b.head?, c x y ≠ 0
theorem apart_snoc {c : Nat → Nat → Int} {gs : List (List Nat)} {a b : List Nat} (h : apart c (gs ++ [a])) (hab : ∀ x ∈ a.head?, ∀ y ∈ b.head?, c x y ≠ 0) : apart c (gs ++ [a] ++ [b]) := by
  intro i p q hp hq
  by_cases hi : i + 1 < (gs ++ [a]).length
  · rw [List.getElem?_append_left (by omega)] at hp
    rw [List.getElem?_append_left hi] at hq
    exact h i p q hp hq
  · have hl : i + 1 < (gs ++ [a] ++ [b]).length := (List.getElem?_eq_some_iff.1 hq).1
    have hi' : i = gs.length := by simp at hi hl; omega
    subst hi'
    simp at hp hq
    subst hp hq
    exact hab
theorem apart_head {c : Nat → Nat → Int} {gs : List (List Nat)} {a b : List Nat} (h : apart c (gs ++ [a])) (hab : a.head? = b.head?) : apart c (gs ++ [b]) := by
  intro i p q hp hq
  have hl : i + 1 < (gs ++ [b]).length := (List.getElem?_eq_some_iff.1 hq).1
  have hp' : (gs ++ [a])[i]? = some p := by
    rw [List.getElem?_append_left (by simp at hl; omega)] at hp ⊢; exact hp
  by_cases hi : i + 1 < gs.length
  · have hq' : (gs ++ [a])[i + 1]? = some q := by rw [List.getElem?_append_left hi] at hq ⊢; exact hq
    exact h i p q hp' hq'
  · have hi' : i + 1 = gs.length := by simp at hl; omega
    rw [hi'] at hq
    simp at hq
    subst hq
    have := h i p a hp' (by rw [hi']; simp)
    rwa [hab] at this
theorem foldG_apart {c : Nat → Nat → Int} (l : List Nat) : apart c (allG (foldG c l)) := by
  have key : ∀ (l : List Nat) (s : List (List Nat) × List Nat), (s.1 ≠ [] → s.2 ≠ []) → apart c (allG s) → apart c (allG (l.foldl (stepG c) s)) := by
    intro l
    induction l with
    | nil => intro s _ h; exact h
    | cons x l ih =>
      intro s hs h
      rw [List.foldl_cons]
      obtain ⟨s1, s2⟩ := s
      cases s2 with
      | nil =>
        have hs1 : s1 = [] := Classical.byContradiction fun h0 => hs h0 rfl
        subst hs1
        refine ih _ (by simp [stepG]) ?_
        intro i a b ha hb
        simp [stepG, allG] at hb
      | cons a g =>
        have h' : apart c (s1 ++ [a :: g]) := by simpa [allG] using h
        by_cases h0 : c a x = 0
        · refine ih _ (by simp [stepG, h0]) ?_
          have : allG (stepG c (s1, a :: g) x) = s1 ++ [a :: g ++ [x]] := by simp [stepG, allG, h0]
          rw [this]
          exact apart_head h' (by simp)
        · refine ih _ (by simp [stepG, h0]) ?_
          have : allG (stepG c (s1, a :: g) x) = s1 ++ [a :: g] ++ [[x]] := by simp [stepG, allG, h0]
          rw [this]
          refine apart_snoc h' ?_
          intro p hp q hq
          simp at hp hq
          subst hp hq
          exact h0
  refine key l ([], []) (by simp) ?_
  intro i a b ha hb
  simp [allG] at hb
/-- Each group's head is above the one's ahead. -/
theorem grps_rise {c : Nat → Nat → Int} (hc : Cp c) (n : Nat) {i : Nat} {a b : List Nat} (ha : (grps c n)[i]? = some a) (hb : (grps c n)[i + 1]? = some b) {x y : Nat} (hx : a.head? = some x) (hy : b.head? = some y) : c x y < 0 := by
  have h1 := foldG_apart (c := c) (plc c n) i a b ha hb x hx y hy
  have h2 := plc_bf hc n
  rw [← grps_flat, List.pairwise_flatten] at h2
  have h3 := List.pairwise_iff_getElem.1 h2.2 i (i + 1) (List.getElem?_eq_some_iff.1 ha).1 (List.getElem?_eq_some_iff.1 hb).1 (by omega)
  rw [(List.getElem?_eq_some_iff.1 ha).2, (List.getElem?_eq_some_iff.1 hb).2] at h3
  have h4 := h3 x (List.mem_of_mem_head? hx) y (List.mem_of_mem_head? hy)
  unfold Bf at h4
  omega
theorem grps_lt {c : Nat → Nat → Int} {n : Nat} {g : List Nat} (hg : g ∈ grps c n) {x : Nat} (hx : x ∈ g) : x < n := by
  have : x ∈ (grps c n).flatten := List.mem_flatten.2 ⟨g, hg, hx⟩
  rw [grps_flat] at this
  exact plc_lt this
end Ov
end Go.Proofs.Ytbffeffplabaeaa

/-
  Words for rows of whole numbers: made by make, numbered one by one. Of no function.
-/
namespace Go.Proofs.Ytbffeffplabaeaa
open Go.RowKit Np

theorem int_info : (Try.prog.info? 3).map (fun i => (i.zero, i.size, i.bytes)) = some (some (.int .i64 0), 1, 8) := by kernel_rfl
theorem elInt : Elem Try.prog 31 3 inc 1 8 := by
  obtain ⟨i, hi, hz0, hz1, hz2⟩ := info_parts int_info
  refine ⟨Try.underlying31, ⟨i, _, hi, hz0, hz1, hz2, rfl⟩, by decide, inc_len, fun n u hu => ?_⟩
  simp only [inc, List.mem_cons, List.not_mem_nil, or_false] at hu
  subst hu; rfl
theorem make_ints (n : Nat) (hn : n ≤ 1000000) (w : World) : (Instr.makeSlice 31 (.int .i64 (n : Int)) (.int .i64 (n : Int))).run Try.prog w = .ok (.slice (some ⟨w.heap.size, 0, none⟩) n n) (w.alloc (.cells (madeCells #[.int .i64 0] n) 3)) := by
  obtain ⟨i, hi, hz0, hz1, hz2⟩ := info_parts int_info
  have := run_make (P := Try.prog) w 31 3 i _ Try.underlying31 hi hz0 .i64 .i64 n n (by omega) (by omega) (by rw [hz2]; omega) (by omega)
  rw [hz1, Int.toNat_natCast, Nat.mul_one] at this
  exact this

/-- How far the places are numbered. -/
def nums (n k : Nat) : List Int := (List.range n).map fun i => if i < k then (i : Int) else 0
theorem nums_len (n k : Nat) : (nums n k).length = n := by simp [nums]
theorem nums_zero (n : Nat) : nums n 0 = List.replicate n 0 := by
  apply List.ext_getElem <;> simp [nums]
theorem nums_at {n k : Nat} (h : k < n) : (nums n k)[k]? = some 0 := by simp [nums, h]
theorem nums_set {n k : Nat} : (nums n k).set k (k : Int) = nums n (k + 1) := by
  apply List.ext_getElem
  · simp [nums]
  · intro i h1 h2
    simp only [nums, List.getElem_set, List.getElem_map, List.getElem_range]
    by_cases e : k = i
    · subst e; simp
    · rw [if_neg e]
      congr 1
      rw [eq_iff_iff]; omega
theorem nums_all (n : Nat) : nums n n = (List.range n).map Int.ofNat := by
  apply List.ext_getElem
  · simp [nums]
  · intro i h1 h2
    simp [nums] at h1 ⊢
    exact fun h => absurd h (by omega)

end Go.Proofs.Ytbffeffplabaeaa

/-
  What the library's Compare of two strings answers, and what val.byName compares by.
-/
namespace Go.Proofs.Ytbffeffplabaeaa
open Go.RowKit Np

set_option maxHeartbeats 400000 in
theorem isNaNS_any (s : ByteArray) (w : World) :
    Calls Try.prog 61 #[.string s] w fun e w' => e = .returned (.bool false) ∧ w = w' := by
  go_enter Try.func61, Try.ntmps61
  go_wp2
  go_ret
  exact ⟨ret_bool (by simp), rfl⟩

set_option maxHeartbeats 400000 in
theorem cmpS_any (s t : ByteArray) (w : World) :
    Calls Try.prog 47 #[.string s, .string t] w fun e w' => e = .returned (.int .i64 (cmpB s.data.toList t.data.toList)) ∧ w = w' := by
  go_enter Try.func47, Try.ntmps47
  go_wp2_with (go_at_call 61; refine (isNaNS_any _ _).mono ?_; rintro e w' ⟨rfl, rfl⟩)
  · have h : Op.bytesLess s.toList t.toList = true := by assumption
    rw [ByteArray.toList_eq, ByteArray.toList_eq] at h
    go_ret
    exact ⟨ret_i64 (by rw [cmpB, if_pos h]), rfl⟩
  · have h : Op.bytesLess s.toList t.toList = false := by assumption
    have h2 : (!s.toList == t.toList) = true := by assumption
    rw [ByteArray.toList_eq, ByteArray.toList_eq] at h h2
    go_ret
    exact ⟨ret_i64 (by rw [cmpB, if_neg (by rw [h]; decide), if_neg (by simpa using h2)]), rfl⟩
  · have h : Op.bytesLess s.toList t.toList = false := by assumption
    have h2 : (!s.toList == t.toList) = false := by assumption
    rw [ByteArray.toList_eq, ByteArray.toList_eq] at h h2
    go_ret
    exact ⟨ret_i64 (by rw [cmpB, if_neg (by rw [h]; decide), if_pos (by simpa using h2)]), rfl⟩

end Go.Proofs.Ytbffeffplabaeaa

/-
  What val.byName answers: the places of some names, so that the names rise.
-/
namespace Go.Proofs.Ytbffeffplabaeaa




end Go.Proofs.Ytbffeffplabaeaa
