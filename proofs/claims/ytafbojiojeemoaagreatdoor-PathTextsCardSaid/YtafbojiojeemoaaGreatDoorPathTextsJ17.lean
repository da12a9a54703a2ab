/-
  Joined: PutP, ValW8, ValW13, AliveP, ValFields, PaAl, PaAl2, PaLw.
-/
import Derived.Test.YtafbojiojeemoaaGreatDoorPathTextsJ2
import Derived.Test.YtafbojiojeemoaaGreatDoorPathTextsJ8
import Derived.Test.YtafbojiojeemoaaGreatDoorPathTextsJ11
import Derived.Test.YtafbojiojeemoaaGreatDoorPathTextsJ15
import Derived.StillTailTactics
import Derived.Test.YtafbojiojeemoaaGreatDoorPathTextsJ9
import Derived.Test.YtafbojiojeemoaaGreatDoorPathTextsJ14
import Derived.Test.YtafbojiojeemoaaGreatDoorPathTextsJ16
import Derived.Test.YtafbojiojeemoaaGreatDoorRefW6
import Derived.Test.YtafbojiojeemoaaGreatDoorPathTextsJ12
import Derived.Test.YtafbojiojeemoaaGreatDoorPathTextsJ6
import Derived.Test.YtafbojiojeemoaaGreatDoorPathTextsJ10
import Derived.Test.YtafbojiojeemoaaGreatDoorPathTextsJ13

/-
  Plain words: an object with a part of a name, and without it. No program stands here.
-/
namespace Go.Proofs.YtafbojiojeemoaaGreatDoor
namespace Vp
open Go.RowKit Np Rw

def loT (nm : List UInt8) (ts : List (Tr Nd)) : List (Tr Nd) := ts.filter (fun u => decide (u.nd.name < nm))
def hiT (nm : List UInt8) (ts : List (Tr Nd)) : List (Tr Nd) := ts.filter (fun u => decide (nm < u.nd.name))
def eqT (nm : List UInt8) (ts : List (Tr Nd)) : List (Tr Nd) := ts.filter (fun u => decide (u.nd.name = nm))
def withT (nm : List UInt8) (x t : Tr Nd) : Tr Nd := objT (loT nm t.ks ++ ([nmd nm x] ++ hiT nm t.ks))
def lessT (nm : List UInt8) (t : Tr Nd) : Tr Nd := objT (loT nm t.ks ++ ([] ++ hiT nm t.ks))
theorem cut_of {nm : List UInt8} {ts : List (Tr Nd)} (h : Rise ts) : Cut nm ts (loT nm ts) (eqT nm ts) (hiT nm ts) := by
  obtain ⟨pre, mid, post, hc⟩ := cut_ex nm ts h
  have key : pre = loT nm ts ∧ mid = eqT nm ts ∧ post = hiT nm ts := by
    have e1 : ∀ (p : Tr Nd → Bool) (l : List (Tr Nd)), (∀ u ∈ l, p u = true) → l.filter p = l := fun p l h => List.filter_eq_self.2 h
    have e2 : ∀ (p : Tr Nd → Bool) (l : List (Tr Nd)), (∀ u ∈ l, p u = false) → l.filter p = [] := fun p l h => List.filter_eq_nil_iff.2 (fun u hu => by simp [h u hu])
    have hlt : ∀ {a b : List UInt8}, a < b → ¬ b < a := fun h1 h2 => List.lt_irrefl _ (List.lt_trans h1 h2)
    have hne : ∀ {a b : List UInt8}, a < b → ¬ a = b := fun h1 h2 => List.lt_irrefl _ (h2 ▸ h1)
    unfold loT eqT hiT
    rw [hc.all]
    simp only [List.filter_append]
    refine ⟨?_, ?_, ?_⟩
    · rw [e1 _ pre (fun u hu => by simpa using hc.lo u hu), e2 _ mid (fun u hu => by simp [hc.eq u hu, List.lt_irrefl]), e2 _ post (fun u hu => by simpa using hlt (hc.hi u hu))]; simp
    · rw [e2 _ pre (fun u hu => by simpa using hne (hc.lo u hu)), e1 _ mid (fun u hu => by simpa using hc.eq u hu), e2 _ post (fun u hu => by simpa using fun e => hne (hc.hi u hu) e.symm)]; simp
    · rw [e2 _ pre (fun u hu => by simpa using hlt (hc.lo u hu)), e2 _ mid (fun u hu => by simp [hc.eq u hu, List.lt_irrefl]), e1 _ post (fun u hu => by simpa using hc.hi u hu)]; simp
  obtain ⟨rfl, rfl, rfl⟩ := key
  exact hc
/-- With other parts of that name: lower, higher ones stay. -/
theorem Cut.mk' {nm : List UInt8} {pre mid post : List (Tr Nd)} (lo : ∀ u ∈ pre, u.nd.name < nm) (eq : ∀ u ∈ mid, u.nd.name = nm) (one : mid.length ≤ 1) (hi : ∀ u ∈ post, nm < u.nd.name) : Cut nm (pre ++ (mid ++ post)) pre mid post := ⟨rfl, lo, eq, one, hi⟩
theorem Val.cut {t : Tr Nd} (h : Val t) (hk : t.nd.kind = 6) (nm : List UInt8) : Cut nm t.ks (loT nm t.ks) (eqT nm t.ks) (hiT nm t.ks) := cut_of (h.named hk).1
theorem val_put {t x : Tr Nd} {nm : List UInt8} (h : Val t) (hk : t.nd.kind = 6) (hx : Val x) (hn : vld nm = true) : Val (withT nm x t) := by
  have hc := h.cut hk nm
  have hr := (h.named hk).1
  refine val_objT (fun u hu => ?_) ⟨rise_put (hc.pre_rise hr) (hc.post_rise hr) hc.lo hc.hi (by intro u hu; simp at hu; rw [hu]; rfl) (by simp), fun u hu => ?_⟩
  · rcases List.mem_append.1 hu with hu | hu
    · exact h.parts u (List.mem_filter.1 hu).1
    · rcases List.mem_append.1 hu with hu | hu
      · simp at hu; subst hu; exact ⟨okT_nmd hx.ok, by rw [rightT_nmd]; exact hx.rt⟩
      · exact h.parts u (List.mem_filter.1 hu).1
  · rcases List.mem_append.1 hu with hu | hu
    · exact (h.named hk).2 u (List.mem_filter.1 hu).1
    · rcases List.mem_append.1 hu with hu | hu
      · simp at hu; subst hu; exact hn
      · exact (h.named hk).2 u (List.mem_filter.1 hu).1
theorem val_less {t : Tr Nd} {nm : List UInt8} (h : Val t) (hk : t.nd.kind = 6) : Val (lessT nm t) := by
  have hc := h.cut hk nm
  have hr := (h.named hk).1
  refine val_objT (fun u hu => ?_) ⟨rise_put (hc.pre_rise hr) (hc.post_rise hr) hc.lo hc.hi (by simp) (by simp), fun u hu => ?_⟩
  · rcases List.mem_append.1 hu with hu | hu
    · exact h.parts u (List.mem_filter.1 hu).1
    · simp at hu; exact h.parts u (List.mem_filter.1 hu).1
  · rcases List.mem_append.1 hu with hu | hu
    · exact (h.named hk).2 u (List.mem_filter.1 hu).1
    · simp at hu; exact (h.named hk).2 u (List.mem_filter.1 hu).1
theorem with_cut {t x : Tr Nd} {nm : List UInt8} (h : Val t) (hk : t.nd.kind = 6) : Cut nm (withT nm x t).ks (loT nm t.ks) [nmd nm x] (hiT nm t.ks) :=
  Cut.mk' (h.cut hk nm).lo (by intro u hu; simp at hu; rw [hu]; rfl) (by simp) (h.cut hk nm).hi
theorem less_cut {t : Tr Nd} {nm : List UInt8} (h : Val t) (hk : t.nd.kind = 6) : Cut nm (lessT nm t).ks (loT nm t.ks) [] (hiT nm t.ks) :=
  Cut.mk' (h.cut hk nm).lo (by simp) (by simp) (h.cut hk nm).hi
/-- What is put into one that had another. -/
theorem cut_parts {nm : List UInt8} {ts pre mid post : List (Tr Nd)} (hr : Rise ts) (h : Cut nm ts pre mid post) : loT nm ts = pre ∧ eqT nm ts = mid ∧ hiT nm ts = post := by
  obtain ⟨a, b, c⟩ := (cut_of hr).uniq h
  exact ⟨a, b, c⟩
theorem less_with {t x : Tr Nd} {nm : List UInt8} (h : Val t) (hk : t.nd.kind = 6) (hx : Val x) (hn : vld nm = true) : lessT nm (withT nm x t) = lessT nm t := by
  obtain ⟨a, -, c⟩ := cut_parts ((val_put h hk hx hn).named rfl).1 (with_cut (x := x) (nm := nm) h hk)
  rw [lessT, a, c, lessT]
theorem with_with {t x y : Tr Nd} {nm : List UInt8} (h : Val t) (hk : t.nd.kind = 6) (hx : Val x) (hn : vld nm = true) : withT nm y (withT nm x t) = withT nm y t := by
  obtain ⟨a, -, c⟩ := cut_parts ((val_put h hk hx hn).named rfl).1 (with_cut (x := x) (nm := nm) h hk)
  rw [withT, a, c, withT]
theorem with_less {t y : Tr Nd} {nm : List UInt8} (h : Val t) (hk : t.nd.kind = 6) : withT nm y (lessT nm t) = withT nm y t := by
  obtain ⟨a, -, c⟩ := cut_parts ((val_less (nm := nm) h hk).named rfl).1 (less_cut (nm := nm) h hk)
  rw [withT, a, c, withT]
/-- Put as it was. -/
theorem with_own {t : Tr Nd} {nm : List UInt8} {u : Tr Nd} (h : Val t) (hk : t.nd.kind = 6) (hu : eqT nm t.ks = [u]) : withT nm (nmd [] u) t = t := by
  have hc := h.cut hk nm
  rw [hu] at hc
  have hn : u.nd.name = nm := hc.eq u (by simp)
  rw [withT, nmd_nmd, ← hn, nmd_self]
  rw [hn, ← hc.all]
  exact (h.obj hk).symm
theorem less_own {t : Tr Nd} {nm : List UInt8} (h : Val t) (hk : t.nd.kind = 6) (hu : eqT nm t.ks = []) : lessT nm t = t := by
  have hc := h.cut hk nm
  rw [hu] at hc
  rw [lessT, ← hc.all]
  exact (h.obj hk).symm
theorem eqT_with {t x : Tr Nd} {nm : List UInt8} (h : Val t) (hk : t.nd.kind = 6) (hx : Val x) (hn : vld nm = true) : eqT nm (withT nm x t).ks = [nmd nm x] :=
  (cut_parts ((val_put h hk hx hn).named rfl).1 (with_cut (x := x) (nm := nm) h hk)).2.1
theorem eqT_less {t : Tr Nd} {nm : List UInt8} (h : Val t) (hk : t.nd.kind = 6) : eqT nm (lessT nm t).ks = [] :=
  (cut_parts ((val_less (nm := nm) h hk).named rfl).1 (less_cut (nm := nm) h hk)).2.1
theorem eqT_other {t x : Tr Nd} {nm mm : List UInt8} (h : Val t) (hk : t.nd.kind = 6) (hne : mm ≠ nm) : eqT mm (withT nm x t).ks = eqT mm t.ks := by
  have hc := h.cut hk nm
  have e1 : eqT mm (eqT nm t.ks) = [] := List.filter_eq_nil_iff.2 (fun u hu => by
    have := hc.eq u hu
    simp only [this, decide_eq_true_eq]; exact fun (e : nm = mm) => hne e.symm)
  have e2 : eqT mm [nmd nm x] = [] := List.filter_eq_nil_iff.2 (fun u hu => by
    simp at hu; subst hu
    rw [nmd_name]; simpa using fun (e : nm = mm) => hne e.symm)
  have e3 : ∀ a b : List (Tr Nd), eqT mm (a ++ b) = eqT mm a ++ eqT mm b := fun a b => List.filter_append ..
  conv => rhs; rw [hc.all]
  show eqT mm (loT nm t.ks ++ ([nmd nm x] ++ hiT nm t.ks)) = _
  rw [e3, e3, e3, e3, e1, e2]
theorem eq_cases {t : Tr Nd} (h : Val t) (hk : t.nd.kind = 6) (nm : List UInt8) : eqT nm t.ks = [] ∨ ∃ u, eqT nm t.ks = [u] ∧ u ∈ t.ks := by
  have hc := h.cut hk nm
  cases he : eqT nm t.ks with
  | nil => exact .inl rfl
  | cons u l =>
    rw [he] at hc
    have : l = [] := List.eq_nil_of_length_eq_zero (by have := hc.one; simp at this; simp [this])
    subst this
    exact .inr ⟨u, rfl, by rw [hc.all]; simp⟩
theorem len_parts {t : Tr Nd} (h : Val t) (hk : t.nd.kind = 6) (nm : List UInt8) : (flat t).length = 1 + (flats (loT nm t.ks)).length + (flats (eqT nm t.ks)).length + (flats (hiT nm t.ks)).length := by
  have hc := h.cut hk nm
  rw [flat_eq]
  conv => lhs; rw [hc.all]
  rw [flats_append, flats_append]; simp; omega
theorem len_with (nm : List UInt8) (x t : Tr Nd) : (flat (withT nm x t)).length = 1 + (flats (loT nm t.ks)).length + (flat x).length + (flats (hiT nm t.ks)).length := by
  rw [withT, flat_objT, flats_append, flats_append]; simp [flat_nmd_len]; omega
theorem len_less (nm : List UInt8) (t : Tr Nd) : (flat (lessT nm t)).length = 1 + (flats (loT nm t.ks)).length + (flats (hiT nm t.ks)).length := by
  rw [lessT, flat_objT, flats_append, flats_append]; simp; omega
end Vp
end Go.Proofs.YtafbojiojeemoaaGreatDoor

/-
  What val.Names answers.
-/
namespace Go.Proofs.YtafbojiojeemoaaGreatDoor
open Go.RowKit Go.Shelf Np Rw Vp
attribute [local go_sem] Oper.semAt_some

/-- Between two rounds of Names. -/
def NI {L : List Nd} (w : World) (pre : List (Pt L)) (W : World) : Prop :=
  (∃ v, Boxed W w.heap.size 40 v ∧ Own stc 1 9 w.heap.size W v (pre.map fun x => x.1.2.nd.name)) ∧ Below w.heap.size w W
theorem NI.own {L : List Nd} (w : World) (B : Nat) (hB : w.heap.size ≤ B) : OwnFrom B (NI (L := L) w) := by
  intro s W W' row hs hg hr
  obtain ⟨⟨v, h1, h2⟩, h4⟩ := hs
  have hr' : ∀ r, row = some r → ∃ o : Obj, W.heap[r]? = some o ∧ o.isCells = false := fun r e => (hr r e).2
  exact ⟨⟨v, boxed_turned h1 hg hr', h2.turned hg hr'⟩, ownFrom_below (β := Unit) (Nat.le_refl _) hB () W W' row h4 hg hr⟩
theorem NI.step {L : List Nd} {w W W3 : World} {pre : List (Pt L)} {x : Pt L} {v0 : Value} {v3 : Value} (hb0 : Boxed W w.heap.size 40 v0) (hown : Own stc 1 9 w.heap.size W v0 (pre.map fun x => x.1.2.nd.name))
    (hB : Below w.heap.size w W) (h3 : Own stc 1 9 w.heap.size W3 v3 ((pre.map fun x => x.1.2.nd.name) ++ [x.1.2.nd.name])) (hg : (W.drew.alloc (.cells #[.string ⟨x.1.2.nd.name.toArray⟩] 9)).grownBy W3 v0.ownBlock) :
    Boxed W3 w.heap.size 40 v0 ∧ KeepsOthers W (W3.setCell ⟨w.heap.size, 0, none⟩ v3) ∧ Below w.heap.size W (W3.setCell ⟨w.heap.size, 0, none⟩ v3) ∧ NI w (pre ++ [x]) (W3.setCell ⟨w.heap.size, 0, none⟩ v3) := by
  have hbx := hb0.lt
  have hBs := hB.size
  have h2 : Below W.heap.size W (W.drew.alloc (.cells #[.string ⟨x.1.2.nd.name.toArray⟩] 9)) := ((Below.refl _ W).drew).alloc (Nat.le_refl _) _
  have hz2 := h2.size
  have hb2 : Boxed (W.drew.alloc (.cells #[.string ⟨x.1.2.nd.name.toArray⟩] 9)) w.heap.size 40 v0 := (h2.block _ hbx).trans hb0
  have ho2 : Own stc 1 9 w.heap.size (W.drew.alloc (.cells #[.string ⟨x.1.2.nd.name.toArray⟩] 9)) v0 (pre.map fun x => x.1.2.nd.name) := hown.below h2
  have hne : some w.heap.size ≠ v0.ownBlock := hb2.not_row (by decide) ho2
  have hb3 : Boxed W3 w.heap.size 40 v0 := hb2.kept hg hne
  have hne3 : v3.ownBlock ≠ some w.heap.size := fun e => (hb3.not_row (by decide) h3) e.symm
  have hlow : Below w.heap.size W W3 := (h2.mono hBs).trans (ho2.kept hg (by omega))
  have hset := hlow.setCell (p := ⟨w.heap.size, 0, none⟩) (Nat.le_refl _) v3
  refine ⟨hb3, ?_, hset, ⟨v3, hb3.set v3, ?_⟩, hB.trans hset⟩
  · refine ((keeps_below h2).trans (KeepsOthers.of_grownBy hg (fun j o e ho => ?_))).trans (KeepsOthers.setCell _ _ _)
    obtain ⟨g, cap, cur, hv, _, hh, _⟩ := (ho2.2).resolve_left (fun h => by rw [h.1] at e; cases e)
    rw [hv] at e
    cases e
    rw [hh] at ho
    cases ho
    rfl
  · rw [List.map_append, List.map_singleton]
    exact ownsRow_setCell_other h3 hne3 v3

end Go.Proofs.YtafbojiojeemoaaGreatDoor

/-
  What val's With and Without answer, of an object.
-/
namespace Go.Proofs.YtafbojiojeemoaaGreatDoor
open Go.RowKit Np Rw Vp

/-- A row of the call's own that begins with an object's node: how many parts it has can be written. -/
theorem head_end {gs : Nat} {w : World} {A : Option Addr} {N c K : Nat} {rest : List Nd} (h : OwnN gs w (.slice A N c) (hdN 6 K :: rest)) :
    ∃ g', A = some ⟨g', 0, none⟩ ∧ N = rest.length + 1 ∧ N ≤ c ∧ w.cell? ⟨g', 1, none⟩ = some (.int .i64 K) ∧ w.frozen? ⟨g', 1, none⟩ = false ∧ gs ≤ g' ∧
      ∀ K' : Nat, OwnN gs (w.setCell ⟨g', 1, none⟩ (.int .i64 (K' : Int))) (.slice (some ⟨g', 0, none⟩) N c) (hdN 6 K' :: rest) := by
  obtain ⟨hN, hc, -⟩ := h.cap
  obtain ⟨g', cap, hv, hb, -⟩ := h.opened (by simp)
  injection hv with e1 e2 e3
  subst e1 e3
  have h' : OwnN gs w (.slice (some ⟨g', 0, none⟩) (hdN 6 K :: rest).length c) (hdN 6 K :: rest) := by rw [← hN]; exact h
  have h1 : w.cell? ⟨g', 0 * 6 + 1, none⟩ = some (.int .i64 (K : Int)) := Own.cell ndc_len (k := 0) (j := 1) h' rfl rfl
  refine ⟨g', rfl, by rw [hN]; rfl, hc, by simpa using h1, h'.free 1, hb, fun K' => ?_⟩
  have h2 := Own.put ndc_len (k := 0) (j := 1) (y := hdN 6 K') (u := .int .i64 (K' : Int)) h' rfl (by decide) rfl
  rw [hN]
  simpa using h2

end Go.Proofs.YtafbojiojeemoaaGreatDoor

/-
  Plain words: the values of the live question. No program stands here.
-/
namespace Go.Proofs.YtafbojiojeemoaaGreatDoor
open Go.RowKit Np Rw Vp

abbrev trueN : Nd := ⟨2, 0, [], [], false, 0⟩
def oneT : Tr Nd := .mk trueN []
def twoT : Tr Nd := arrT [oneT, oneT]
def obT : Tr Nd := objT [nmd [97] oneT, nmd [98] twoT]
theorem one_val : Val oneT := ⟨okT_mk.2 ⟨rfl, by simp⟩, by rw [oneT, rightT_mk]; rfl, rfl⟩
theorem two_val : Val twoT := val_arrT (by intro t ht; simp at ht; rw [ht]; exact one_val)
theorem vld_a : vld [97] = true := by decide
theorem vld_b : vld [98] = true := by decide
theorem ob_val : Val obT := val_objT (by
    intro t ht
    simp at ht
    rcases ht with rfl | rfl
    · exact ⟨okT_nmd one_val.ok, by rw [rightT_nmd]; exact one_val.rt⟩
    · exact ⟨okT_nmd two_val.ok, by rw [rightT_nmd]; exact two_val.rt⟩) ⟨by simp [Rise, nmd_name]; decide, by
    intro t ht
    simp at ht
    rcases ht with rfl | rfl
    · exact vld_a
    · exact vld_b⟩
def oneL : List Nd := [trueN]
def twoL : List Nd := [hdN 5 2, trueN, trueN]
def obL : List Nd := [hdN 6 2, nmN [97] trueN, nmN [98] (hdN 5 2), trueN, trueN]
theorem flat_one : flat oneT = oneL := by simp [oneT, oneL, flat]
theorem flat_two : flat twoT = twoL := by rw [twoT, flat_arrT]; simp [oneT, twoL, flat]
theorem flat_ob : flat obT = obL := by rw [obT, flat_objT]; simp [nmd, oneT, twoT, arrT, obL, flat]
end Go.Proofs.YtafbojiojeemoaaGreatDoor

/-
  What the document's own answers Field, Without and With are, and the walk of the statement ValFields: it returns true. (One text, as a claim holds 60 files at most.)
-/
namespace Go.Proofs.YtafbojiojeemoaaGreatDoor
open Go.RowKit Np Rw Vp

theorem field_none {t : Tr Nd} {nm : List UInt8} (h : ∀ j s, j < (namesT t).length → (namesT t)[j]? = some s → s ≠ nm) : midT nm t = [] := by
  rw [midT]
  by_cases hk : t.nd.kind = 6
  · rw [if_pos hk]
    refine List.filter_eq_nil_iff.2 fun u hu => ?_
    obtain ⟨j, hj, rfl⟩ := List.getElem_of_mem hu
    have h1 := h j (t.ks[j].nd.name) (by rw [namesT, if_pos hk, List.length_map]; exact hj) (by rw [namesT, if_pos hk, List.getElem?_map, List.getElem?_eq_getElem hj]; rfl)
    simpa using h1
  · rw [if_neg hk]
theorem field_hit {t : Tr Nd} {nm : List UInt8} {k : Nat} (h : ∀ j s, j < k → (namesT t)[j]? = some s → s ≠ nm) (hk : (namesT t)[k]? = some nm) : ∃ u, t.ks[k]? = some u ∧ fieldV nm t = flat (nmd [] u) ∧ fieldB nm t = true := by
  by_cases h6 : t.nd.kind = 6
  · rw [namesT, if_pos h6] at h hk
    rw [List.getElem?_map] at hk
    cases hu : t.ks[k]? with
    | none => rw [hu] at hk; cases hk
    | some u =>
      rw [hu] at hk
      injection hk with hk
      have hs := flat_split_at hu
      have hf : (t.ks.take k).filter (fun u => decide (u.nd.name = nm)) = [] := by
        refine List.filter_eq_nil_iff.2 fun x hx => ?_
        obtain ⟨j, hj, rfl⟩ := List.getElem_of_mem hx
        rw [List.length_take] at hj
        have h1 := h j (t.ks[j]'(by omega)).nd.name (by omega) (by rw [List.getElem?_map, List.getElem?_eq_getElem (by omega)]; rfl)
        simpa using h1
      have hm : midT nm t = u :: (t.ks.drop (k + 1)).filter (fun u => decide (u.nd.name = nm)) := by
        rw [midT, if_pos h6]
        conv => lhs; rw [hs]
        rw [List.filter_append, hf, List.nil_append, List.filter_cons_of_pos (by simpa using hk)]
      exact ⟨u, rfl, by rw [fieldV, hm], by rw [fieldB, hm]; rfl⟩
  · rw [namesT, if_neg h6] at hk
    cases hk


/-- The places of the other names. -/
def kept (names : List (List UInt8)) (nm : List UInt8) (k : Nat) : List Nat := (List.range k).filter (fun j => decide (atN names j ≠ nm))
theorem kept_same {names : List (List UInt8)} {nm : List UInt8} {k : Nat} (h : atN names k = nm) : kept names nm (k + 1) = kept names nm k := by
  unfold kept
  rw [List.range_succ, List.filter_append]
  have : List.filter (fun j => decide (atN names j ≠ nm)) [k] = [] := List.filter_eq_nil_iff.2 (fun x hx => by
    have := List.mem_singleton.1 hx
    subst this; simpa using h)
  rw [this, List.append_nil]
theorem kept_other {names : List (List UInt8)} {nm : List UInt8} {k : Nat} (h : atN names k ≠ nm) : kept names nm (k + 1) = kept names nm k ++ [k] := by
  unfold kept
  rw [List.range_succ, List.filter_append]
  have : List.filter (fun j => decide (atN names j ≠ nm)) [k] = [k] := List.filter_eq_self.2 (fun x hx => by
    have := List.mem_singleton.1 hx
    subst this; simpa using h)
  rw [this]
theorem kept_lt {names : List (List UInt8)} {nm : List UInt8} {k i : Nat} (h : i ∈ kept names nm k) : i < k := by
  have := (List.mem_filter.1 h).1
  simpa using this
theorem kept_len (names : List (List UInt8)) (nm : List UInt8) (k : Nat) : (kept names nm k).length ≤ k := by
  have := List.length_filter_le (fun j => decide (atN names j ≠ nm)) (List.range k)
  rw [List.length_range] at this
  exact this
theorem kept_zip (names : List (List UInt8)) (L : List (List Nd)) (nm : List UInt8) (h : names.length = L.length) : ((kept names nm names.length).map fun j => (atN names j, atL L j)) = (names.zip L).filter (fun x => decide (x.1 ≠ nm)) := by
  rw [← range_zip names L h, List.filter_map]; rfl
theorem less_ks {t : Tr Nd} {nm : List UInt8} (h : Val t) (hk : t.nd.kind = 6) : t.ks.filter (fun u => decide (u.nd.name ≠ nm)) = (lessT nm t).ks := by
  have hc := h.cut hk nm
  have hne : ∀ {a b : List UInt8}, a < b → a ≠ b := fun h1 h2 => List.lt_irrefl _ (h2 ▸ h1)
  show _ = loT nm t.ks ++ ([] ++ hiT nm t.ks)
  conv => lhs; rw [hc.all]
  rw [List.filter_append, List.filter_append, List.filter_eq_self.2 (fun u hu => by simpa using hne (hc.lo u hu)), List.filter_eq_nil_iff.2 (fun u hu => by simpa using hc.eq u hu), List.filter_eq_self.2 (fun u hu => by simpa using (hne (hc.hi u hu)).symm)]
theorem kept_less {t : Tr Nd} {nm : List UInt8} (h : Val t) (hk : t.nd.kind = 6) :
    (kept (t.ks.map fun k => k.nd.name) nm (t.ks.map fun k => k.nd.name).length).map (atN (t.ks.map fun k => k.nd.name)) = (lessT nm t).ks.map (fun k => k.nd.name) ∧
    (kept (t.ks.map fun k => k.nd.name) nm (t.ks.map fun k => k.nd.name).length).map (atL (t.ks.map fun k => flat (nmd [] k))) = (lessT nm t).ks.map (fun k => flat (nmd [] k)) := by
  have h1 := kept_zip (t.ks.map fun k => k.nd.name) (t.ks.map fun k => flat (nmd [] k)) nm (by simp)
  rw [List.zip_map', List.filter_map] at h1
  have h2 : ((kept (t.ks.map fun k => k.nd.name) nm (t.ks.map fun k => k.nd.name).length).map fun j => (atN (t.ks.map fun k => k.nd.name) j, atL (t.ks.map fun k => flat (nmd [] k)) j)) = (t.ks.filter (fun u => decide (u.nd.name ≠ nm))).map (fun k => (k.nd.name, flat (nmd [] k))) := h1
  rw [less_ks h hk] at h2
  constructor
  · have := congrArg (List.map Prod.fst) h2
    rw [List.map_map, List.map_map] at this; exact this
  · have := congrArg (List.map Prod.snd) h2
    rw [List.map_map, List.map_map] at this; exact this
theorem sum_parts : ∀ us : List (Tr Nd), ((us.map fun k => flat (nmd [] k)).map List.length).sum = (flats us).length
  | [] => rfl
  | k :: us => by rw [flats_cons, List.length_append, ← sum_parts us]; simp [flat_nmd_len]

set_option maxRecDepth 100000 in
set_option maxHeartbeats 4000000 in
theorem refWithout_any (v : Value) (t : Tr Nd) (nm : List UInt8) (w : World) (hv : Nds w v (flat t)) (hl : (flat t).length ≤ 65536) (ht : Val t) (hk : t.nd.kind = 6) :
    Calls Tryz.prog 76 #[v, .string ⟨nm.toArray⟩] w (OwnsN w (flat (lessT nm t))) := by
  have hN := refNames_own v t w hv hl ht
  rw [namesT, if_pos hk] at hN
  have HN := Lib.hid hN
  have HP := Lib.hid (fun (W : World) (hb : Below w.heap.size w W) => refParts_own v t W (hv.below hb) hl ht)
  have HKL := Lib.hid (kept_less (nm := nm) ht hk)
  have hnl : (t.ks.map fun k => k.nd.name).length ≤ 65536 := by
    have h1 := flats_len t.ks
    rw [flat_eq] at hl
    simp at hl ⊢
    omega
  have HSUM : Hid (((lessT nm t).ks.map fun k => flat (nmd [] k)).length ≤ 65536 ∧ (((lessT nm t).ks.map fun k => flat (nmd [] k)).map List.length).sum ≤ 131072) := Lib.hid (by
    have h1 := len_parts ht hk nm
    have h2 := len_less nm t
    rw [sum_parts]
    rw [show flat (lessT nm t) = hdN 6 (lessT nm t).ks.length :: flats (lessT nm t).ks from flat_objT _, List.length_cons] at h2
    have h3 := flats_len (lessT nm t).ks
    simp only [List.length_map]
    omega)
  have HANS : Hid (hdN 6 ((lessT nm t).ks.map fun k => flat (nmd [] k)).length :: laid (((lessT nm t).ks.map fun k => k.nd.name).zip ((lessT nm t).ks.map fun k => flat (nmd [] k))) = flat (lessT nm t)) := Lib.hid (by
    rw [laid_named, List.length_map]; exact (flat_objT _).symm)
  have HNE : Hid (∀ l ∈ ((lessT nm t).ks.map fun k => flat (nmd [] k)), l ≠ []) := Lib.hid (fun l hl e => by
    obtain ⟨k, hk, rfl⟩ := List.mem_map.1 hl
    have := flat_pos (nmd [] k)
    rw [e] at this
    exact absurd this (by simp))
  have HLL : Hid ((t.ks.map fun k => k.nd.name).length = (t.ks.map fun k => flat (nmd [] k)).length) := Lib.hid (by simp)
  have HLQ : Hid (((lessT nm t).ks.map fun k => k.nd.name).length = ((lessT nm t).ks.map fun k => flat (nmd [] k)).length) := Lib.hid (by simp)
  clear hN hv hl ht hk
  generalize (lessT nm t).ks.map (fun k => flat (nmd [] k)) = LQ at *
  generalize (lessT nm t).ks.map (fun k => k.nd.name) = NQ at *
  generalize (t.ks.map fun k => flat (nmd [] k)) = L at *
  generalize (t.ks.map fun k => k.nd.name) = names at *
  generalize flat (lessT nm t) = ans at *
  go_enter Tryz.func76, Tryz.ntmps76
  go_wp2_with fail
  refine HN.out.mono ?_
  rintro e w1 ⟨v1, rfl, ho1, hb1⟩
  have HO1 := Lib.hid ho1
  have HB1 := Lib.hid hb1
  clear ho1 hb1
  go_wp2_with fail
  refine (HP.out _ HB1.out).mono ?_
  rintro e w2 ⟨v2, zs, rfl, ho2, he2, hb2⟩
  have HE : Hid (Els w2 zs L) := Lib.hid ⟨he2.1, fun k z l a b => (he2.2 k z l a b).row ndc_len⟩
  obtain ⟨A, c, rfl, hc, hcm, -, H⟩ := (HO1.out.row stc_len).below hb2
  obtain ⟨A2, c2, rfl, hc2, hcm2, -, H2⟩ := ho2.row slc_len
  have HB2 := Lib.hid (Below.after HB1.out hb2)
  have hzl : zs.length = names.length := by rw [HE.out.1, HLL.out]
  rw [hzl] at H2 hc2 ⊢
  have HH := Lib.hid H
  have HH2 := Lib.hid H2
  have HZL := Lib.hid hzl
  clear ho2 he2 hb2 H H2 hzl
  have HS0 : Hid (Own stc 1 9 w2.heap.size ((w2.alloc (.cells #[] 9)).alloc (.cells #[] 24)) (.slice (some ⟨w2.heap.size, 0, none⟩) 0 0) []) := Lib.hid ((Own.lit (base := w2.heap.size) (E := 9) stc_len w2 #[] [] (Nat.le_refl _) (by simp) rfl).alloc _)
  have HZ0 : Hid (Own slc 1 24 w2.heap.size ((w2.alloc (.cells #[] 9)).alloc (.cells #[] 24)) (.slice (some ⟨w2.heap.size + 1, 0, none⟩) 0 0) []) := Lib.hid (by
    have := Own.lit (base := w2.heap.size) (E := 24) slc_len (w2.alloc (.cells #[] 9)) #[] [] (by simp) (by simp) rfl
    simpa using this)
  generalize hn : names.length = n at *
  have HNN := Lib.hid hn
  clear hn
  go_wp2_with fail
  go_loopw [7, 8, 9] (fun sv zv i wr => ∃ k : Nat, k ≤ n ∧ i = .int .i64 k ∧ Own stc 1 9 w2.heap.size wr sv ((kept names nm k).map (atN names)) ∧ Own slc 1 24 w2.heap.size wr zv ((kept names nm k).map fun j => zs.getD j (none, 0, 0)) ∧ Below w2.heap.size w2 wr) (fun _ _ i _ => n - (intOf i).toNat)
  case atStart => exact ⟨0, Nat.zero_le _, rfl, HS0.out, HZ0.out, ((Below.refl _ _).alloc (Nat.le_refl _) _).alloc (by simp) _⟩
  case round =>
    obtain ⟨k, hk, rfl, hs, hz, hb⟩ := hrel
    obtain ⟨As, cs, rfl, hcs, hcs2, -⟩ := hs.form
    obtain ⟨Az, cz, rfl, hcz, hcz2, -⟩ := hz.form
    have hpl := kept_len names nm k
    have HPL := Lib.hid (fun (i : Nat) (h : i ∈ kept names nm k) => kept_lt h)
    have HKQ := Lib.hid (fun (h : k = n) => (by rw [← h] at HKL; exact HKL.out : (kept names nm k).map (atN names) = NQ ∧ (kept names nm k).map (atL L) = LQ))
    have HKS := Lib.hid (kept_same (names := names) (nm := nm) (k := k))
    have HKO := Lib.hid (kept_other (names := names) (nm := nm) (k := k))
    generalize kept names nm k = p at hs hz hpl HPL HKQ HKS HKO hcs hcz ⊢
    simp only [List.length_map] at hs hz hcs hcz ⊢
    have HS := Lib.hid hs
    have HZ := Lib.hid hz
    have HB := Lib.hid hb
    clear hs hz hb
    by_cases hlt : k < n
    · obtain ⟨g, o, rfl, hg, hx⟩ := HH.out (by omega)
      obtain ⟨g2, o2, rfl, hg2, hx2⟩ := HH2.out (by omega)
      have hkx : names[k]? = some (atN names k) := by rw [atN, List.getD_eq_getElem?_getD, List.getElem?_eq_getElem (by rw [HNN.out]; exact hlt)]; rfl
      obtain ⟨zb, hzb⟩ : ∃ a, zs[k]? = some a := ⟨_, List.getElem?_eq_getElem (by rw [HZL.out]; exact hlt)⟩
      have n0 := (HB.out.cell (p := ⟨g, o + k, none⟩) hg).trans (hx k _ hkx).st
      have HZW : Hid (w2.cell? ⟨g2, o2 + k, none⟩ = some (.slice zb.1 zb.2.1 zb.2.2)) := Lib.hid (hx2 k zb hzb).one
      have HNW : Hid (w2.cell? ⟨g, o + k, none⟩ = some (.string ⟨(atN names k).toArray⟩)) := Lib.hid (hx k _ hkx).st
      have HZB : Hid (zs.getD k (none, 0, 0) = zb) := Lib.hid (by rw [List.getD_eq_getElem?_getD, hzb]; rfl)
      have hki : (k : Int) < n := by omega
      clear hkx hzb hx hx2
      generalize hans : atN names k = nb at n0 HNW HKS HKO
      have HNB := Lib.hid hans
      clear hans
      by_cases he : nb = nm
      · have HSK := Lib.hid (HKS.out he)
        subst he
        go_wp2_with fail
        go_roundw
        case rel => exact ⟨k + 1, by omega, by go_num, by rw [HSK.out]; exact HS.out, by rw [HSK.out]; exact HZ.out, HB.out⟩
        case measure => simp [intOf]; omega
      · have hne : (nb == nm) = false := by simp [he]
        have HOK := Lib.hid (HKO.out he)
        clear he
        go_wp2_with (at_builtin; refine wpList_append_row (base := w2.heap.size) elText rfl _ _ rfl rfl (HS.out.alloc _) rfl (row_one stc_len wr _ rfl 9 #[.string ⟨nb.toArray⟩] nb rfl) ?_ ?_ ?_ ?_)
        · unfold maxLen; simp; omega
        · simp; omega
        · have := HB.out.size; simp; omega
        · intro A4 c4 w4 hown4 hg4 hwh
          clear hwh
          have HS4 : Hid (Own stc 1 9 w2.heap.size w4 (.slice A4 (p.length + 1) c4) ((p ++ [k]).map (atN names))) := Lib.hid (by rw [List.map_append]; show Own _ _ _ _ _ _ (p.map (atN names) ++ [atN names k]); rw [HNB.out]; simpa using hown4)
          have HZ4 := Lib.hid (Own.aside (HZ.out.alloc _) (HS.out.alloc _) (by decide) hg4)
          have HB4 : Hid (Below w2.heap.size w2 w4) := Lib.hid ((HB.out.alloc HB.out.size _).trans ((HS.out.alloc _).kept hg4 (by have := HB.out.size; simp; omega)))
          clear hown4 hg4 n0
          have z4 := (HB4.out.cell (p := ⟨g2, o2 + k, none⟩) hg2).trans HZW.out
          try simp only [List.length_map]
          go_wp2_with (at_builtin; refine wpList_append_row (base := w2.heap.size) elVal rfl _ _ rfl rfl (HZ4.out.alloc _) rfl (row_one slc_len w4 _ rfl 24 #[.slice zb.1 zb.2.1 zb.2.2] zb rfl) ?_ ?_ ?_ ?_)
          · unfold maxLen; simp; omega
          · simp; omega
          · have := HB4.out.size; simp; omega
          · intro A5 c5 w5 hown5 hg5 hwh
            clear hwh
            have HZ5 : Hid (Own slc 1 24 w2.heap.size w5 (.slice A5 (p.length + 1) c5) ((p ++ [k]).map fun j => zs.getD j (none, 0, 0))) := Lib.hid (by rw [List.map_append]; show Own _ _ _ _ _ _ ((p.map fun j => zs.getD j (none, 0, 0)) ++ [zs.getD k (none, 0, 0)]); rw [HZB.out]; simpa using hown5)
            have HS5 := Lib.hid (Own.aside (HS4.out.alloc _) (HZ4.out.alloc _) (by decide) hg5)
            have HB5 : Hid (Below w2.heap.size w2 w5) := Lib.hid ((HB4.out.alloc HB4.out.size _).trans ((HZ4.out.alloc _).kept hg5 (by have := HB4.out.size; simp; omega)))
            clear hown5 hg5 z4
            try simp only [List.length_map]
            go_wp2_with fail
            go_roundw
            case rel => exact ⟨k + 1, by omega, by go_num, by rw [HOK.out]; exact HS5.out, by rw [HOK.out]; exact HZ5.out, HB5.out⟩
            case measure => simp [intOf]; omega
    · have hkn : k = n := by omega
      obtain ⟨h1, h2⟩ := HKQ.out hkn
      obtain ⟨wo, rfl⟩ : ∃ wo : World, wo = wr := ⟨_, rfl⟩
      have HS1 : Hid (Sts wo (.slice As p.length cs) NQ) := Lib.hid (by rw [← h1]; exact HS.out.row stc_len)
      have HV1 : Hid (Vls wo (.slice Az p.length cz) LQ) := Lib.hid (by
        rw [← h2]
        refine Els.vls (zs := p.map fun j => zs.getD j (none, 0, 0)) ⟨by simp, fun q z l hz hl => ?_⟩ (HZ.out.row slc_len)
        rw [List.getElem?_map] at hz hl
        cases hi : p[q]? with
        | none => rw [hi] at hz; cases hz
        | some i =>
          rw [hi] at hz hl
          injection hz with hz
          injection hl with hl
          have hin := HPL.out i (List.mem_of_getElem? hi)
          have hx := HE.out.2 i z l (by rw [← hz]; show zs[i]? = some (zs.getD i (none, 0, 0)); rw [List.getD_eq_getElem?_getD, List.getElem?_eq_getElem (by rw [HZL.out]; omega)]; rfl) (by rw [← hl]; show L[i]? = some (L.getD i []); rw [List.getD_eq_getElem?_getD, List.getElem?_eq_getElem (by rw [← HLL.out]; omega)]; rfl)
          exact hx.below HB.out)
      have HQ := Lib.hid (refNamed_any _ _ _ _ _ HS1.out HV1.out HLQ.out HSUM.out.1 HSUM.out.2 HNE.out)
      clear h1 h2 hkn hpl hcs hcz
      go_wp2_with fail
      refine HQ.out.mono ?_
      rintro e w3 ⟨v3, rfl, ho3, hB3⟩
      have HO3 := Lib.hid ho3
      have HB3 := Lib.hid hB3
      clear ho3 hB3
      go_wp2_with fail
      go_ret
      exact ⟨_, rfl, by rw [← HANS.out]; exact HO3.out.mono (Nat.le_trans HB2.out.size HB.out.size), Below.after HB2.out (Below.after HB.out HB3.out)⟩

theorem objV_perm {ts us : List (Tr Nd)} (hp : ts.Perm us) (hB : objB (us.map fun k => k.nd.name) (us.map fun k => flat (nmd [] k)) = true) :
    objV (ts.map fun k => k.nd.name) (ts.map fun k => flat (nmd [] k)) = objV (us.map fun k => k.nd.name) (us.map fun k => flat (nmd [] k)) := by
  obtain ⟨h1, h2, h3⟩ := objB_iff.1 hB
  have h2' : (ts.map fun k => k.nd.name).Nodup := (hp.map _).nodup_iff.2 h2
  have hA : objB (ts.map fun k => k.nd.name) (ts.map fun k => flat (nmd [] k)) = true := objB_iff.2 ⟨by simp, h2', fun s hs => h3 s ((hp.map _).mem_iff.1 hs)⟩
  have hz : ((ts.map fun k => k.nd.name).zip (ts.map fun k => flat (nmd [] k))).Perm ((us.map fun k => k.nd.name).zip (us.map fun k => flat (nmd [] k))) := by
    rw [List.zip_map', List.zip_map']; exact hp.map _
  rw [objV, objV, if_pos hA, if_pos hB, srt_perm hz (by rw [zip_keys (by simp)]; exact h2'), List.length_map, List.length_map, hp.length_eq]
theorem with_obj {t x : Tr Nd} {nm : List UInt8} (h : Val t) (hk : t.nd.kind = 6) (hx : Val x) (hn : vld nm = true) :
    objV ((lessT nm t).ks.map (fun k => k.nd.name) ++ [nm]) ((lessT nm t).ks.map (fun k => flat (nmd [] k)) ++ [flat x]) = flat (withT nm x t) := by
  obtain ⟨hb, hv⟩ := obj_again (val_put h hk hx hn) (show (withT nm x t).nd.kind = 6 from rfl)
  have hp : ((lessT nm t).ks ++ [nmd nm x]).Perm (withT nm x t).ks := by
    show ((loT nm t.ks ++ ([] ++ hiT nm t.ks)) ++ [nmd nm x]).Perm (loT nm t.ks ++ ([nmd nm x] ++ hiT nm t.ks))
    rw [List.nil_append, List.append_assoc]
    exact List.Perm.append_left _ List.perm_append_comm
  have h1 := objV_perm hp hb
  rw [hv, List.map_append, List.map_append] at h1
  rw [← h1]
  congr 2
  show [flat x] = [flat (nmd [] (nmd nm x))]
  rw [nmd_nmd, ← hx.nm, nmd_self]

theorem els_snoc {w : World} {zs : List (Option Addr × Nat × Nat)} {L : List (List Nd)} {z : Option Addr × Nat × Nat} {l : List Nd} (h : Els w zs L) (hz : Nds w (.slice z.1 z.2.1 z.2.2) l) : Els w (zs ++ [z]) (L ++ [l]) := by
  refine ⟨by simp [h.1], fun k y m h1 h2 => ?_⟩
  rcases Nat.lt_trichotomy k zs.length with hk | hk | hk
  · rw [List.getElem?_append_left hk] at h1
    rw [List.getElem?_append_left (by rw [← h.1]; exact hk)] at h2
    exact h.2 k y m h1 h2
  · subst hk
    rw [List.getElem?_append_right (Nat.le_refl _)] at h1
    rw [h.1, List.getElem?_append_right (Nat.le_refl _)] at h2
    simp at h1 h2
    subst h1 h2
    exact hz
  · rw [List.getElem?_eq_none (by simp; omega)] at h1; cases h1

set_option maxRecDepth 100000 in
set_option maxHeartbeats 4000000 in
theorem refWith_any (v p : Value) (t x : Tr Nd) (nm : List UInt8) (w : World) (hv : Nds w v (flat t)) (hp : Nds w p (flat x)) (hl : (flat t).length ≤ 500) (hlx : (flat x).length ≤ 500) (ht : Val t) (hk : t.nd.kind = 6) (hx : Val x) (hn : vld nm = true) (hnm : nm.length ≤ maxLen) (hsh : ∀ s ∈ t.ks.map (fun k => k.nd.name), s.length ≤ maxLen) :
    Calls Tryz.prog 40 #[v, .string ⟨nm.toArray⟩, p] w (OwnsN w (flat (withT nm x t))) := by
  have hlen := len_parts ht hk nm
  have hlen2 := len_less nm t
  have HLL : Hid ((flat (lessT nm t)).length ≤ 500) := Lib.hid (by omega)
  have HW := Lib.hid (refWithout_any v t nm w hv (by omega) ht hk)
  have HVL := Lib.hid (val_less (nm := nm) ht hk)
  have HANS := Lib.hid (with_obj ht hk hx hn)
  have hnT : namesT (lessT nm t) = (lessT nm t).ks.map fun k => k.nd.name := by rw [namesT, if_pos (show (lessT nm t).nd.kind = 6 from rfl)]
  have HN := Lib.hid (fun (v1 : Value) (W : World) (h : Nds W v1 (flat (lessT nm t))) => (by have := refNames_own v1 (lessT nm t) W h (by have := HLL.out; omega) HVL.out; rwa [hnT] at this : Calls Tryz.prog 73 #[v1] W (OwnsS W ((lessT nm t).ks.map fun k => k.nd.name))))
  have HP := Lib.hid (fun (v1 : Value) (W : World) (h : Nds W v1 (flat (lessT nm t))) => refParts_own v1 (lessT nm t) W h (by have := HLL.out; omega) HVL.out)
  have hfl : (flat (lessT nm t)).length = 1 + (flats (lessT nm t).ks).length := by
    rw [show flat (lessT nm t) = hdN 6 (lessT nm t).ks.length :: flats (lessT nm t).ks from flat_objT _, List.length_cons]; omega
  have h3 := flats_len (lessT nm t).ks
  have hq1 : ((lessT nm t).ks.map fun k => k.nd.name).length ≤ 500 := by rw [List.length_map]; omega
  have HQ2 : Hid ((((lessT nm t).ks.map fun k => flat (nmd [] k)).map List.length).sum ≤ 500) := Lib.hid (by rw [sum_parts]; omega)
  have HQ3 : Hid (((lessT nm t).ks.map fun k => k.nd.name).length = ((lessT nm t).ks.map fun k => flat (nmd [] k)).length) := Lib.hid (by simp)
  have HQ4 : Hid (∀ l ∈ ((lessT nm t).ks.map fun k => flat (nmd [] k)), l ≠ []) := Lib.hid (fun l hl e => by
    obtain ⟨k, hk, rfl⟩ := List.mem_map.1 hl
    have := flat_pos (nmd [] k)
    rw [e] at this
    exact absurd this (by simp))
  have HQ5 : Hid (∀ s ∈ ((lessT nm t).ks.map fun k => k.nd.name), s.length ≤ maxLen) := Lib.hid (fun s hs => by
    obtain ⟨k, hk', rfl⟩ := List.mem_map.1 hs
    rw [← less_ks ht hk] at hk'
    exact hsh _ (List.mem_map_of_mem (List.mem_filter.1 hk').1))
  have HPX := Lib.hid hp
  have HLX := Lib.hid hlx
  have HNM := Lib.hid hnm
  have HXP := Lib.hid (flat_pos x)
  obtain ⟨Ap, cp, rfl, -⟩ := hp
  generalize hR : (lessT nm t).ks.map (fun k => flat (nmd [] k)) = L at *
  generalize hR2 : (lessT nm t).ks.map (fun k => k.nd.name) = names at *
  generalize flat (lessT nm t) = fl at *
  generalize flat (withT nm x t) = ans at *
  clear hR hR2 hv hl hlx ht hk hx hn hnm hsh hlen hlen2 hnT hfl h3
  generalize hfx : flat x = fx at *
  clear hfx
  generalize hxl : fx.length = xl at *
  have HXL := Lib.hid hxl
  clear hxl
  generalize hnn : names.length = n at *
  have HNN := Lib.hid hnn
  clear hnn
  go_enter Tryz.func40, Tryz.ntmps40
  go_wp2_with fail
  refine HW.out.mono ?_
  rintro e w1 ⟨v1, rfl, ho1, hb1⟩
  have HL1 := Lib.hid (ho1.row ndc_len)
  have HB1 := Lib.hid hb1
  clear ho1 hb1
  go_wp2_with fail
  refine (HN.out _ _ HL1.out).mono ?_
  rintro e w2 ⟨v2, rfl, ho2, hb2⟩
  obtain ⟨A2, c2, rfl, hc2, hm2, -⟩ := ho2.form
  have HO2 := Lib.hid ho2
  have HB2 := Lib.hid hb2
  clear ho2 hb2
  rw [HNN.out] at HO2 hc2 ⊢
  go_wp2_with (at_builtin; refine wpList_append_row (base := w1.heap.size) elText rfl _ _ rfl rfl ((by have := HO2.out.alloc (.cells #[.string ⟨nm.toArray⟩] 9); rw [← HNN.out] at this; rw [← HNN.out]; exact this) : Own stc 1 9 w1.heap.size (w2.alloc (.cells #[.string ⟨nm.toArray⟩] 9)) (.slice A2 n c2) names) rfl (row_one stc_len w2 _ rfl 9 #[.string ⟨nm.toArray⟩] nm rfl) ?_ ?_ ?_ ?_)
  · unfold maxLen; have := HNN.out; simp; omega
  · have := HNN.out; simp; omega
  · have := HB2.out.size; simp; omega
  · intro A3 c3 w3 hown3 hg3 hwh
    clear hwh
    have HO3 : Hid (Own stc 1 9 w1.heap.size w3 (.slice A3 (n + 1) c3) (names ++ [nm])) := Lib.hid (by have h := hown3; rw [HNN.out] at h; simpa using h)
    have HB3 : Hid (Below w1.heap.size w1 w3) := Lib.hid ((HB2.out.alloc HB2.out.size _).trans ((HO2.out.alloc _).kept hg3 (by have := HB2.out.size; simp; omega)))
    have HL3 := Lib.hid (HL1.out.below HB3.out)
    clear hown3 hg3
    try simp only [HNN.out]
    go_wp2_with fail
    refine (HP.out _ _ HL3.out).mono ?_
    rintro e w4 ⟨v4, zs, rfl, ho4, he4, hb4⟩
    obtain ⟨A4, c4, rfl, hc4, hm4, -⟩ := ho4.form
    have hzl : zs.length = n := by rw [he4.1, ← HQ3.out]
    have HZL := Lib.hid hzl
    have HO4 := Lib.hid ho4
    have HE4 := Lib.hid he4
    have HB4 := Lib.hid hb4
    rw [hzl] at HO4 hc4 ⊢
    clear ho4 he4 hb4 hzl
    go_wp2_with (at_builtin; refine wpList_append_row (base := w3.heap.size) elVal rfl _ _ rfl rfl (HO4.out.alloc _) rfl (row_one slc_len w4 _ rfl 24 #[.slice Ap xl cp] (Ap, xl, cp) rfl) ?_ ?_ ?_ ?_)
    · unfold maxLen; have := HZL.out; simp; omega
    · have := HZL.out; simp; omega
    · have := HB4.out.size; simp; omega
    · intro A5 c5 w5 hown5 hg5 hwh
      clear hwh
      have HO5 : Hid (Own slc 1 24 w3.heap.size w5 (.slice A5 (n + 1) c5) (zs ++ [(Ap, xl, cp)])) := Lib.hid (by have h := hown5; rw [HZL.out] at h; simpa using h)
      have HO4' : Hid (Own slc 1 24 w3.heap.size (w4.alloc (.cells #[.slice Ap xl cp] 24)) (.slice A4 n c4) zs) := Lib.hid (HO4.out.alloc _)
      have HB5 : Hid (Below w3.heap.size w3 w5) := Lib.hid ((HB4.out.alloc HB4.out.size _).trans (HO4'.out.kept hg5 (by have := HB4.out.size; simp; omega)))
      have HE5 := Lib.hid (Elems.aside (HE4.out.below ((Below.refl _ _).alloc (Nat.le_refl _) _)) HO4'.out hg5)
      have HBW := Lib.hid (Below.after (Below.after HB1.out HB3.out) HB5.out)
      have HS5 := Lib.hid ((HO3.out.row stc_len).below HB5.out)
      have HV5 := Lib.hid (Els.vls (els_snoc (z := (Ap, xl, cp)) ⟨HE5.out.1, fun k z l a b => (HE5.out.2 k z l a b).row ndc_len⟩ (HPX.out.below HBW.out)) (HO5.out.row slc_len))
      have hob := refObject_any _ _ (names ++ [nm]) (L ++ [fx]) w5 HS5.out HV5.out (by have := HNN.out; simp; omega) (by have h4 := HQ2.out; have h5 := HXL.out; have h6 := HLX.out; rw [List.map_append, List.sum_append]; simp only [List.map_cons, List.map_nil, List.sum_cons, List.sum_nil]; omega) (fun s hs => by
          rcases List.mem_append.1 hs with h | h
          · exact HQ5.out s h
          · rw [List.mem_singleton.1 h]; exact HNM.out) (fun l hl => by
          rcases List.mem_append.1 hl with h | h
          · exact HQ4.out l h
          · rw [List.mem_singleton.1 h]
            intro e
            have h6 := HXL.out
            rw [e] at h6
            have h7 := HXP.out
            simp at h6
            omega)
      have HOB := Lib.hid hob
      clear hown5 hg5 hob
      try simp only [HZL.out]
      go_wp2_with fail
      refine HOB.out.mono ?_
      rintro e w6 ⟨v6, rfl, ho6, hb6⟩
      rw [HANS.out] at ho6
      have HO6 := Lib.hid ho6
      have HB6 := Lib.hid hb6
      clear ho6 hb6
      go_wp2_with fail
      go_ret
      exact ⟨_, rfl, HO6.out.mono HBW.out.size, Below.after HBW.out HB6.out⟩

theorem refSame_twice (va vb : Value) (l : List Nd) (w : World) (ha : Nds w va l) (hb : Nds w vb l) :
    Calls Tryz.prog 11 #[va, vb] w fun e w' => e = .returned (.bool true) ∧ Below w.heap.size w w' :=
  (refSame_any va vb l l w ha hb).mono fun _ _ h => ⟨by rw [h.1]; simp, h.2⟩


end Go.Proofs.YtafbojiojeemoaaGreatDoor

/-
  What the live question of path's laws answers: true.
-/
namespace Go.Proofs.YtafbojiojeemoaaGreatDoor
open Go.RowKit Np Rw Vp Up Qp Pw

def pthA : List St := [⟨false, [97], 0⟩, ⟨true, [], 0⟩, ⟨false, [98, 32, 99], 0⟩]
def pthG : List St := [⟨false, [97], 0⟩, ⟨true, [], 1⟩]
def pthS : List St := [⟨false, [97], 0⟩]
def pthB : List St := [⟨false, [98], 0⟩]
def txtA : List UInt8 := [46, 97, 91, 48, 93, 46, 34, 98, 32, 99, 34]
set_option maxRecDepth 100000 in
theorem text_A : textP pthA = txtA := by decide +kernel
set_option maxRecDepth 100000 in
theorem right_A : rightP pthA = true := by decide +kernel
theorem read_A : readP txtA = (pthA, 0, 0) := by rw [← text_A]; exact readP_back right_A
set_option maxRecDepth 100000 in
theorem read_B : readP [46, 97, 46] = ([], 2, 1) := by decide +kernel
def obE : Tr Nd := .mk (hdN 6 0) []
def obG : Tr Nd := withT [97] twoT obE
def obL1 : List Nd := [hdN 6 1, nmN [97] (hdN 5 2), trueN, trueN]
set_option maxRecDepth 100000 in
theorem flat_G : flat obG = obL1 := by decide +kernel
set_option maxRecDepth 100000 in
theorem err_G : errP pthG obG = 0 := by decide +kernel
set_option maxRecDepth 100000 in
theorem got_G : gotP pthG obG = oneL := by decide +kernel
set_option maxRecDepth 100000 in
theorem err_S : errP pthS obG = 0 := by decide +kernel
set_option maxRecDepth 100000 in
theorem put_S : putP pthS obG oneT = [hdN 6 1, nmN [97] trueN] := by decide +kernel
theorem apart_B : apartP pthA pthB = true := by decide +kernel
theorem list_2 : hdN 5 [oneL, oneL].length :: [oneL, oneL].flatten = twoL := by decide +kernel
theorem obE_val : Val obE := ⟨okT_mk.2 ⟨rfl, by simp⟩, by rw [obE, rightT_mk]; rfl, rfl⟩
theorem obG_val : Val obG := val_put obE_val rfl two_val vld_a
end Go.Proofs.YtafbojiojeemoaaGreatDoor

/-
  The live question of path's laws: its walk.
-/
namespace Go.Proofs.YtafbojiojeemoaaGreatDoor
open Go.RowKit Np Rw Vp Up Qp Pw

set_option maxRecDepth 100000 in
set_option maxHeartbeats 4000000 in
theorem palive_any (w : World) (hT : Pv w) : Calls Tryz.prog 21 #[] w fun e w' => e = .returned (.bool true) ∧ Below w.heap.size w w' := by
  have H1 : Hid (∀ W, Pv W → Calls Tryz.prog 22 #[.string ⟨#[46, 97, 91, 48, 93, 46, 34, 98, 32, 99, 34]⟩] W fun e w' => ∃ (A : Option Addr) (c : Nat), e = .returned (.tuple #[.slice A 3 c, .int .i64 0, .int .i64 0]) ∧ Hid (Sps w' (.slice A 3 c) pthA) ∧ Hid (Below W.heap.size W w')) := Lib.hid (fun W hW => by
    refine (pread_any ⟨#[46, 97, 91, 48, 93, 46, 34, 98, 32, 99, 34]⟩ W (by decide) hW).mono ?_
    rintro e w' ⟨A, n, c, he, hs, hb⟩
    change e = .returned (.tuple #[.slice A n c, .int .i64 ((readP txtA).2.1 : Nat), .int .i64 (readP txtA).2.2]) at he
    change Sps w' (.slice A n c) (readP txtA).1 at hs
    rw [read_A] at he hs
    obtain ⟨A', c', hv, -⟩ := id hs
    injection hv with _ e2 _
    change n = 3 at e2
    subst e2
    exact ⟨A, c, he, Lib.hid hs, Lib.hid hb⟩)
  have H2 : Hid (∀ W, Pv W → Calls Tryz.prog 22 #[.string ⟨#[46, 97, 46]⟩] W fun e w' => ∃ (A : Option Addr) (n c : Nat), e = .returned (.tuple #[.slice A n c, .int .i64 2, .int .i64 1]) ∧ Hid (Below W.heap.size W w')) := Lib.hid (fun W hW => by
    refine (pread_any ⟨#[46, 97, 46]⟩ W (by decide) hW).mono ?_
    rintro e w' ⟨A, n, c, he, hs, hb⟩
    change e = .returned (.tuple #[.slice A n c, .int .i64 ((readP [46, 97, 46]).2.1 : Nat), .int .i64 (readP [46, 97, 46]).2.2]) at he
    rw [read_B] at he
    exact ⟨A, n, c, he, Lib.hid hb⟩)
  have HT := Lib.hid hT
  clear hT
  go_enter Tryz.func21, Tryz.ntmps21
  go_wp2_with fail
  refine (H1.out _ HT.out).mono ?_
  rintro e w1 ⟨A1, c1, rfl, HP1, HB1⟩
  go_wp2_with fail
  refine (H2.out _ (HT.out.below HB1.out)).mono ?_
  rintro e w2 ⟨A2, n2, c2, rfl, hb2⟩
  have HP2 := Lib.hid (HP1.out.below hb2.out)
  have HB2 := Lib.hid (Below.after HB1.out hb2.out)
  clear hb2 HP1 HB1
  go_wp2_with fail
  have hone : Nds ((w2.alloc (.cells #[.int .i64 2, .int .i64 0, .string ⟨#[]⟩, .string ⟨#[]⟩, .bool false, .int .i64 0] 35)).alloc (.cells #[.int .i64 6, .int .i64 0, .string ⟨#[]⟩, .string ⟨#[]⟩, .bool false, .int .i64 0] 35)) (.slice (some ⟨w2.heap.size, 0, none⟩) 1 1) oneL := (row_one ndc_len w2 _ rfl _ _ trueN rfl : Nds _ _ oneL).below ((Below.refl _ _).alloc (Nat.le_refl _) _)
  have hobe : Nds ((w2.alloc (.cells #[.int .i64 2, .int .i64 0, .string ⟨#[]⟩, .string ⟨#[]⟩, .bool false, .int .i64 0] 35)).alloc (.cells #[.int .i64 6, .int .i64 0, .string ⟨#[]⟩, .string ⟨#[]⟩, .bool false, .int .i64 0] 35)) (.slice (some ⟨w2.heap.size + 1, 0, none⟩) 1 1) (flat obE) := row_one ndc_len _ _ (by simp) _ _ (hdN 6 0) rfl
  have hB3 : Below w2.heap.size w2 ((w2.alloc (.cells #[.int .i64 2, .int .i64 0, .string ⟨#[]⟩, .string ⟨#[]⟩, .bool false, .int .i64 0] 35)).alloc (.cells #[.int .i64 6, .int .i64 0, .string ⟨#[]⟩, .string ⟨#[]⟩, .bool false, .int .i64 0] 35)) := ((Below.refl _ _).alloc (Nat.le_refl _) _).alloc (by simp) _
  have hs3 : ((w2.alloc (.cells #[.int .i64 2, .int .i64 0, .string ⟨#[]⟩, .string ⟨#[]⟩, .bool false, .int .i64 0] 35)).alloc (.cells #[.int .i64 6, .int .i64 0, .string ⟨#[]⟩, .string ⟨#[]⟩, .bool false, .int .i64 0] 35)).heap.size = w2.heap.size + 1 + 1 := by simp
  generalize (w2.alloc (.cells #[.int .i64 2, .int .i64 0, .string ⟨#[]⟩, .string ⟨#[]⟩, .bool false, .int .i64 0] 35)).alloc (.cells #[.int .i64 6, .int .i64 0, .string ⟨#[]⟩, .string ⟨#[]⟩, .bool false, .int .i64 0] 35) = W3 at hone hobe hB3 hs3 ⊢
  have HS3 := Lib.hid hs3
  have HP3 := Lib.hid (HP2.out.below hB3)
  have HB3 := Lib.hid (Below.after HB2.out hB3)
  clear hs3 hB3 HP2 HB2
  generalize w2.heap.size = q2 at *
  have hL := refList_any _ [oneL, oneL] _ (vls_two W3 _ HS3.out 24 _ _ _ _ hone hone) (by decide) (by decide)
  rw [list_2] at hL
  refine hL.mono ?_
  rintro e w4 h4
  obtain ⟨A4, c4, rfl, hl4, hb4⟩ := h4.is (n := 3) rfl
  have hBa : Below W3.heap.size W3 w4 := ((Below.refl _ _).alloc (Nat.le_refl _) _).trans (hb4.mono (by simp))
  have HONE4 := Lib.hid (hone.below hBa)
  have HOBE4 := Lib.hid (hobe.below hBa)
  have HL4 := Lib.hid hl4
  have HP4 := Lib.hid (HP3.out.below hBa)
  have HB4 := Lib.hid (Below.after HB3.out hBa)
  clear hL hone hobe hl4 hb4 hBa h4 HP3 HB3 HS3
  go_wp2_with fail
  have hW := refWith_any _ _ obE twoT [97] w4 HOBE4.out (by rw [flat_two]; exact HL4.out) (by decide) (by rw [flat_two]; decide) obE_val rfl two_val vld_a (by decide) (by intro s hs; simp [obE] at hs)
  change Calls _ _ _ _ (OwnsN w4 (flat obG)) at hW
  rw [flat_G] at hW
  refine hW.mono ?_
  rintro e w5 h5
  obtain ⟨A5, c5, rfl, hl5, hb5⟩ := h5.is (n := 4) rfl
  have HONE5 := Lib.hid (HONE4.out.below hb5)
  have HV5 : Hid (Nds w5 (.slice A5 4 c5) (flat obG)) := Lib.hid (by rw [flat_G]; exact hl5)
  have HP5 := Lib.hid (HP4.out.below hb5)
  have HB5 := Lib.hid (Below.after HB4.out hb5)
  clear hW h5 hl5 hb5 HONE4 HOBE4 HL4 HP4 HB4
  go_wp2_with fail
  have hq5 : Below w5.heap.size w5 (w5.alloc (.cells #[.bool false, .string ⟨#[97]⟩, .int .i64 0, .bool true, .string ⟨#[]⟩, .int .i64 1] 74)) := (Below.refl _ _).alloc (Nat.le_refl _) _
  have hG := pget_any _ _ pthG obG _ (Row.lit spc_len w5 74 #[.bool false, .string ⟨#[97]⟩, .int .i64 0, .bool true, .string ⟨#[]⟩, .int .i64 1] pthG (by decide) rfl) (HV5.out.below hq5) obG_val.ok (by rw [flat_G]; decide) (by decide)
  rw [err_G, got_G] at hG
  refine hG.mono ?_
  rintro e w6 ⟨A6, n6, c6, rfl, hl6, hb6⟩
  have hBb := hq5.trans (hb6.mono (by simp))
  have HX6 := Lib.hid hl6
  have HONE6 := Lib.hid (HONE5.out.below hBb)
  have HV6 := Lib.hid (HV5.out.below hBb)
  have HP6 := Lib.hid (HP5.out.below hBb)
  have HB6 := Lib.hid (Below.after HB5.out hBb)
  clear hG hl6 hb6 hBb hq5 HONE5 HV5 HP5 HB5
  go_wp2_with fail
  have hq6 : Below w6.heap.size w6 (w6.alloc (.cells #[.bool false, .string ⟨#[97]⟩, .int .i64 0] 74)) := (Below.refl _ _).alloc (Nat.le_refl _) _
  have hS := pset_any _ _ _ pthS obG oneT _ (Row.lit spc_len w6 74 #[.bool false, .string ⟨#[97]⟩, .int .i64 0] pthS (by decide) rfl) (HV6.out.below hq6) (by rw [flat_one]; exact HONE6.out.below hq6) obG_val.ok (by rw [flat_G]; decide) (by rw [flat_one]; decide) (by decide)
  rw [err_S, put_S] at hS
  refine hS.mono ?_
  rintro e w7 ⟨A7, n7, c7, rfl, hl7, hb7⟩
  obtain rfl : n7 = 2 := by
    obtain ⟨B, d, hv, -⟩ := hl7
    injection hv
  have hBb := hq6.trans (hb7.mono (by simp))
  have HX7 := Lib.hid (HX6.out.below hBb)
  have HONE7 := Lib.hid (HONE6.out.below hBb)
  have HP7 := Lib.hid (HP6.out.below hBb)
  have HB7 := Lib.hid (Below.after HB6.out hBb)
  clear hS hl7 hb7 hBb hq6 HX6 HONE6 HV6 HP6 HB6
  go_wp2_with fail
  have hTx := ptext_any _ pthA w7 HP7.out (by decide) (by intro s hs; simp [pthA] at hs; rcases hs with rfl | rfl | rfl <;> decide) (by rw [text_A]; decide) (HT.out.below HB7.out).pow
  rw [text_A] at hTx
  refine hTx.mono ?_
  rintro e w8 ⟨rfl, hb8⟩
  have HX8 := Lib.hid (HX7.out.below hb8)
  have HONE8 := Lib.hid (HONE7.out.below hb8)
  have HP8 := Lib.hid (HP7.out.below hb8)
  have HB8 := Lib.hid (Below.after HB7.out hb8)
  clear hTx hb8 HX7 HONE7 HP7 HB7
  go_wp2_with fail
  have hSm := refSame_any _ _ _ _ w8 HX8.out HONE8.out
  rw [show decide (oneL = oneL) = true by simp] at hSm
  refine hSm.mono ?_
  rintro e w9 ⟨rfl, hb9⟩
  have HP9 := Lib.hid (HP8.out.below hb9)
  have HB9 := Lib.hid (Below.after HB8.out hb9)
  clear hSm hb9 HX8 HONE8 HP8 HB8
  go_wp2_with fail
  have hR := pright_any _ pthA w9 HP9.out (by decide) (by intro s hs; simp [pthA] at hs; unfold maxLen; rcases hs with rfl | rfl | rfl <;> simp) (HT.out.below HB9.out).tabs
  rw [right_A] at hR
  refine hR.mono ?_
  rintro e w10 ⟨rfl, hb10⟩
  have HP10 := Lib.hid (HP9.out.below hb10)
  have HB10 := Lib.hid (Below.after HB9.out hb10)
  clear hR hb10 HP9 HB9
  go_wp2_with fail
  have hq : Below w10.heap.size w10 (w10.alloc (.cells #[.bool false, .string ⟨#[98]⟩, .int .i64 0] 74)) := (Below.refl _ _).alloc (Nat.le_refl _) _
  have hA := papart_any _ _ pthA pthB _ (HP10.out.below hq) (Row.lit spc_len w10 74 #[.bool false, .string ⟨#[98]⟩, .int .i64 0] pthB (by decide) rfl) (by decide) (by decide)
  rw [apart_B] at hA
  refine hA.mono ?_
  rintro e w11 ⟨rfl, n11, rfl⟩
  have HB11 := Lib.hid (drewN_below (Below.after HB10.out hq) n11)
  clear hA hq HP10 HB10
  go_wp2_with fail
  go_ret
  exact ⟨rfl, HB11.out⟩
end Go.Proofs.YtafbojiojeemoaaGreatDoor

/-
  What path's laws share: trees out of short values; how long a value is with something else there, and its texts; errors.
-/
namespace Go.Proofs.YtafbojiojeemoaaGreatDoor
open Go.RowKit Np Rw Vp Up Qp Pw

/-- What a path's steps are, as they come. -/
def Stp (p : List St) : Prop := ∀ s ∈ p, s.name.length ≤ maxLen ∧ -9223372036854775808 ≤ s.n ∧ s.n ≤ 9223372036854775807
theorem Stp.nm {p : List St} (h : Stp p) : ∀ s ∈ p, s.name.length ≤ maxLen := fun s hs => (h s hs).1
theorem fewp_len {p : List St} (h : fewP p = true) : p.length ≤ 31 ∧ ∀ s ∈ p, s.name.length ≤ 100 := by
  unfold fewP at h
  rw [Bool.and_eq_true, decide_eq_true_eq, List.all_eq_true] at h
  exact ⟨h.1, fun s hs => by simpa [shortS] using h.2 s hs⟩
theorem rightp_all {p : List St} (h : rightP p = true) : p.all rightS = true ∧ p.length ≤ 20 := by
  unfold rightP at h
  rw [Bool.and_eq_true, decide_eq_true_eq] at h
  exact h
theorem err_cases : ∀ (p : List St) (t : Tr Nd), errP p t = 0 ∨ errP p t = 5 ∨ errP p t = 6
  | [], _ => .inl rfl
  | s :: p, t => by
    rw [errP]
    split
    · exact .inr (.inl rfl)
    · split
      · exact .inr (.inr rfl)
      · exact err_cases p _
theorem got_none {p : List St} {t : Tr Nd} (h : errP p t ≠ 0) : gotP p t = [] := by
  unfold gotP
  cases hs : subP p t with
  | none => rfl
  | some u => exact absurd ((errP_iff p t).2 (by rw [hs]; rfl)) h
theorem put_none {p : List St} {t x : Tr Nd} (h : errP p t ≠ 0) : putP p t x = [] := by unfold putP; rw [if_neg h]
theorem sub_some {p : List St} {t : Tr Nd} (h : errP p t = 0) : ∃ u, subP p t = some u := by
  have := (errP_iff p t).1 h
  exact Option.isSome_iff_exists.1 this
theorem row_of {w : World} {A : Option Addr} {n c : Nat} {l : List Nd} (h : Nds w (.slice A n c) l) : n = l.length := by
  obtain ⟨B, d, hv, -⟩ := h
  injection hv
theorem set_len {p : List St} {t u x : Tr Nd} (h : subP p t = some u) : (flat (setP p t x)).length ≤ (flat t).length + (flat x).length := by
  obtain ⟨pre, post, h1, -, h2⟩ := row_at p t u h
  rw [h2 x, h1]
  have : (flat (nmd u.nd.name x)).length = (flat x).length := by rw [nmd, flat_mk, flat_eq x]; simp
  simp only [List.length_append, this]
  omega
theorem short_nmd {nm : List UInt8} {x : Tr Nd} (hn : nm.length ≤ maxLen) (h : Short (flat x)) : Short (flat (nmd nm x)) := by
  intro n hn2
  rw [nmd, flat_mk] at hn2
  rcases List.mem_cons.1 hn2 with rfl | hn3
  · exact ⟨hn, (h x.nd (by rw [flat_eq]; simp)).2⟩
  · exact h n (by rw [flat_eq]; exact List.mem_cons_of_mem _ hn3)
theorem set_short {p : List St} {t u x : Tr Nd} (h : subP p t = some u) (ht : Short (flat t)) (hx : Short (flat x)) : Short (flat (setP p t x)) := by
  obtain ⟨pre, post, h1, -, h2⟩ := row_at p t u h
  rw [h2 x]
  rw [h1] at ht
  intro n hn
  rcases List.mem_append.1 hn with hn | hn
  · rcases List.mem_append.1 hn with hn | hn
    · exact ht n (by simp [hn])
    · exact short_nmd (ht u.nd (by rw [flat_eq]; simp)).1 hx n hn
  · exact ht n (by simp [hn])
theorem val_name {x : Tr Nd} (h : Val x) : nmd [] x = x := nmd_val h []
/-- What is got where something was set. -/
theorem got_set {p : List St} {t u x : Tr Nd} (h : subP p t = some u) (hx : Val x) : gotP p (setP p t x) = flat x := by
  unfold gotP
  rw [sub_set p t u x h]
  simp only
  rw [nmd_val hx]
theorem got_some {p : List St} {t u : Tr Nd} (h : subP p t = some u) : gotP p t = flat (nmd [] u) := by unfold gotP; rw [h]
theorem few_tr {l : List Nd} (h : few 60 l = true) : ∃ t : Tr Nd, Val t ∧ l = flat t ∧ (flat t).length ≤ 60 ∧ Short (flat t) := by
  rw [few, Bool.and_eq_true, Bool.and_eq_true, decide_eq_true_eq] at h
  obtain ⟨⟨h1, h2⟩, h3⟩ := h
  obtain ⟨t, ht, rfl⟩ := val_of_rightL h3
  exact ⟨t, ht, rfl, h1, few_short h2⟩
end Go.Proofs.YtafbojiojeemoaaGreatDoor
