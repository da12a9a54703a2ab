/-
  Joined: PutP, ValW8.
-/
import Derived.Test.YtdibcamnoolnmaaGreatDoorPathSetsJ2
import Derived.Test.YtdibcamnoolnmaaGreatDoorPathSetsJ8

/-
  Plain words: an object with a part of a name, and without it. No program stands here.
-/
namespace Go.Proofs.YtdibcamnoolnmaaGreatDoor
namespace Vp
open Go.RowKit Np Rw

def loT (nm : List UInt8) (ts : List (Tr Nd)) : List (Tr Nd) := ts.filter (fun u => decide (u.nd.name < nm))
def hiT (nm : List UInt8) (ts : List (Tr Nd)) : List (Tr Nd) := ts.filter (fun u => decide (nm < u.nd.name))
def eqT (nm : List UInt8) (ts : List (Tr Nd)) : List (Tr Nd) := ts.filter (fun u => decide (u.nd.name = nm))
def withT (nm : List UInt8) (x t : Tr Nd) : Tr Nd := objT (loT nm t.ks ++ ([nmd nm x] ++ hiT nm t.ks))
def lessT (nm : List UInt8) (t : Tr Nd) : Tr Nd := objT (loT nm t.ks ++ ([] ++ hiT nm t.ks))
theorem cut_of {nm : List UInt8} {ts : List (Tr Nd)} (h : Rise ts) : Cut nm ts (loT nm ts) (eqT nm ts) (hiT nm ts) := by
  obtain ⟨pre, mid, post, hc⟩ := cut_ex nm ts h
  have key : pre = loT nm ts ∧ mid = eqT nm ts ∧ post = hiT nm ts := by
    have e1 : ∀ (p : Tr Nd → Bool) (l : List (Tr Nd)), (∀ u ∈ l, p u = true) → l.filter p = l := fun p l h => List.filter_eq_self.2 h
    have e2 : ∀ (p : Tr Nd → Bool) (l : List (Tr Nd)), (∀ u ∈ l, p u = false) → l.filter p = [] := fun p l h => List.filter_eq_nil_iff.2 (fun u hu => by simp [h u hu])
    have hlt : ∀ {a b : List UInt8}, a < b → ¬ b < a := fun h1 h2 => List.lt_irrefl _ (List.lt_trans h1 h2)
    have hne : ∀ {a b : List UInt8}, a < b → ¬ a = b := fun h1 h2 => List.lt_irrefl _ (h2 ▸ h1)
    unfold loT eqT hiT
    rw [hc.all]
    simp only [List.filter_append]
    refine ⟨?_, ?_, ?_⟩
    · rw [e1 _ pre (fun u hu => by simpa using hc.lo u hu), e2 _ mid (fun u hu => by simp [hc.eq u hu, List.lt_irrefl]), e2 _ post (fun u hu => by simpa using hlt (hc.hi u hu))]; simp
    · rw [e2 _ pre (fun u hu => by simpa using hne (hc.lo u hu)), e1 _ mid (fun u hu => by simpa using hc.eq u hu), e2 _ post (fun u hu => by simpa using fun e => hne (hc.hi u hu) e.symm)]; simp
    · rw [e2 _ pre (fun u hu => by simpa using hlt (hc.lo u hu)), e2 _ mid (fun u hu => by simp [hc.eq u hu, List.lt_irrefl]), e1 _ post (fun u hu => by simpa using hc.hi u hu)]; simp
  obtain ⟨rfl, rfl, rfl⟩ := key
  exact hc
/-- With other parts of that name: lower, higher ones stay. -/
theorem Cut.mk' {nm : List UInt8} {pre mid post : List (Tr Nd)} (lo : ∀ u ∈ pre, u.nd.name < nm) (eq : ∀ u ∈ mid, u.nd.name = nm) (one : mid.length ≤ 1) (hi : ∀ u ∈ post, nm < u.nd.name) : Cut nm (pre ++ (mid ++ post)) pre mid post := ⟨rfl, lo, eq, one, hi⟩
theorem Val.cut {t : Tr Nd} (h : Val t) (hk : t.nd.kind = 6) (nm : List UInt8) : Cut nm t.ks (loT nm t.ks) (eqT nm t.ks) (hiT nm t.ks) := cut_of (h.named hk).1
theorem val_put {t x : Tr Nd} {nm : List UInt8} (h : Val t) (hk : t.nd.kind = 6) (hx : Val x) (hn : vld nm = true) : Val (withT nm x t) := by
  have hc := h.cut hk nm
  have hr := (h.named hk).1
  refine val_objT (fun u hu => ?_) ⟨rise_put (hc.pre_rise hr) (hc.post_rise hr) hc.lo hc.hi (by intro u hu; simp at hu; rw [hu]; rfl) (by simp), fun u hu => ?_⟩
  · rcases List.mem_append.1 hu with hu | hu
    · exact h.parts u (List.mem_filter.1 hu).1
    · rcases List.mem_append.1 hu with hu | hu
      · simp at hu; subst hu; exact ⟨okT_nmd hx.ok, by rw [rightT_nmd]; exact hx.rt⟩
      · exact h.parts u (List.mem_filter.1 hu).1
  · rcases List.mem_append.1 hu with hu | hu
    · exact (h.named hk).2 u (List.mem_filter.1 hu).1
    · rcases List.mem_append.1 hu with hu | hu
      · simp at hu; subst hu; exact hn
      · exact (h.named hk).2 u (List.mem_filter.1 hu).1
theorem val_less {t : Tr Nd} {nm : List UInt8} (h : Val t) (hk : t.nd.kind = 6) : Val (lessT nm t) := by
  have hc := h.cut hk nm
  have hr := (h.named hk).1
  refine val_objT (fun u hu => ?_) ⟨rise_put (hc.pre_rise hr) (hc.post_rise hr) hc.lo hc.hi (by simp) (by simp), fun u hu => ?_⟩
  · rcases List.mem_append.1 hu with hu | hu
    · exact h.parts u (List.mem_filter.1 hu).1
    · simp at hu; exact h.parts u (List.mem_filter.1 hu).1
  · rcases List.mem_append.1 hu with hu | hu
    · exact (h.named hk).2 u (List.mem_filter.1 hu).1
    · simp at hu; exact (h.named hk).2 u (List.mem_filter.1 hu).1
theorem with_cut {t x : Tr Nd} {nm : List UInt8} (h : Val t) (hk : t.nd.kind = 6) : Cut nm (withT nm x t).ks (loT nm t.ks) [nmd nm x] (hiT nm t.ks) :=
  Cut.mk' (h.cut hk nm).lo (by intro u hu; simp at hu; rw [hu]; rfl) (by simp) (h.cut hk nm).hi
theorem less_cut {t : Tr Nd} {nm : List UInt8} (h : Val t) (hk : t.nd.kind = 6) : Cut nm (lessT nm t).ks (loT nm t.ks) [] (hiT nm t.ks) :=
  Cut.mk' (h.cut hk nm).lo (by simp) (by simp) (h.cut hk nm).hi
/-- What is put into one that had another. -/
theorem cut_parts {nm : List UInt8} {ts pre mid post : List (Tr Nd)} (hr : Rise ts) (h : Cut nm ts pre mid post) : loT nm ts = pre ∧ eqT nm ts = mid ∧ hiT nm ts = post := by
  obtain ⟨a, b, c⟩ := (cut_of hr).uniq h
  exact ⟨a, b, c⟩
theorem less_with {t x : Tr Nd} {nm : List UInt8} (h : Val t) (hk : t.nd.kind = 6) (hx : Val x) (hn : vld nm = true) : lessT nm (withT nm x t) = lessT nm t := by
  obtain ⟨a, -, c⟩ := cut_parts ((val_put h hk hx hn).named rfl).1 (with_cut (x := x) (nm := nm) h hk)
  rw [lessT, a, c, lessT]
theorem with_with {t x y : Tr Nd} {nm : List UInt8} (h : Val t) (hk : t.nd.kind = 6) (hx : Val x) (hn : vld nm = true) : withT nm y (withT nm x t) = withT nm y t := by
  obtain ⟨a, -, c⟩ := cut_parts ((val_put h hk hx hn).named rfl).1 (with_cut (x := x) (nm := nm) h hk)
  rw [withT, a, c, withT]
theorem with_less {t y : Tr Nd} {nm : List UInt8} (h : Val t) (hk : t.nd.kind = 6) : withT nm y (lessT nm t) = withT nm y t := by
  obtain ⟨a, -, c⟩ := cut_parts ((val_less (nm := nm) h hk).named rfl).1 (less_cut (nm := nm) h hk)
  rw [withT, a, c, withT]
/-- Put as it was. -/
theorem with_own {t : Tr Nd} {nm : List UInt8} {u : Tr Nd} (h : Val t) (hk : t.nd.kind = 6) (hu : eqT nm t.ks = [u]) : withT nm (nmd [] u) t = t := by
  have hc := h.cut hk nm
  rw [hu] at hc
  have hn : u.nd.name = nm := hc.eq u (by simp)
  rw [withT, nmd_nmd, ← hn, nmd_self]
  rw [hn, ← hc.all]
  exact (h.obj hk).symm
theorem less_own {t : Tr Nd} {nm : List UInt8} (h : Val t) (hk : t.nd.kind = 6) (hu : eqT nm t.ks = []) : lessT nm t = t := by
  have hc := h.cut hk nm
  rw [hu] at hc
  rw [lessT, ← hc.all]
  exact (h.obj hk).symm
theorem eqT_with {t x : Tr Nd} {nm : List UInt8} (h : Val t) (hk : t.nd.kind = 6) (hx : Val x) (hn : vld nm = true) : eqT nm (withT nm x t).ks = [nmd nm x] :=
  (cut_parts ((val_put h hk hx hn).named rfl).1 (with_cut (x := x) (nm := nm) h hk)).2.1
theorem eqT_less {t : Tr Nd} {nm : List UInt8} (h : Val t) (hk : t.nd.kind = 6) : eqT nm (lessT nm t).ks = [] :=
  (cut_parts ((val_less (nm := nm) h hk).named rfl).1 (less_cut (nm := nm) h hk)).2.1
theorem eqT_other {t x : Tr Nd} {nm mm : List UInt8} (h : Val t) (hk : t.nd.kind = 6) (hne : mm ≠ nm) : eqT mm (withT nm x t).ks = eqT mm t.ks := by
  have hc := h.cut hk nm
  have e1 : eqT mm (eqT nm t.ks) = [] := List.filter_eq_nil_iff.2 (fun u hu => by
    have := hc.eq u hu
    simp only [this, decide_eq_true_eq]; exact fun (e : nm = mm) => hne e.symm)
  have e2 : eqT mm [nmd nm x] = [] := List.filter_eq_nil_iff.2 (fun u hu => by
    simp at hu; subst hu
    rw [nmd_name]; simpa using fun (e : nm = mm) => hne e.symm)
  have e3 : ∀ a b : List (Tr Nd), eqT mm (a ++ b) = eqT mm a ++ eqT mm b := fun a b => List.filter_append ..
  conv => rhs; rw [hc.all]
  show eqT mm (loT nm t.ks ++ ([nmd nm x] ++ hiT nm t.ks)) = _
  rw [e3, e3, e3, e3, e1, e2]
theorem eq_cases {t : Tr Nd} (h : Val t) (hk : t.nd.kind = 6) (nm : List UInt8) : eqT nm t.ks = [] ∨ ∃ u, eqT nm t.ks = [u] ∧ u ∈ t.ks := by
  have hc := h.cut hk nm
  cases he : eqT nm t.ks with
  | nil => exact .inl rfl
  | cons u l =>
    rw [he] at hc
    have : l = [] := List.eq_nil_of_length_eq_zero (by have := hc.one; simp at this; simp [this])
    subst this
    exact .inr ⟨u, rfl, by rw [hc.all]; simp⟩
theorem len_parts {t : Tr Nd} (h : Val t) (hk : t.nd.kind = 6) (nm : List UInt8) : (flat t).length = 1 + (flats (loT nm t.ks)).length + (flats (eqT nm t.ks)).length + (flats (hiT nm t.ks)).length := by
  have hc := h.cut hk nm
  rw [flat_eq]
  conv => lhs; rw [hc.all]
  rw [flats_append, flats_append]; simp; omega
theorem len_with (nm : List UInt8) (x t : Tr Nd) : (flat (withT nm x t)).length = 1 + (flats (loT nm t.ks)).length + (flat x).length + (flats (hiT nm t.ks)).length := by
  rw [withT, flat_objT, flats_append, flats_append]; simp [flat_nmd_len]; omega
theorem len_less (nm : List UInt8) (t : Tr Nd) : (flat (lessT nm t)).length = 1 + (flats (loT nm t.ks)).length + (flats (hiT nm t.ks)).length := by
  rw [lessT, flat_objT, flats_append, flats_append]; simp; omega
end Vp
end Go.Proofs.YtdibcamnoolnmaaGreatDoor

/-
  What val.Names answers.
-/
namespace Go.Proofs.YtdibcamnoolnmaaGreatDoor
open Go.RowKit Go.Shelf Np Rw Vp
attribute [local go_sem] Oper.semAt_some

/-- Between two rounds of Names. -/
def NI {L : List Nd} (w : World) (pre : List (Pt L)) (W : World) : Prop :=
  (∃ v, Boxed W w.heap.size 89 v ∧ Own stc 1 9 w.heap.size W v (pre.map fun x => x.1.2.nd.name)) ∧ Below w.heap.size w W
theorem NI.own {L : List Nd} (w : World) (B : Nat) (hB : w.heap.size ≤ B) : OwnFrom B (NI (L := L) w) := by
  intro s W W' row hs hg hr
  obtain ⟨⟨v, h1, h2⟩, h4⟩ := hs
  have hr' : ∀ r, row = some r → ∃ o : Obj, W.heap[r]? = some o ∧ o.isCells = false := fun r e => (hr r e).2
  exact ⟨⟨v, boxed_turned h1 hg hr', h2.turned hg hr'⟩, ownFrom_below (β := Unit) (Nat.le_refl _) hB () W W' row h4 hg hr⟩
theorem NI.step {L : List Nd} {w W W3 : World} {pre : List (Pt L)} {x : Pt L} {v0 : Value} {v3 : Value} (hb0 : Boxed W w.heap.size 89 v0) (hown : Own stc 1 9 w.heap.size W v0 (pre.map fun x => x.1.2.nd.name))
    (hB : Below w.heap.size w W) (h3 : Own stc 1 9 w.heap.size W3 v3 ((pre.map fun x => x.1.2.nd.name) ++ [x.1.2.nd.name])) (hg : (W.drew.alloc (.cells #[.string ⟨x.1.2.nd.name.toArray⟩] 9)).grownBy W3 v0.ownBlock) :
    Boxed W3 w.heap.size 89 v0 ∧ KeepsOthers W (W3.setCell ⟨w.heap.size, 0, none⟩ v3) ∧ Below w.heap.size W (W3.setCell ⟨w.heap.size, 0, none⟩ v3) ∧ NI w (pre ++ [x]) (W3.setCell ⟨w.heap.size, 0, none⟩ v3) := by
  have hbx := hb0.lt
  have hBs := hB.size
  have h2 : Below W.heap.size W (W.drew.alloc (.cells #[.string ⟨x.1.2.nd.name.toArray⟩] 9)) := ((Below.refl _ W).drew).alloc (Nat.le_refl _) _
  have hz2 := h2.size
  have hb2 : Boxed (W.drew.alloc (.cells #[.string ⟨x.1.2.nd.name.toArray⟩] 9)) w.heap.size 89 v0 := (h2.block _ hbx).trans hb0
  have ho2 : Own stc 1 9 w.heap.size (W.drew.alloc (.cells #[.string ⟨x.1.2.nd.name.toArray⟩] 9)) v0 (pre.map fun x => x.1.2.nd.name) := hown.below h2
  have hne : some w.heap.size ≠ v0.ownBlock := hb2.not_row (by decide) ho2
  have hb3 : Boxed W3 w.heap.size 89 v0 := hb2.kept hg hne
  have hne3 : v3.ownBlock ≠ some w.heap.size := fun e => (hb3.not_row (by decide) h3) e.symm
  have hlow : Below w.heap.size W W3 := (h2.mono hBs).trans (ho2.kept hg (by omega))
  have hset := hlow.setCell (p := ⟨w.heap.size, 0, none⟩) (Nat.le_refl _) v3
  refine ⟨hb3, ?_, hset, ⟨v3, hb3.set v3, ?_⟩, hB.trans hset⟩
  · refine ((keeps_below h2).trans (KeepsOthers.of_grownBy hg (fun j o e ho => ?_))).trans (KeepsOthers.setCell _ _ _)
    obtain ⟨g, cap, cur, hv, _, hh, _⟩ := (ho2.2).resolve_left (fun h => by rw [h.1] at e; cases e)
    rw [hv] at e
    cases e
    rw [hh] at ho
    cases ho
    rfl
  · rw [List.map_append, List.map_singleton]
    exact ownsRow_setCell_other h3 hne3 v3

end Go.Proofs.YtdibcamnoolnmaaGreatDoor
