/-
  Joined: BackP, RefW7, PutP, ValW8, AliveP.
-/
import Derived.Test.YtdgcdemihalefaaGreatDoorEvalDelsJ2
import Derived.Test.YtdgcdemihalefaaGreatDoorEvalDelsJ8
import Derived.Test.YtdgcdemihalefaaGreatDoorRefW6

/-
  Plain words: a list's parts are what it was made of; an object, made of its names and parts, is it; parts are right, and less deep. No program stands here.
-/
namespace Go.Proofs.YtdgcdemihalefaaGreatDoor
namespace Vp
open Go.RowKit Np Rw

end Vp
end Go.Proofs.YtdgcdemihalefaaGreatDoor

/-
  What the document's own answers are: own, Parts, Names, Depth.
-/
namespace Go.Proofs.YtdgcdemihalefaaGreatDoor
open Go.RowKit Np Rw Vp


theorem Elems.aside {base : Nat} {W W' : World} {v : Value} {xs zs : List (Option Addr × Nat × Nat)} {L : List (List Nd)} (h : Elems base W zs L) (hv : Own slc 1 35 base W v xs) (hg : W.grownBy W' v.ownBlock) : Elems base W' zs L :=
  ⟨h.1, fun k z l hz hl => Own.aside (h.2 k z l hz hl) hv (by decide) hg⟩

end Go.Proofs.YtdgcdemihalefaaGreatDoor

/-
  Plain words: an object with a part of a name, and without it. No program stands here.
-/
namespace Go.Proofs.YtdgcdemihalefaaGreatDoor
namespace Vp
open Go.RowKit Np Rw

def loT (nm : List UInt8) (ts : List (Tr Nd)) : List (Tr Nd) := ts.filter (fun u => decide (u.nd.name < nm))
def hiT (nm : List UInt8) (ts : List (Tr Nd)) : List (Tr Nd) := ts.filter (fun u => decide (nm < u.nd.name))
def eqT (nm : List UInt8) (ts : List (Tr Nd)) : List (Tr Nd) := ts.filter (fun u => decide (u.nd.name = nm))
theorem cut_of {nm : List UInt8} {ts : List (Tr Nd)} (h : Rise ts) : Cut nm ts (loT nm ts) (eqT nm ts) (hiT nm ts) := by
  obtain ⟨pre, mid, post, hc⟩ := cut_ex nm ts h
  have key : pre = loT nm ts ∧ mid = eqT nm ts ∧ post = hiT nm ts := by
    have e1 : ∀ (p : Tr Nd → Bool) (l : List (Tr Nd)), (∀ u ∈ l, p u = true) → l.filter p = l := fun p l h => List.filter_eq_self.2 h
    have e2 : ∀ (p : Tr Nd → Bool) (l : List (Tr Nd)), (∀ u ∈ l, p u = false) → l.filter p = [] := fun p l h => List.filter_eq_nil_iff.2 (fun u hu => by simp [h u hu])
    have hlt : ∀ {a b : List UInt8}, a < b → ¬ b < a := fun h1 h2 => List.lt_irrefl _ (List.lt_trans h1 h2)
    have hne : ∀ {a b : List UInt8}, a < b → ¬ a = b := fun h1 h2 => List.lt_irrefl _ (h2 ▸ h1)
    unfold loT eqT hiT
    rw [hc.all]
    simp only [List.filter_append]
    refine ⟨?_, ?_, ?_⟩
    · rw [e1 _ pre (fun u hu => by simpa using hc.lo u hu), e2 _ mid (fun u hu => by simp [hc.eq u hu, List.lt_irrefl]), e2 _ post (fun u hu => by simpa using hlt (hc.hi u hu))]; simp
    · rw [e2 _ pre (fun u hu => by simpa using hne (hc.lo u hu)), e1 _ mid (fun u hu => by simpa using hc.eq u hu), e2 _ post (fun u hu => by simpa using fun e => hne (hc.hi u hu) e.symm)]; simp
    · rw [e2 _ pre (fun u hu => by simpa using hlt (hc.lo u hu)), e2 _ mid (fun u hu => by simp [hc.eq u hu, List.lt_irrefl]), e1 _ post (fun u hu => by simpa using hc.hi u hu)]; simp
  obtain ⟨rfl, rfl, rfl⟩ := key
  exact hc
/-- With other parts of that name: lower, higher ones stay. -/
theorem Cut.mk' {nm : List UInt8} {pre mid post : List (Tr Nd)} (lo : ∀ u ∈ pre, u.nd.name < nm) (eq : ∀ u ∈ mid, u.nd.name = nm) (one : mid.length ≤ 1) (hi : ∀ u ∈ post, nm < u.nd.name) : Cut nm (pre ++ (mid ++ post)) pre mid post := ⟨rfl, lo, eq, one, hi⟩
theorem Val.cut {t : Tr Nd} (h : Val t) (hk : t.nd.kind = 6) (nm : List UInt8) : Cut nm t.ks (loT nm t.ks) (eqT nm t.ks) (hiT nm t.ks) := cut_of (h.named hk).1
end Vp
end Go.Proofs.YtdgcdemihalefaaGreatDoor

/-
  What val.Names answers.
-/
namespace Go.Proofs.YtdgcdemihalefaaGreatDoor
open Go.RowKit Go.Shelf Np Rw Vp
attribute [local go_sem] Oper.semAt_some

/-- Between two rounds of Names. -/
def NI {L : List Nd} (w : World) (pre : List (Pt L)) (W : World) : Prop :=
  (∃ v, Boxed W w.heap.size 74 v ∧ Own stc 1 9 w.heap.size W v (pre.map fun x => x.1.2.nd.name)) ∧ Below w.heap.size w W
theorem NI.own {L : List Nd} (w : World) (B : Nat) (hB : w.heap.size ≤ B) : OwnFrom B (NI (L := L) w) := by
  intro s W W' row hs hg hr
  obtain ⟨⟨v, h1, h2⟩, h4⟩ := hs
  have hr' : ∀ r, row = some r → ∃ o : Obj, W.heap[r]? = some o ∧ o.isCells = false := fun r e => (hr r e).2
  exact ⟨⟨v, boxed_turned h1 hg hr', h2.turned hg hr'⟩, ownFrom_below (β := Unit) (Nat.le_refl _) hB () W W' row h4 hg hr⟩
theorem NI.step {L : List Nd} {w W W3 : World} {pre : List (Pt L)} {x : Pt L} {v0 : Value} {v3 : Value} (hb0 : Boxed W w.heap.size 74 v0) (hown : Own stc 1 9 w.heap.size W v0 (pre.map fun x => x.1.2.nd.name))
    (hB : Below w.heap.size w W) (h3 : Own stc 1 9 w.heap.size W3 v3 ((pre.map fun x => x.1.2.nd.name) ++ [x.1.2.nd.name])) (hg : (W.drew.alloc (.cells #[.string ⟨x.1.2.nd.name.toArray⟩] 9)).grownBy W3 v0.ownBlock) :
    Boxed W3 w.heap.size 74 v0 ∧ KeepsOthers W (W3.setCell ⟨w.heap.size, 0, none⟩ v3) ∧ Below w.heap.size W (W3.setCell ⟨w.heap.size, 0, none⟩ v3) ∧ NI w (pre ++ [x]) (W3.setCell ⟨w.heap.size, 0, none⟩ v3) := by
  have hbx := hb0.lt
  have hBs := hB.size
  have h2 : Below W.heap.size W (W.drew.alloc (.cells #[.string ⟨x.1.2.nd.name.toArray⟩] 9)) := ((Below.refl _ W).drew).alloc (Nat.le_refl _) _
  have hz2 := h2.size
  have hb2 : Boxed (W.drew.alloc (.cells #[.string ⟨x.1.2.nd.name.toArray⟩] 9)) w.heap.size 74 v0 := (h2.block _ hbx).trans hb0
  have ho2 : Own stc 1 9 w.heap.size (W.drew.alloc (.cells #[.string ⟨x.1.2.nd.name.toArray⟩] 9)) v0 (pre.map fun x => x.1.2.nd.name) := hown.below h2
  have hne : some w.heap.size ≠ v0.ownBlock := hb2.not_row (by decide) ho2
  have hb3 : Boxed W3 w.heap.size 74 v0 := hb2.kept hg hne
  have hne3 : v3.ownBlock ≠ some w.heap.size := fun e => (hb3.not_row (by decide) h3) e.symm
  have hlow : Below w.heap.size W W3 := (h2.mono hBs).trans (ho2.kept hg (by omega))
  have hset := hlow.setCell (p := ⟨w.heap.size, 0, none⟩) (Nat.le_refl _) v3
  refine ⟨hb3, ?_, hset, ⟨v3, hb3.set v3, ?_⟩, hB.trans hset⟩
  · refine ((keeps_below h2).trans (KeepsOthers.of_grownBy hg (fun j o e ho => ?_))).trans (KeepsOthers.setCell _ _ _)
    obtain ⟨g, cap, cur, hv, _, hh, _⟩ := (ho2.2).resolve_left (fun h => by rw [h.1] at e; cases e)
    rw [hv] at e
    cases e
    rw [hh] at ho
    cases ho
    rfl
  · rw [List.map_append, List.map_singleton]
    exact ownsRow_setCell_other h3 hne3 v3

end Go.Proofs.YtdgcdemihalefaaGreatDoor

/-
  Plain words: the values of the live question. No program stands here.
-/
namespace Go.Proofs.YtdgcdemihalefaaGreatDoor
open Go.RowKit Np Rw Vp

end Go.Proofs.YtdgcdemihalefaaGreatDoor
