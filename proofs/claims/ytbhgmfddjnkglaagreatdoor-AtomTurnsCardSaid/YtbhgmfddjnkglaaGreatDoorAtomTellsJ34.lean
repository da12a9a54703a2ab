/-
  Joined: AtLw.
-/
import Derived.Test.YtbhgmfddjnkglaaGreatDoorAtomTellsJ22
import Derived.Test.YtbhgmfddjnkglaaGreatDoorAtomTellsJ5
import Derived.Test.YtbhgmfddjnkglaaGreatDoorTie
import Derived.Test.YtbhgmfddjnkglaaGreatDoorCards
import Derived.ProofKit
import Derived.LaidMore
import Derived.OpenShut
import Derived.Lay
import Derived.Carry
import Derived.SevenTiedAt
import Derived.Stop.Joined
import Derived.Lib.LaidTab
import Derived.Stop.LaidErr
import Derived.Lib.LaidU8T
import Derived.PinnedBridge
import Derived.Deep.Slices
import Derived.Deep.Fields
import Derived.SizedLaws

/-
  How a statement on atoms that returns true, and leaves what lay below as it was, closes its row: the arguments read as before; the listed tables lie as they are laid.
-/
namespace Go.Proofs.YtbhgmfddjnkglaaGreatDoor
open Go.ChangeShapes Go.WideShapes Go.ChangeAt Go.RowKit Go.Deep Np

theorem ownKn : ownKnob Tryz.prog.godebug = none := by kernel_rfl
theorem laidOut : laidOutB Tryz.prog = true := by kernel_rfl

/-- What the rows list. -/
def seatLaid : List (String × DataW Unit) := [("unicode/utf8.acceptRanges", Rows.laid_unicode_utf8_acceptRanges), ("loupe/atom.lets", Rows.laid_loupe_atom_lets), ("unicode/utf8.first", Rows.laid_unicode_utf8_first)]
theorem acceptSaid : (Rows.laid_unicode_utf8_acceptRanges : DataW Unit) = Lib.acceptData := by kernel_rfl
theorem tabs_of_laid {W : World} (h : laidMetH Tryz.prog seatLaid W) : Tabs W := by
  rw [MakeChecks.laidMetH_plain _ _ _ (by kernel_rfl)] at h
  refine utf8Tabs_of_readsT (ρ := Tryz.laysValid_ren) (U8Types.of196 Tryz.laysValid) ⟨by kernel_rfl, by kernel_rfl, by kernel_rfl, by kernel_rfl, by kernel_rfl, by kernel_rfl, by kernel_rfl⟩ ?_ ?_
  · have := Lib.laidMet.reads h (.tail _ (.tail _ (.head _)))
    rw [show Rows.laid_unicode_utf8_first = Lib.firstData from Pinned.utf8First_eq] at this
    exact this
  · have := Lib.laidMet.reads h (.head _)
    rw [acceptSaid] at this
    exact this
theorem letsData : (Rows.laid_loupe_atom_lets : DataW Unit) = Lib.tabData .i64 [2, 5, 1, 3, 4, 6] := by kernel_rfl
theorem letsNamed : Tryz.prog.globalNamed "loupe/atom.lets" = some 0 := by kernel_rfl
theorem lts_of_laid {W : World} (h : laidMetH Tryz.prog seatLaid W) : Lts W := by
  rw [MakeChecks.laidMetH_plain _ _ _ (by kernel_rfl)] at h
  have h2 := laidMet.tail h
  rw [letsData] at h2
  have h3 : Lib.TabIs Tryz.prog W "loupe/atom.lets" .i64 [2, 5, 1, 3, 4, 6] := Lib.tabIs_of_head letsNamed (by kernel_rfl : _ = some 41) Tryz.underlying41 Tryz.underlying3 (by kernel_rfl) (by kernel_rfl) h2
  exact ⟨h3.cell letsNamed 0 (by decide), h3.cell letsNamed 1 (by decide), h3.cell letsNamed 2 (by decide), h3.cell letsNamed 3 (by decide), h3.cell letsNamed 4 (by decide), h3.cell letsNamed 5 (by decide)⟩
theorem laid_met (os : Go.Os) (args : Array Value) : laidMetH Tryz.prog seatLaid ((World.laidAll Tryz.prog os seatLaid).forCall (fun _ _ => 0) ⟨#[], args, []⟩).memory := by
  rw [MakeChecks.laidMetH_plain _ _ _ (by kernel_rfl)]
  exact laidMet_laidAll _ (by kernel_rfl) (by kernel_rfl)

section
variable {H : Type} {enc : TypeId × Value → H} {P : Program} {W W' : World}
/-- Arguments read as before, where nothing below has turned. -/
theorem trodAll_below (hl : laidOutB P = true) (hb : Below W.heap.size W W') : ∀ {ts : List TypeId} {vs : List Value} {ds : List (DataW H)} {ps : List MemPlace}, (∀ t ∈ ts, P.readableRec t = true ∧ t < P.types.size) →
    DataW.TrodAll enc P W 0 (fun _ => true) true ts vs ds ps → (∀ x ∈ ps, x.block < W.heap.size) → DataW.TrodAll enc P W' 0 (fun b => decide (b < W.heap.size)) true ts vs ds ps
  | [], [], [], _, _, h, _ => h
  | t :: ts, v :: vs, d :: ds, _, ht, h, hlt => by
    obtain ⟨p, q, h1, h2, rfl⟩ := h
    exact ⟨p, q, Below.trod hl (ht t (by simp)).1 (ht t (by simp)).2 h1 hb (fun x hx => hlt x (by simp [hx])), trodAll_below hl hb (fun u hu => ht u (by simp [hu])) h2 (fun x hx => hlt x (by simp [hx])), rfl⟩
  | [], [], _ :: _, _, _, h, _ => h.elim
  | [], _ :: _, _, _, _, h, _ => h.elim
  | _ :: _, [], _, _, _, h, _ => h.elim
  | _ :: _, _ :: _, [], _, _, h, _ => h.elim
/-- The end of a statement's row. -/
theorem law_post {f : Func} {s : ChangeSpec} {args : Array Value} {ds : List (DataW H)} {before : List MemPlace} {tb : TypeId} (hl : laidOutB P = true)
    (hW : DataW.Whole enc P f.params.toList s.vars false W args.toList ds [] before) (hvars : s.vars = []) (htb : P.underlying tb = some .bool) (hres : f.resultTypes = #[tb])
    (hfn : s.fn H ds = { results := [.lit (.bool true)], args := ds }) (hread : ∀ t ∈ f.params.toList, P.readableRec t = true ∧ t < P.types.size) (hb : Below W.heap.size W W') :
    s.post enc P f false true false false W args (.bool true) W' := by
  have hlt : ∀ x ∈ before, x.block < W.heap.size := fun x hx => hW.lt x hx
  have hW2 := hW
  obtain ⟨p, q, hA, hV, rfl, _, _⟩ := hW
  refine ⟨ds, [], p ++ q, [], p, q, hW2, ?_, ?_, ?_, hb.frame _, fun h => by cases h⟩
  · rw [List.append_nil, hfn, hres]
    exact trodAll_mk1 (shut_bool htb _)
  · rw [List.append_nil, hfn]
    exact trodAll_below hl hb hread hA (fun x hx => hlt x (by simp [hx]))
  · rw [hvars] at hV ⊢
    rw [List.append_nil, hfn]
    exact hV
end

end Go.Proofs.YtbhgmfddjnkglaaGreatDoor
