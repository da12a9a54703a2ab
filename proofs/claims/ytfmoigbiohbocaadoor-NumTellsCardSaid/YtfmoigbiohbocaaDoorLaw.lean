/-
  How a statement that returns true, and leaves what lay below as it was, closes its row: the arguments read as before, the node is opened to its six fields, the table of powers of ten lies as it is laid.
-/
import Derived.Test.YtfmoigbiohbocaaDoorNumW8
import Derived.Test.YtfmoigbiohbocaaDoorTie
import Derived.Test.YtfmoigbiohbocaaDoorCards
import Derived.ProofKit
import Derived.LaidMore
import Derived.OpenShut
import Derived.Lay
import Derived.Carry
import Derived.SevenTiedAt
import Derived.Stop.Joined
import Derived.Lib.LaidTab
import Derived.Stop.LaidErr
namespace Go.Proofs.YtfmoigbiohbocaaDoor
open Go.ChangeShapes Go.WideShapes Go.ChangeAt Go.RowKit

theorem own : ownKnob Tryd.prog.godebug = none := by kernel_rfl
theorem laidOut : laidOutB Tryd.prog = true := by kernel_rfl

theorem i64_range {x : Int} (h : (Lit.int .i64 x).wf = true) : -9223372036854775808 ≤ x ∧ x ≤ 9223372036854775807 := by
  simp only [Lit.wf, IntKind.min, IntKind.max, IntKind.signed, IntKind.bits, Bool.and_eq_true, decide_eq_true_eq, if_true] at h
  omega
theorem i32_range {x : Int} (h : (Lit.int .i32 x).wf = true) : -2147483648 ≤ x ∧ x ≤ 2147483647 := by
  simp only [Lit.wf, IntKind.min, IntKind.max, IntKind.signed, IntKind.bits, Bool.and_eq_true, decide_eq_true_eq, if_true] at h
  omega

theorem u8_range {x : Int} (h : (Lit.int .u8 x).wf = true) : 0 ≤ x ∧ x ≤ 255 := by
  simp only [Lit.wf, IntKind.min, IntKind.max, IntKind.signed, IntKind.bits, Bool.and_eq_true, decide_eq_true_eq, Bool.false_eq_true, if_false] at h
  omega

/-- What the rows list. -/
def seatLaid : List (String × DataW Unit) := [("math/bits.deBruijn32tab", Rows.laid_math_bits_deBruijn32tab), ("math/bits.deBruijn64tab", Rows.laid_math_bits_deBruijn64tab), ("internal/strconv.uint64pow10", Rows.laid_internal_strconv_uint64pow10), ("unicode/utf8.acceptRanges", Rows.laid_unicode_utf8_acceptRanges), ("unicode/utf8.first", Rows.laid_unicode_utf8_first)]

theorem powData : (Rows.laid_internal_strconv_uint64pow10 : DataW Unit) = Lib.tabData .u64 Lib.pow10Tab := by kernel_rfl
theorem powTab_of_laid {W : World} (h : laidMetH Tryd.prog seatLaid W) : PowTab W := by
  rw [MakeChecks.laidMetH_plain _ _ _ (by kernel_rfl)] at h
  have h2 := laidMet.tail (laidMet.tail h)
  rw [powData] at h2
  exact Lib.tabIs_of_head powTab (by kernel_rfl : _ = some 112) Tryd.underlying112 Tryd.underlying91 (by kernel_rfl) (by kernel_rfl) h2
theorem laid_met (os : Os) (args : Array Value) : laidMetH Tryd.prog seatLaid ((World.laidAll Tryd.prog os seatLaid).forCall (fun _ _ => 0) ⟨#[], args, []⟩).memory := by
  rw [MakeChecks.laidMetH_plain _ _ _ (by kernel_rfl)]
  exact laidMet_laidAll _ (by kernel_rfl) (by kernel_rfl)

section
variable {H : Type} {enc : TypeId × Value → H} {P : Program} {W W' : World}
/-- Arguments read as before, where nothing below has turned. -/
theorem trodAll_below (hl : laidOutB P = true) (hb : Below W.heap.size W W') : ∀ {ts : List TypeId} {vs : List Value} {ds : List (DataW H)} {ps : List MemPlace}, (∀ t ∈ ts, P.readableRec t = true ∧ t < P.types.size) →
    DataW.TrodAll enc P W 0 (fun _ => true) true ts vs ds ps → (∀ x ∈ ps, x.block < W.heap.size) → DataW.TrodAll enc P W' 0 (fun b => decide (b < W.heap.size)) true ts vs ds ps
  | [], [], [], _, _, h, _ => h
  | t :: ts, v :: vs, d :: ds, _, ht, h, hlt => by
    obtain ⟨p, q, h1, h2, rfl⟩ := h
    exact ⟨p, q, Below.trod hl (ht t (by simp)).1 (ht t (by simp)).2 h1 hb (fun x hx => hlt x (by simp [hx])), trodAll_below hl hb (fun u hu => ht u (by simp [hu])) h2 (fun x hx => hlt x (by simp [hx])), rfl⟩
  | [], [], _ :: _, _, _, h, _ => h.elim
  | [], _ :: _, _, _, _, h, _ => h.elim
  | _ :: _, [], _, _, _, h, _ => h.elim
  | _ :: _, _ :: _, [], _, _, h, _ => h.elim
/-- The end of a statement's row. -/
theorem law_post {f : Func} {s : ChangeSpec} {args : Array Value} {ds : List (DataW H)} {before : List MemPlace} {tb : TypeId} (hl : laidOutB P = true)
    (hW : DataW.Whole enc P f.params.toList s.vars false W args.toList ds [] before) (hvars : s.vars = []) (htb : P.underlying tb = some .bool) (hres : f.resultTypes = #[tb])
    (hfn : s.fn H ds = { results := [.lit (.bool true)], args := ds }) (hread : ∀ t ∈ f.params.toList, P.readableRec t = true ∧ t < P.types.size) (hb : Below W.heap.size W W') :
    s.post enc P f false true false false W args (.bool true) W' := by
  have hlt : ∀ x ∈ before, x.block < W.heap.size := fun x hx => hW.lt x hx
  have hW2 := hW
  obtain ⟨p, q, hA, hV, rfl, _, _⟩ := hW
  refine ⟨ds, [], p ++ q, [], p, q, hW2, ?_, ?_, ?_, hb.frame _, fun h => by cases h⟩
  · rw [List.append_nil, hfn, hres]
    exact trodAll_mk1 (shut_bool htb _)
  · rw [List.append_nil, hfn]
    exact trodAll_below hl hb hread hA (fun x hx => hlt x (by simp [hx]))
  · rw [hvars] at hV ⊢
    rw [List.append_nil, hfn]
    exact hV
end

set_option maxRecDepth 100000 in
/-- A node's value, by its six fields. -/
theorem open_node {H : Type} {enc : TypeId × Value → H} {w : World} {r : Reach} {b0 base : Nat} {sp : Nat → Bool} {held : Bool} {v : Value} {d : DataW H} {ps : List MemPlace}
    (hv : Value.okWide Tryd.prog w r b0 23 v) (h : DataW.Trod enc Tryd.prog w base sp held 23 v d ps) :
    ∃ (k m : Int) (nm s : ByteArray) (g : Bool) (x : Int), v = .agg #[.int .i64 k, .int .i64 m, .string nm, .string s, .bool g, .int .i64 x] ∧ nm.size ≤ maxLen ∧ s.size ≤ maxLen ∧ (Lit.int .i64 x).wf = true := by
  obtain ⟨⟨l⟩, rfl, hl⟩ := okWide_struct Tryd.underlying23 hv
  rw [show Tryd.prog.cellsOf 23 = 6 by kernel_rfl] at hl
  have c3 : Tryd.prog.cellsOf 3 = 1 := by kernel_rfl
  have c9 : Tryd.prog.cellsOf 9 = 1 := by kernel_rfl
  have c4 : Tryd.prog.cellsOf 4 = 1 := by kernel_rfl
  obtain ⟨fuel, hf⟩ := h
  obtain ⟨xs, n, -, -, -, hx, hg⟩ := DataW.trod_struct Tryd.underlying23 hf
  have at' : ∀ i, (h : i < xs.length) → xs[i]? = some (xs[i]'h) := fun i h => List.getElem?_eq_getElem h
  have hx6 : xs.length = 6 := hx
  match l, hl with
  | [v0, v1, v2, v3, v4, v5], _ =>
    have g0 := (hg 0 _ rfl).trans (at' 0 (by omega))
    have g1 := (hg 1 _ rfl).trans (at' 1 (by omega))
    have g2 := (hg 2 _ rfl).trans (at' 2 (by omega))
    have g3 := (hg 3 _ rfl).trans (at' 3 (by omega))
    have g4 := (hg 4 _ rfl).trans (at' 4 (by omega))
    have g5 := (hg 5 _ rfl).trans (at' 5 (by omega))
    simp only [List.getElem_toArray, List.getElem_cons_zero, List.getElem_cons_succ, c3, c9, c4] at g0 g1 g2 g3 g4 g5
    obtain ⟨k, e0, -, -⟩ := DataW.trod_int Tryd.underlying3 g0
    obtain ⟨m, e1, -, -⟩ := DataW.trod_int Tryd.underlying3 g1
    obtain ⟨nm, e2, -, hnm⟩ := DataW.trod_string Tryd.underlying9 g2
    obtain ⟨s, e3, -, hs⟩ := DataW.trod_string Tryd.underlying9 g3
    obtain ⟨b, e4, -⟩ := DataW.trod_bool Tryd.underlying4 g4
    obtain ⟨x, e5, -, hxw⟩ := DataW.trod_int Tryd.underlying3 g5
    simp [Value.cells] at e0 e1 e2 e3 e4 e5
    subst e0 e1 e2 e3 e4 e5
    exact ⟨k, m, nm, s, b, x, rfl, hnm, hs, hxw⟩

set_option maxRecDepth 100000 in
/-- Two small numbers. -/
theorem open_two {H : Type} {enc : TypeId × Value → H} {w : World} {r : Reach} {b0 base : Nat} {sp : Nat → Bool} {held : Bool} {v : Value} {d : DataW H} {ps : List MemPlace}
    (hv : Value.okWide Tryd.prog w r b0 38 v) (h : DataW.Trod enc Tryd.prog w base sp held 38 v d ps) :
    ∃ u v' : Int, v = .agg #[.int .u8 u, .int .u8 v'] ∧ (0 ≤ u ∧ u ≤ 255) ∧ (0 ≤ v' ∧ v' ≤ 255) := by
  simp only [Value.okWide, Tryd.underlying38] at hv
  obtain ⟨⟨l⟩, rfl, hl, -⟩ := hv
  rw [show Tryd.prog.cellsOf 38 = 2 by kernel_rfl] at hl
  have c5 : Tryd.prog.cellsOf 5 = 1 := by kernel_rfl
  obtain ⟨fuel, hf⟩ := h
  obtain ⟨xs, n, -, -, -, hx, hg⟩ := DataW.trod_array Tryd.underlying38 hf
  match l, hl with
  | [v0, v1], _ =>
    have g0 := (hg 0 (by decide)).trans (List.getElem?_eq_getElem (by rw [hx]; decide))
    have g1 := (hg 1 (by decide)).trans (List.getElem?_eq_getElem (by rw [hx]; decide))
    simp only [c5] at g0 g1
    obtain ⟨k, e0, -, w0⟩ := DataW.trod_int Tryd.underlying5 g0
    obtain ⟨m, e1, -, w1⟩ := DataW.trod_int Tryd.underlying5 g1
    simp [Value.cells] at e0 e1
    subst e0 e1
    exact ⟨k, m, rfl, u8_range w0, u8_range w1⟩

end Go.Proofs.YtfmoigbiohbocaaDoor
