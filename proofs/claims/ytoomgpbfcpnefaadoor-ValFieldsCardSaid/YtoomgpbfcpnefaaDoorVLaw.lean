/-
  How a statement on values that returns true, and leaves what lay below as it was, closes its row: the arguments read as before; rows of nodes, of strings, of values are opened; the tables of UTF-8 lie as they are laid.
-/
import Derived.Test.YtoomgpbfcpnefaaDoorValLaw
import Derived.Test.YtoomgpbfcpnefaaDoorTie
import Derived.Test.YtoomgpbfcpnefaaDoorCards
import Derived.ProofKit
import Derived.LaidMore
import Derived.OpenShut
import Derived.Lay
import Derived.Carry
import Derived.SevenTiedAt
import Derived.Stop.Joined
import Derived.Lib.LaidTab
import Derived.Stop.LaidErr
import Derived.Lib.LaidU8T
import Derived.PinnedBridge
import Derived.Deep.Slices
import Derived.Deep.Fields
import Derived.SizedLaws
namespace Go.Proofs.YtoomgpbfcpnefaaDoor
open Go.ChangeShapes Go.WideShapes Go.ChangeAt Go.RowKit Go.Deep Np

theorem ownKn : ownKnob Tryd.prog.godebug = none := by kernel_rfl
theorem laidOut : laidOutB Tryd.prog = true := by kernel_rfl

/-- What the rows list. -/
def seatLaid : List (String × DataW Unit) := [("unicode/utf8.acceptRanges", Rows.laid_unicode_utf8_acceptRanges), ("unicode/utf8.first", Rows.laid_unicode_utf8_first)]
theorem acceptSaid : (Rows.laid_unicode_utf8_acceptRanges : DataW Unit) = Lib.acceptData := by kernel_rfl
theorem tabs_of_laid {W : World} (h : laidMetH Tryd.prog seatLaid W) : Tabs W := by
  rw [MakeChecks.laidMetH_plain _ _ _ (by kernel_rfl)] at h
  refine utf8Tabs_of_readsT (ρ := Tryd.laysValid_ren) (U8Types.of196 Tryd.laysValid) ⟨by kernel_rfl, by kernel_rfl, by kernel_rfl, by kernel_rfl, by kernel_rfl, by kernel_rfl, by kernel_rfl⟩ ?_ ?_
  · have := Lib.laidMet.reads h (.tail _ (.head _))
    rw [show Rows.laid_unicode_utf8_first = Lib.firstData from Pinned.utf8First_eq] at this
    exact this
  · have := Lib.laidMet.reads h (.head _)
    rw [acceptSaid] at this
    exact this
theorem laid_met (os : Os) (args : Array Value) : laidMetH Tryd.prog seatLaid ((World.laidAll Tryd.prog os seatLaid).forCall (fun _ _ => 0) ⟨#[], args, []⟩).memory := by
  rw [MakeChecks.laidMetH_plain _ _ _ (by kernel_rfl)]
  exact laidMet_laidAll _ (by kernel_rfl) (by kernel_rfl)

section
variable {H : Type} {enc : TypeId × Value → H} {P : Program} {W W' : World}
/-- Arguments read as before, where nothing below has turned. -/
theorem trodAll_below (hl : laidOutB P = true) (hb : Below W.heap.size W W') : ∀ {ts : List TypeId} {vs : List Value} {ds : List (DataW H)} {ps : List MemPlace}, (∀ t ∈ ts, P.readableRec t = true ∧ t < P.types.size) →
    DataW.TrodAll enc P W 0 (fun _ => true) true ts vs ds ps → (∀ x ∈ ps, x.block < W.heap.size) → DataW.TrodAll enc P W' 0 (fun b => decide (b < W.heap.size)) true ts vs ds ps
  | [], [], [], _, _, h, _ => h
  | t :: ts, v :: vs, d :: ds, _, ht, h, hlt => by
    obtain ⟨p, q, h1, h2, rfl⟩ := h
    exact ⟨p, q, Below.trod hl (ht t (by simp)).1 (ht t (by simp)).2 h1 hb (fun x hx => hlt x (by simp [hx])), trodAll_below hl hb (fun u hu => ht u (by simp [hu])) h2 (fun x hx => hlt x (by simp [hx])), rfl⟩
  | [], [], _ :: _, _, _, h, _ => h.elim
  | [], _ :: _, _, _, _, h, _ => h.elim
  | _ :: _, [], _, _, _, h, _ => h.elim
  | _ :: _, _ :: _, [], _, _, h, _ => h.elim
/-- The end of a statement's row. -/
theorem law_post {f : Func} {s : ChangeSpec} {args : Array Value} {ds : List (DataW H)} {before : List MemPlace} {tb : TypeId} (hl : laidOutB P = true)
    (hW : DataW.Whole enc P f.params.toList s.vars false W args.toList ds [] before) (hvars : s.vars = []) (htb : P.underlying tb = some .bool) (hres : f.resultTypes = #[tb])
    (hfn : s.fn H ds = { results := [.lit (.bool true)], args := ds }) (hread : ∀ t ∈ f.params.toList, P.readableRec t = true ∧ t < P.types.size) (hb : Below W.heap.size W W') :
    s.post enc P f false true false false W args (.bool true) W' := by
  have hlt : ∀ x ∈ before, x.block < W.heap.size := fun x hx => hW.lt x hx
  have hW2 := hW
  obtain ⟨p, q, hA, hV, rfl, _, _⟩ := hW
  refine ⟨ds, [], p ++ q, [], p, q, hW2, ?_, ?_, ?_, hb.frame _, fun h => by cases h⟩
  · rw [List.append_nil, hfn, hres]
    exact trodAll_mk1 (shut_bool htb _)
  · rw [List.append_nil, hfn]
    exact trodAll_below hl hb hread hA (fun x hx => hlt x (by simp [hx]))
  · rw [hvars] at hV ⊢
    rw [List.append_nil, hfn]
    exact hV
end

theorem list_of {α : Type} (R : Nat → α → Prop) : ∀ n, (∀ i, i < n → ∃ y, R i y) → ∃ l : List α, l.length = n ∧ ∀ i y, l[i]? = some y → R i y
  | 0, _ => ⟨[], rfl, fun i y h => by simp at h⟩
  | n + 1, h => by
    obtain ⟨l, h1, h2⟩ := list_of R n (fun i hi => h i (by omega))
    obtain ⟨y, hy⟩ := h n (by omega)
    refine ⟨l ++ [y], by simp [h1], fun i z hz => ?_⟩
    rcases Nat.lt_or_ge i l.length with hi | hi
    · rw [List.getElem?_append_left hi] at hz; exact h2 i z hz
    · rw [List.getElem?_append_right hi] at hz
      have hi0 : i - l.length = 0 := by
        rcases Nat.eq_zero_or_pos (i - l.length) with h0 | h0
        · exact h0
        · rw [List.getElem?_eq_none (by simp; omega)] at hz; cases hz
      rw [hi0] at hz
      simp at hz
      subst hz
      rw [show i = n by omega]; exact hy
section
variable {H : Type} {enc : TypeId × Value → H} {P : Program} {w : World} {base : Nat} {sp : Nat → Bool} {held : Bool}
/-- A slice whose elements read as these. -/
theorem open_rows {α : Type} {en : α → List Value} {sz : Nat} {Q : α → DataW H → Prop} {t e : TypeId} {fuel : Nat} {v : Value} {x : DataW H × List MemPlace} (ht : P.underlying t = some (.slice e)) (hc : P.cellsOf e = sz) (hp : 0 < sz) (hl : ∀ y, (en y).length = sz)
    (rd : ∀ n cs d, DataW.trod enc P w base sp held n e cs = some d → ∃ y, cs = en y ∧ Q y d.1) (h : DataW.trod enc P w base sp held fuel t [v] = some x) :
    ∃ l : List α, Row en sz w v l ∧ (x.1 = .nil ∧ l = [] ∨ ∃ ds sp', x.1 = .slice ds sp' ∧ ds.length = l.length ∧ ∀ (i : Nat) (y : α), l[i]? = some y → ∃ d ∈ ds, Q y d) := by
  rcases open_slice ht h with ⟨h1, h2⟩ | ⟨a, len, cap, m, n, D, Pl, h1, hb, hle, hm, hmm, hx, hi⟩
  · simp at h1; subst h1
    exact ⟨[], Row.nil w, .inl ⟨by rw [h2], rfl⟩⟩
  · simp at h1; subst h1
    have hlm : len ≤ m := by rw [hmm]; split <;> omega
    obtain ⟨l, hll, hR⟩ := list_of (fun i (y : α) => w.cells? base (a.add (i * sz)) sz = some (en y) ∧ Q y (D i)) len (fun i hil => by
      obtain ⟨cs', h3, h4⟩ := hi i (by omega)
      obtain ⟨y, rfl, hQ⟩ := rd n cs' _ h4
      rw [hc] at h3
      exact ⟨y, h3, hQ⟩)
    refine ⟨l, ?_, .inr ⟨(List.range len).map D, _, by rw [hx], by simp [hll], fun i y hy => ⟨D i, ?_, (hR i y hy).2⟩⟩⟩
    · refine ⟨some a, cap, by rw [hll], by rw [hll]; exact hle, hm, fun h => (by cases h), fun h0 => ?_⟩
      obtain ⟨y0, hy0⟩ : ∃ y, l[0]? = some y := ⟨_, List.getElem?_eq_getElem h0⟩
      have h5 := (World.cells?_some (hR 0 y0 hy0).1).2.2 0 hp
      rw [Nat.zero_mul] at h5
      have e0 : (a.add 0).add 0 = a := by simp [Addr.add]
      rw [e0] at h5
      obtain ⟨u0, hu0⟩ : ∃ u, (en y0)[0]? = some u := ⟨_, List.getElem?_eq_getElem (by rw [hl]; exact hp)⟩
      rw [hu0] at h5
      have hspot := World.cell?_spot h5
      have hlt := World.block_lt_of_cell? _ _ h5
      obtain ⟨g, o, s⟩ := a
      simp only at hspot hlt
      subst hspot
      refine ⟨g, o, rfl, hlt, fun k y hk j u hu => ?_⟩
      have hj : j < sz := by rw [← hl y]; exact (List.getElem?_eq_some_iff.1 hu).1
      have h6 := (World.cells?_some (hR k y hk).1).2.2 j hj
      rw [hu, add_add] at h6
      rw [Nat.add_assoc, ← h6]
      unfold Addr.add
      split
      · rename_i h7; rw [h7]; rfl
      · rfl
    · have hk := (List.getElem?_eq_some_iff.1 hy).1
      exact List.mem_map.2 ⟨i, List.mem_range.2 (by omega), rfl⟩
end
section
variable {H : Type} {enc : TypeId × Value → H} {w : World} {base : Nat} {sp : Nat → Bool} {held : Bool}
theorem rd_text : ∀ n cs (d : DataW H × List MemPlace), DataW.trod enc Tryd.prog w base sp held n 9 cs = some d → ∃ y : List UInt8, cs = stc y ∧ y.length ≤ maxLen := by
  intro n cs d h
  obtain ⟨s, h1, -, h3⟩ := DataW.trod_string Tryd.underlying9 h
  exact ⟨s.data.toList, by rw [h1, stc], by simpa using h3⟩
theorem i64_range {x : Int} (h : (Lit.int .i64 x).wf = true) : -9223372036854775808 ≤ x ∧ x ≤ 9223372036854775807 := by
  simp only [Lit.wf, IntKind.min, IntKind.max, IntKind.signed, IntKind.bits, Bool.and_eq_true, decide_eq_true_eq, if_true] at h
  omega
set_option maxRecDepth 100000 in
theorem rd_node : ∀ n cs (d : DataW H × List MemPlace), DataW.trod enc Tryd.prog w base sp held n 44 cs = some d → ∃ y : Nd, cs = ndc y ∧ True := by
  intro fuel l d hf
  obtain ⟨xs, n, -, -, hl, hx, hg⟩ := DataW.trod_struct Tryd.underlying44 hf
  rw [show Tryd.prog.cellsOf 44 = 6 by kernel_rfl] at hl
  have c3 : Tryd.prog.cellsOf 3 = 1 := by kernel_rfl
  have c9 : Tryd.prog.cellsOf 9 = 1 := by kernel_rfl
  have c4 : Tryd.prog.cellsOf 4 = 1 := by kernel_rfl
  have at' : ∀ i, (h : i < xs.length) → xs[i]? = some (xs[i]'h) := fun i h => List.getElem?_eq_getElem h
  have hx6 : xs.length = 6 := hx
  match l, hl with
  | [v0, v1, v2, v3, v4, v5], _ =>
    have g0 := (hg 0 _ rfl).trans (at' 0 (by omega))
    have g1 := (hg 1 _ rfl).trans (at' 1 (by omega))
    have g2 := (hg 2 _ rfl).trans (at' 2 (by omega))
    have g3 := (hg 3 _ rfl).trans (at' 3 (by omega))
    have g4 := (hg 4 _ rfl).trans (at' 4 (by omega))
    have g5 := (hg 5 _ rfl).trans (at' 5 (by omega))
    simp only [List.getElem_toArray, List.getElem_cons_zero, List.getElem_cons_succ, c3, c9, c4] at g0 g1 g2 g3 g4 g5
    obtain ⟨k, e0, -, -⟩ := DataW.trod_int Tryd.underlying3 g0
    obtain ⟨m, e1, -, -⟩ := DataW.trod_int Tryd.underlying3 g1
    obtain ⟨nm, e2, -, hnm⟩ := DataW.trod_string Tryd.underlying9 g2
    obtain ⟨s, e3, -, hs⟩ := DataW.trod_string Tryd.underlying9 g3
    obtain ⟨b, e4, -⟩ := DataW.trod_bool Tryd.underlying4 g4
    obtain ⟨x, e5, -, hxw⟩ := DataW.trod_int Tryd.underlying3 g5
    simp at e0 e1 e2 e3 e4 e5
    subst e0 e1 e2 e3 e4 e5
    exact ⟨⟨k, m, nm.data.toList, s.data.toList, b, x⟩, rfl, trivial⟩
set_option maxRecDepth 100000 in
theorem rd_node2 : ∀ n cs (d : DataW H × List MemPlace), DataW.trod enc Tryd.prog w base sp held n 44 cs = some d → ∃ y : Nd, cs = ndc y ∧ (y.name.length ≤ maxLen ∧ y.s.length ≤ maxLen ∧ y.many ≤ 9223372036854775807) := by
  intro fuel l d hf
  obtain ⟨xs, n, -, -, hl, hx, hg⟩ := DataW.trod_struct Tryd.underlying44 hf
  rw [show Tryd.prog.cellsOf 44 = 6 by kernel_rfl] at hl
  have c3 : Tryd.prog.cellsOf 3 = 1 := by kernel_rfl
  have c9 : Tryd.prog.cellsOf 9 = 1 := by kernel_rfl
  have c4 : Tryd.prog.cellsOf 4 = 1 := by kernel_rfl
  have at' : ∀ i, (h : i < xs.length) → xs[i]? = some (xs[i]'h) := fun i h => List.getElem?_eq_getElem h
  have hx6 : xs.length = 6 := hx
  match l, hl with
  | [v0, v1, v2, v3, v4, v5], _ =>
    have g0 := (hg 0 _ rfl).trans (at' 0 (by omega))
    have g1 := (hg 1 _ rfl).trans (at' 1 (by omega))
    have g2 := (hg 2 _ rfl).trans (at' 2 (by omega))
    have g3 := (hg 3 _ rfl).trans (at' 3 (by omega))
    have g4 := (hg 4 _ rfl).trans (at' 4 (by omega))
    have g5 := (hg 5 _ rfl).trans (at' 5 (by omega))
    simp only [List.getElem_toArray, List.getElem_cons_zero, List.getElem_cons_succ, c3, c9, c4] at g0 g1 g2 g3 g4 g5
    obtain ⟨k, e0, -, -⟩ := DataW.trod_int Tryd.underlying3 g0
    obtain ⟨m, e1, -, hmw⟩ := DataW.trod_int Tryd.underlying3 g1
    obtain ⟨nm, e2, -, hnm⟩ := DataW.trod_string Tryd.underlying9 g2
    obtain ⟨s, e3, -, hs⟩ := DataW.trod_string Tryd.underlying9 g3
    obtain ⟨b, e4, -⟩ := DataW.trod_bool Tryd.underlying4 g4
    obtain ⟨x, e5, -, hxw⟩ := DataW.trod_int Tryd.underlying3 g5
    simp at e0 e1 e2 e3 e4 e5
    subst e0 e1 e2 e3 e4 e5
    exact ⟨⟨k, m, nm.data.toList, s.data.toList, b, x⟩, rfl, by simpa using hnm, by simpa using hs, (i64_range hmw).2⟩
theorem cells_text : Tryd.prog.cellsOf 9 = 1 := by kernel_rfl
theorem cells_node : Tryd.prog.cellsOf 44 = 6 := by kernel_rfl
theorem cells_val : Tryd.prog.cellsOf 23 = 1 := by kernel_rfl
set_option maxRecDepth 100000 in
/-- A slice of strings. -/
theorem open_texts {r : Reach} {b0 : Nat} {v : Value} {d : DataW H} {ps : List MemPlace} (hv : Value.okWide Tryd.prog w r b0 32 v) (h : DataW.Trod enc Tryd.prog w base sp held 32 v d ps) :
    ∃ l : List (List UInt8), Sts w v l ∧ ∀ s ∈ l, s.length ≤ maxLen := by
  obtain ⟨a, len, cap, rfl⟩ := okWide_slice Tryd.underlying32 hv
  obtain ⟨fuel, hf⟩ := h
  obtain ⟨l, h1, h2⟩ := open_rows (Q := fun y _ => y.length ≤ maxLen) Tryd.underlying32 cells_text (by decide) stc_len (fun n cs d h => rd_text n cs d h) hf
  refine ⟨l, h1, fun s hs => ?_⟩
  rcases h2 with ⟨-, rfl⟩ | ⟨ds, sp', -, -, h3⟩
  · cases hs
  · obtain ⟨i, hi, rfl⟩ := List.getElem_of_mem hs
    obtain ⟨d, -, hq⟩ := h3 i _ (List.getElem?_eq_getElem hi)
    exact hq
set_option maxRecDepth 100000 in
/-- A row of nodes. -/
theorem open_val {r : Reach} {b0 : Nat} {v : Value} {d : DataW H} {ps : List MemPlace} (hv : Value.okWide Tryd.prog w r b0 23 v) (h : DataW.Trod enc Tryd.prog w base sp held 23 v d ps) :
    ∃ l : List Nd, Nds w v l := by
  obtain ⟨a, len, cap, rfl⟩ := okWide_slice Tryd.underlying23 hv
  obtain ⟨fuel, hf⟩ := h
  obtain ⟨l, h1, -⟩ := open_rows (Q := fun _ _ => True) Tryd.underlying23 cells_node (by decide) ndc_len (fun n cs d h => rd_node n cs d h) hf
  exact ⟨l, h1⟩
set_option maxRecDepth 100000 in
/-- A row of nodes, and what is said of its texts and numbers. -/
theorem open_val2 {r : Reach} {b0 : Nat} {v : Value} {d : DataW H} {ps : List MemPlace} (hv : Value.okWide Tryd.prog w r b0 23 v) (h : DataW.Trod enc Tryd.prog w base sp held 23 v d ps) :
    ∃ l : List Nd, Nds w v l ∧ Short l ∧ Fits l := by
  obtain ⟨a, len, cap, rfl⟩ := okWide_slice Tryd.underlying23 hv
  obtain ⟨fuel, hf⟩ := h
  obtain ⟨l, h1, h2⟩ := open_rows (Q := fun (y : Nd) _ => y.name.length ≤ maxLen ∧ y.s.length ≤ maxLen ∧ y.many ≤ 9223372036854775807) Tryd.underlying23 cells_node (by decide) ndc_len (fun n cs d h => rd_node2 n cs d h) hf
  have key : ∀ y ∈ l, y.name.length ≤ maxLen ∧ y.s.length ≤ maxLen ∧ y.many ≤ 9223372036854775807 := by
    intro y hy
    rcases h2 with ⟨-, rfl⟩ | ⟨ds, sp', -, -, h3⟩
    · cases hy
    · obtain ⟨i, hi, rfl⟩ := List.getElem_of_mem hy
      obtain ⟨d, -, hq⟩ := h3 i _ (List.getElem?_eq_getElem hi)
      exact hq
  exact ⟨l, h1, fun y hy => ⟨(key y hy).1, (key y hy).2.1⟩, fun y hy => (key y hy).2.2⟩
/-- How long a slice of rows may be, and each of its rows. -/
def Sz (d : DataW H) : Prop := ∀ elems spare, d = .slice elems spare → elems.length ≤ 140737488355328 ∧ ∀ e' sp', DataW.slice e' sp' ∈ elems → e'.length ≤ 140737488355328
def QV (w : World) (x : Value) (d : DataW H) : Prop := ∃ l, Nds w x l ∧ (d = .nil ∧ l = [] ∨ ∃ ds sp', d = .slice ds sp' ∧ ds.length = l.length)
set_option maxRecDepth 100000 in
theorem rd_val : ∀ n cs (d : DataW H × List MemPlace), DataW.trod enc Tryd.prog w base sp held n 23 cs = some d → ∃ y : Value, cs = [y] ∧ QV w y d.1 := by
  intro n cs d h
  have hc : ∃ y, cs = [y] := by
    rcases DataW.trod_slice Tryd.underlying23 h with ⟨h1, -⟩ | ⟨a, len, cap, _, _, _, _, h1, _⟩
    · exact ⟨_, h1⟩
    · exact ⟨_, h1⟩
  obtain ⟨y, rfl⟩ := hc
  obtain ⟨l, h1, h2⟩ := open_rows (Q := fun _ _ => True) Tryd.underlying23 cells_node (by decide) ndc_len (fun n cs d h => rd_node n cs d h) h
  refine ⟨y, rfl, l, h1, ?_⟩
  rcases h2 with ⟨h2, h3⟩ | ⟨ds, sp', h2, h3, -⟩
  · exact .inl ⟨h2, h3⟩
  · exact .inr ⟨ds, sp', h2, h3⟩
set_option maxRecDepth 100000 in
theorem open_vals {r : Reach} {b0 : Nat} {v : Value} {d : DataW H} {ps : List MemPlace} (hv : Value.okWide Tryd.prog w r b0 29 v) (h : DataW.Trod enc Tryd.prog w base sp held 29 v d ps) (hsz : Sz d) :
    ∃ L : List (List Nd), Vls w v L ∧ L.length ≤ 140737488355328 ∧ ∀ l ∈ L, l.length ≤ 140737488355328 := by
  obtain ⟨a, len, cap, rfl⟩ := okWide_slice Tryd.underlying29 hv
  obtain ⟨fuel, hf⟩ := h
  obtain ⟨us, h1, h2⟩ := open_rows (Q := QV w) Tryd.underlying29 cells_val (by decide) vac_len (fun n cs d h => rd_val n cs d h) hf
  rcases h2 with ⟨h2, h3⟩ | ⟨ds, sp', h2, h3, h4⟩
  · subst h3
    exact ⟨[], ⟨[], rfl, h1, fun k x l hx => by simp at hx⟩, by simp, fun l hl => by cases hl⟩
  · obtain ⟨h5, h6⟩ := hsz ds sp' h2
    obtain ⟨L, h7, h8⟩ := list_of (fun (i : Nat) (l : List Nd) => ∀ x, us[i]? = some x → Nds w x l ∧ l.length ≤ 140737488355328) us.length (fun i hi => by
      obtain ⟨dd, hd, l, hl, hq⟩ := h4 i _ (List.getElem?_eq_getElem hi)
      refine ⟨l, fun x hx => ?_⟩
      rw [List.getElem?_eq_getElem hi] at hx
      injection hx with hx
      subst hx
      refine ⟨hl, ?_⟩
      rcases hq with ⟨-, rfl⟩ | ⟨ds', sp'', rfl, hlen⟩
      · simp
      · rw [← hlen]; exact h6 _ _ hd)
    refine ⟨L, ⟨us, h7.symm, h1, fun k x l hx hk => (h8 k l hk x hx).1⟩, by rw [h7, ← h3]; exact h5, fun l hl => ?_⟩
    obtain ⟨i, hi, rfl⟩ := List.getElem_of_mem hl
    exact (h8 i _ (List.getElem?_eq_getElem hi) _ (List.getElem?_eq_getElem (by rw [← h7]; exact hi))).2
theorem weightsAll_mem {P : Program} {e : TypeId} : ∀ {l : List (DataW H)} {d : DataW H}, d ∈ l → ∀ n ∈ d.weights P e, n ∈ DataW.weightsAll P e l
  | d' :: r, d, hd, n, hn => by
    simp only [DataW.weightsAll, List.mem_append]
    rcases List.mem_cons.1 hd with rfl | h
    · exact Or.inl hn
    · exact Or.inr (weightsAll_mem h n hn)
theorem sized_inner {P : Program} {ts : List TypeId} {ds : List (DataW H)} (h : (DataW.weightsEach P ts ds).all (· ≤ reachBytes) = true) {j : Nat} {t e q : TypeId} {elems spare e' sp' : List (DataW H)}
    (ht : ts[j]? = some t) (hd : ds[j]? = some (.slice elems spare)) (hu : P.underlying t = some (.slice e)) (hu2 : P.underlying e = some (.slice q)) (hx : DataW.slice e' sp' ∈ elems) : (e'.length + sp'.length) * P.bytesOf q ≤ reachBytes := by
  refine of_decide_eq_true (List.all_eq_true.1 h _ (DataW.weights_mem_each ht hd _ ?_))
  simp only [DataW.weights, hu, List.mem_cons, List.mem_append]
  exact Or.inr (Or.inl (weightsAll_mem hx _ (by simp [DataW.weights, hu2])))
set_option maxRecDepth 100000 in
theorem vals_sized {ts : List TypeId} {ds : List (DataW H)} (h : (DataW.weightsEach Tryd.prog ts ds).all (· ≤ reachBytes) = true) {j : Nat} {d : DataW H} (ht : ts[j]? = some 29) (hd : ds[j]? = some d) : Sz d := by
  intro elems spare he
  subst he
  have h1 := sized_slice h ht hd Tryd.underlying29
  have b1 : Tryd.prog.bytesOf 23 = 24 := by kernel_rfl
  have b2 : Tryd.prog.bytesOf 44 = 64 := by kernel_rfl
  have hr : reachBytes = 140737488351232 := rfl
  rw [b1, hr] at h1
  refine ⟨by omega, fun e' sp' hx => ?_⟩
  have h2 := sized_inner h ht hd Tryd.underlying29 Tryd.underlying23 hx
  rw [b2, hr] at h2
  omega
set_option maxRecDepth 100000 in
/-- Two texts. -/
theorem open_pair {r : Reach} {b0 : Nat} {v : Value} {d : DataW H} {ps : List MemPlace} (hv : Value.okWide Tryd.prog w r b0 50 v) (h : DataW.Trod enc Tryd.prog w base sp held 50 v d ps) :
    ∃ s u : ByteArray, v = .agg #[.string s, .string u] ∧ s.size ≤ maxLen ∧ u.size ≤ maxLen := by
  simp only [Value.okWide, Tryd.underlying50] at hv
  obtain ⟨⟨l⟩, rfl, hl, -⟩ := hv
  rw [show Tryd.prog.cellsOf 50 = 2 by kernel_rfl] at hl
  obtain ⟨fuel, hf⟩ := h
  obtain ⟨xs, n, -, -, -, hx, hg⟩ := DataW.trod_array Tryd.underlying50 hf
  match l, hl with
  | [v0, v1], _ =>
    have g0 := (hg 0 (by decide)).trans (List.getElem?_eq_getElem (by rw [hx]; decide))
    have g1 := (hg 1 (by decide)).trans (List.getElem?_eq_getElem (by rw [hx]; decide))
    simp only [cells_text] at g0 g1
    obtain ⟨s, e0, -, w0⟩ := DataW.trod_string Tryd.underlying9 g0
    obtain ⟨u, e1, -, w1⟩ := DataW.trod_string Tryd.underlying9 g1
    simp [Value.cells] at e0 e1
    subst e0 e1
    exact ⟨s, u, rfl, w0, w1⟩
end
end Go.Proofs.YtoomgpbfcpnefaaDoor
