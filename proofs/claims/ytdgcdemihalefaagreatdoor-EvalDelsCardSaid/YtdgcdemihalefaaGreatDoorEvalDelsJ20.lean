/-
  Joined: VOpen, PWOpen, EvalDelsCard.
-/
import Derived.Test.YtdgcdemihalefaaGreatDoorEvalDelsJ8
import Derived.ProofKit
import Derived.LaidMore
import Derived.OpenShut
import Derived.Lay
import Derived.Carry
import Derived.SevenTiedAt
import Derived.Stop.Joined
import Derived.Deep.Slices
import Derived.Deep.Fields
import Derived.Test.YtdgcdemihalefaaGreatDoorEvalDelsJ19
import Derived.SizedLaws
import Derived.Test.YtdgcdemihalefaaGreatDoorEvalDelsJ18

/-
  A card's argument that is a value: a row of nodes.
-/
namespace Go.Proofs.YtdgcdemihalefaaGreatDoor
open Go.ChangeShapes Go.WideShapes Go.ChangeAt Go.RowKit Go.Deep Np

theorem list_of {α : Type} (R : Nat → α → Prop) : ∀ n, (∀ i, i < n → ∃ y, R i y) → ∃ l : List α, l.length = n ∧ ∀ i y, l[i]? = some y → R i y
  | 0, _ => ⟨[], rfl, fun i y h => by simp at h⟩
  | n + 1, h => by
    obtain ⟨l, h1, h2⟩ := list_of R n (fun i hi => h i (by omega))
    obtain ⟨y, hy⟩ := h n (by omega)
    refine ⟨l ++ [y], by simp [h1], fun i z hz => ?_⟩
    rcases Nat.lt_or_ge i l.length with hi | hi
    · rw [List.getElem?_append_left hi] at hz; exact h2 i z hz
    · rw [List.getElem?_append_right hi] at hz
      have hi0 : i - l.length = 0 := by
        rcases Nat.eq_zero_or_pos (i - l.length) with h0 | h0
        · exact h0
        · rw [List.getElem?_eq_none (by simp; omega)] at hz; cases hz
      rw [hi0] at hz
      simp at hz
      subst hz
      rw [show i = n by omega]; exact hy
section
variable {H : Type} {enc : TypeId × Value → H} {P : Program} {w : World} {base : Nat} {sp : Nat → Bool} {held : Bool}
/-- A slice whose elements read as these. -/
theorem open_rows {α : Type} {en : α → List Value} {sz : Nat} {Q : α → DataW H → Prop} {t e : TypeId} {fuel : Nat} {v : Value} {x : DataW H × List MemPlace} (ht : P.underlying t = some (.slice e)) (hc : P.cellsOf e = sz) (hp : 0 < sz) (hl : ∀ y, (en y).length = sz)
    (rd : ∀ n cs d, DataW.trod enc P w base sp held n e cs = some d → ∃ y, cs = en y ∧ Q y d.1) (h : DataW.trod enc P w base sp held fuel t [v] = some x) :
    ∃ l : List α, Row en sz w v l ∧ (x.1 = .nil ∧ l = [] ∨ ∃ ds sp', x.1 = .slice ds sp' ∧ ds.length = l.length ∧ ∀ (i : Nat) (y : α), l[i]? = some y → ∃ d ∈ ds, Q y d) := by
  rcases open_slice ht h with ⟨h1, h2⟩ | ⟨a, len, cap, m, n, D, Pl, h1, hb, hle, hm, hmm, hx, hi⟩
  · simp at h1; subst h1
    exact ⟨[], Row.nil w, .inl ⟨by rw [h2], rfl⟩⟩
  · simp at h1; subst h1
    have hlm : len ≤ m := by rw [hmm]; split <;> omega
    obtain ⟨l, hll, hR⟩ := list_of (fun i (y : α) => w.cells? base (a.add (i * sz)) sz = some (en y) ∧ Q y (D i)) len (fun i hil => by
      obtain ⟨cs', h3, h4⟩ := hi i (by omega)
      obtain ⟨y, rfl, hQ⟩ := rd n cs' _ h4
      rw [hc] at h3
      exact ⟨y, h3, hQ⟩)
    refine ⟨l, ?_, .inr ⟨(List.range len).map D, _, by rw [hx], by simp [hll], fun i y hy => ⟨D i, ?_, (hR i y hy).2⟩⟩⟩
    · refine ⟨some a, cap, by rw [hll], by rw [hll]; exact hle, hm, fun h => (by cases h), fun h0 => ?_⟩
      obtain ⟨y0, hy0⟩ : ∃ y, l[0]? = some y := ⟨_, List.getElem?_eq_getElem h0⟩
      have h5 := (World.cells?_some (hR 0 y0 hy0).1).2.2 0 hp
      rw [Nat.zero_mul] at h5
      have e0 : (a.add 0).add 0 = a := by simp [Addr.add]
      rw [e0] at h5
      obtain ⟨u0, hu0⟩ : ∃ u, (en y0)[0]? = some u := ⟨_, List.getElem?_eq_getElem (by rw [hl]; exact hp)⟩
      rw [hu0] at h5
      have hspot := World.cell?_spot h5
      have hlt := World.block_lt_of_cell? _ _ h5
      obtain ⟨g, o, s⟩ := a
      simp only at hspot hlt
      subst hspot
      refine ⟨g, o, rfl, hlt, fun k y hk j u hu => ?_⟩
      have hj : j < sz := by rw [← hl y]; exact (List.getElem?_eq_some_iff.1 hu).1
      have h6 := (World.cells?_some (hR k y hk).1).2.2 j hj
      rw [hu, add_add] at h6
      rw [Nat.add_assoc, ← h6]
      unfold Addr.add
      split
      · rename_i h7; rw [h7]; rfl
      · rfl
    · have hk := (List.getElem?_eq_some_iff.1 hy).1
      exact List.mem_map.2 ⟨i, List.mem_range.2 (by omega), rfl⟩
end
section
variable {H : Type} {enc : TypeId × Value → H} {w : World} {base : Nat} {sp : Nat → Bool} {held : Bool}
set_option maxRecDepth 100000 in
theorem rd_node : ∀ n cs (d : DataW H × List MemPlace), DataW.trod enc Tryz.prog w base sp held n 43 cs = some d → ∃ y : Nd, cs = ndc y ∧ True := by
  intro fuel l d hf
  obtain ⟨xs, n, -, -, hl, hx, hg⟩ := DataW.trod_struct Tryz.underlying43 hf
  rw [show Tryz.prog.cellsOf 43 = 6 by kernel_rfl] at hl
  have c3 : Tryz.prog.cellsOf 3 = 1 := by kernel_rfl
  have c9 : Tryz.prog.cellsOf 9 = 1 := by kernel_rfl
  have c4 : Tryz.prog.cellsOf 4 = 1 := by kernel_rfl
  have at' : ∀ i, (h : i < xs.length) → xs[i]? = some (xs[i]'h) := fun i h => List.getElem?_eq_getElem h
  have hx6 : xs.length = 6 := hx
  match l, hl with
  | [v0, v1, v2, v3, v4, v5], _ =>
    have g0 := (hg 0 _ rfl).trans (at' 0 (by omega))
    have g1 := (hg 1 _ rfl).trans (at' 1 (by omega))
    have g2 := (hg 2 _ rfl).trans (at' 2 (by omega))
    have g3 := (hg 3 _ rfl).trans (at' 3 (by omega))
    have g4 := (hg 4 _ rfl).trans (at' 4 (by omega))
    have g5 := (hg 5 _ rfl).trans (at' 5 (by omega))
    simp only [List.getElem_toArray, List.getElem_cons_zero, List.getElem_cons_succ, c3, c9, c4] at g0 g1 g2 g3 g4 g5
    obtain ⟨k, e0, -, -⟩ := DataW.trod_int Tryz.underlying3 g0
    obtain ⟨m, e1, -, -⟩ := DataW.trod_int Tryz.underlying3 g1
    obtain ⟨nm, e2, -, hnm⟩ := DataW.trod_string Tryz.underlying9 g2
    obtain ⟨s, e3, -, hs⟩ := DataW.trod_string Tryz.underlying9 g3
    obtain ⟨b, e4, -⟩ := DataW.trod_bool Tryz.underlying4 g4
    obtain ⟨x, e5, -, hxw⟩ := DataW.trod_int Tryz.underlying3 g5
    simp at e0 e1 e2 e3 e4 e5
    subst e0 e1 e2 e3 e4 e5
    exact ⟨⟨k, m, nm.data.toList, s.data.toList, b, x⟩, rfl, trivial⟩
theorem cells_node : Tryz.prog.cellsOf 43 = 6 := by kernel_rfl
set_option maxRecDepth 100000 in
/-- A row of nodes. -/
theorem open_val {r : Reach} {b0 : Nat} {v : Value} {d : DataW H} {ps : List MemPlace} (hv : Value.okWide Tryz.prog w r b0 35 v) (h : DataW.Trod enc Tryz.prog w base sp held 35 v d ps) :
    ∃ l : List Nd, Nds w v l := by
  obtain ⟨a, len, cap, rfl⟩ := okWide_slice Tryz.underlying35 hv
  obtain ⟨fuel, hf⟩ := h
  obtain ⟨l, h1, -⟩ := open_rows (Q := fun _ _ => True) Tryz.underlying35 cells_node (by decide) ndc_len (fun n cs d h => rd_node n cs d h) hf
  exact ⟨l, h1⟩
end
end Go.Proofs.YtdgcdemihalefaaGreatDoor

/-
  A card's arguments that are paths, pairs of paths, and pairs of values.
-/
namespace Go.Proofs.YtdgcdemihalefaaGreatDoor
open Go.ChangeShapes Go.WideShapes Go.ChangeAt Go.RowKit Go.Deep Np Pw

section
variable {H : Type} {enc : TypeId × Value → H} {w : World} {base : Nat} {sp : Nat → Bool} {held : Bool}
theorem int_range {x : Int} (h : (Lit.int .i64 x).wf = true) : -9223372036854775808 ≤ x ∧ x ≤ 9223372036854775807 := by
  simp only [Lit.wf, IntKind.min, IntKind.max, IntKind.signed, IntKind.bits, Bool.and_eq_true, decide_eq_true_eq, if_true] at h
  omega
theorem cells_step : Tryz.prog.cellsOf 71 = 3 := by kernel_rfl
theorem cells_path : Tryz.prog.cellsOf 32 = 1 := by kernel_rfl
def StQ (s : St) : Prop := s.name.length ≤ maxLen ∧ -9223372036854775808 ≤ s.n ∧ s.n ≤ 9223372036854775807
set_option maxRecDepth 100000 in
theorem rd_step : ∀ n cs (d : DataW H × List MemPlace), DataW.trod enc Tryz.prog w base sp held n 71 cs = some d → ∃ y : St, cs = spc y ∧ StQ y := by
  intro fuel l d hf
  obtain ⟨xs, n, -, -, hl, hx, hg⟩ := DataW.trod_struct Tryz.underlying71 hf
  rw [cells_step] at hl
  have c3 : Tryz.prog.cellsOf 3 = 1 := by kernel_rfl
  have c9 : Tryz.prog.cellsOf 9 = 1 := by kernel_rfl
  have c4 : Tryz.prog.cellsOf 4 = 1 := by kernel_rfl
  have at' : ∀ i, (h : i < xs.length) → xs[i]? = some (xs[i]'h) := fun i h => List.getElem?_eq_getElem h
  have hx3 : xs.length = 3 := hx
  match l, hl with
  | [v0, v1, v2], _ =>
    have g0 := (hg 0 _ rfl).trans (at' 0 (by omega))
    have g1 := (hg 1 _ rfl).trans (at' 1 (by omega))
    have g2 := (hg 2 _ rfl).trans (at' 2 (by omega))
    simp only [List.getElem_toArray, List.getElem_cons_zero, List.getElem_cons_succ, c3, c9, c4] at g0 g1 g2
    obtain ⟨b, e0, -⟩ := DataW.trod_bool Tryz.underlying4 g0
    obtain ⟨s, e1, -, hs⟩ := DataW.trod_string Tryz.underlying9 g1
    obtain ⟨x, e2, -, hxw⟩ := DataW.trod_int Tryz.underlying3 g2
    simp at e0 e1 e2
    subst e0 e1 e2
    exact ⟨⟨b, s.data.toList, x⟩, rfl, by simpa using hs, int_range hxw⟩
set_option maxRecDepth 100000 in
theorem path_of {fuel : Nat} {v : Value} {x : DataW H × List MemPlace} (h : DataW.trod enc Tryz.prog w base sp held fuel 32 [v] = some x) : ∃ p : List St, Sps w v p ∧ Stp p := by
  obtain ⟨l, h1, h2⟩ := open_rows (Q := fun (y : St) _ => StQ y) Tryz.underlying32 cells_step (by decide) spc_len (fun n cs d h => rd_step n cs d h) h
  refine ⟨l, h1, fun s hs => ?_⟩
  rcases h2 with ⟨-, rfl⟩ | ⟨ds, sp', -, -, h3⟩
  · cases hs
  · obtain ⟨i, hi, rfl⟩ := List.getElem_of_mem hs
    obtain ⟨d, -, hq⟩ := h3 i _ (List.getElem?_eq_getElem hi)
    exact hq
set_option maxRecDepth 100000 in
/-- Two paths. -/
theorem open_paths {r : Reach} {b0 : Nat} {v : Value} {d : DataW H} {ps : List MemPlace} (hv : Value.okWide Tryz.prog w r b0 33 v) (h : DataW.Trod enc Tryz.prog w base sp held 33 v d ps) :
    ∃ (a b : Value) (p q : List St), v = .agg #[a, b] ∧ Sps w a p ∧ Sps w b q ∧ Stp p ∧ Stp q := by
  simp only [Value.okWide, Tryz.underlying33] at hv
  obtain ⟨⟨l⟩, rfl, hl, -⟩ := hv
  rw [show Tryz.prog.cellsOf 33 = 2 by kernel_rfl] at hl
  obtain ⟨fuel, hf⟩ := h
  obtain ⟨xs, n, -, -, -, hx, hg⟩ := DataW.trod_array Tryz.underlying33 hf
  match l, hl with
  | [v0, v1], _ =>
    have g0 := (hg 0 (by decide)).trans (List.getElem?_eq_getElem (by rw [hx]; decide))
    have g1 := (hg 1 (by decide)).trans (List.getElem?_eq_getElem (by rw [hx]; decide))
    simp only [cells_path] at g0 g1
    obtain ⟨p, hp, hps⟩ := path_of (v := v0) g0
    obtain ⟨q, hq, hqs⟩ := path_of (v := v1) g1
    exact ⟨v0, v1, p, q, rfl, hp, hq, hps, hqs⟩
end
end Go.Proofs.YtdgcdemihalefaaGreatDoor

/-
  The statement EvalDels holds: called with any two paths and any value, whatever lies in memory, it returns true, and each argument reads as it read before. Conditions: the listed variables of the library (two tables of bits, one of powers of ten, two of UTF-8, strconv's two errors) read as the program's text lays them (the tie is given).
-/
namespace Go.Proofs.YtdgcdemihalefaaGreatDoor
open Go.ChangeShapes Go.WideShapes Go.ChangeAt Go.RowKit Go.ChangeMaps Pw

set_option maxRecDepth 100000 in
theorem evalDels_lifted (os : Go.Os) (started : os.Started) (H : Type) (enc : TypeId × Value → H) :
    ReturnsInHanded {} Tryz.checked os 4 .any (fun w args => (Rows.evalDelsSpec.pre enc Tryz.prog Tryz.f4 [] false w args ∧ laidMetH Tryz.prog seatLaid w) ∧ sizedMet enc Tryz.prog Tryz.f4 (OpenSpec.ofChange Rows.evalDelsSpec) false w args)
      (Rows.evalDelsSpec.post enc Tryz.prog Tryz.f4 false true false false) := by
  refine returnsInHanded_of_change_and (C := Tryz.checked) (X := fun w _ => laidMetH Tryz.prog seatLaid w) (fun _ _ _ hh h => h.of_heap hh) ownKn started (by kernel_rfl) Tryz.func4
    (ChangeSpec.witness_shaped (enc := enc) (C := Tryz.checked) (os := os) (X := fun w _ => laidMetH Tryz.prog seatLaid w) false (World.laidAll Tryz.prog os seatLaid)
      #[.agg #[.slice none 0 0, .slice none 0 0], .slice none 0 0] 8 (World.laidAll_os _ _ _)
      (World.shaped_of_ZipB (by kernel_rfl) (by kernel_rfl)) (by kernel_rfl) (by kernel_rfl) (by kernel_rfl) (laid_met os _)) ?_
  intro W base args ds gs before hval0 hW _ hwt0 hL _
  have hval : ∀ (j : Nat) t v, Tryz.f4.params[j]? = some t → args[j]? = some v → Value.okWide Tryz.prog W .any base t v := hval0
  have hW' := hW
  obtain ⟨p, q, hA0, hV, rfl, _, _⟩ := hW
  have hA : DataW.TrodAll enc Tryz.prog W 0 (fun _ => true) true Tryz.f4.params.toList args.toList ds p := hA0
  have hwt : (DataW.weightsEach Tryz.prog (Tryz.f4.params.toList ++ Rows.evalDelsSpec.plain.varTypes Tryz.prog) (ds ++ gs)).all (· ≤ reachBytes) = true := hwt0
  rw [Tryz.params4] at hA hval
  obtain ⟨v0, v1, d0, d1, p0, p1, rfl, rfl, rfl, h0, h1⟩ := trodAll_two hA
  obtain ⟨rfl, rfl⟩ := trodVars_none hV
  obtain ⟨a0, b0, p0, q0, rfl, hp0, hq0, hs0, ht0⟩ := open_paths (base := 0) (sp := fun _ => true) (held := true) (hval 0 _ v0 rfl rfl) h0
  obtain ⟨l1, hv1⟩ := open_val (base := 0) (sp := fun _ => true) (held := true) (hval 1 _ v1 rfl rfl) h1
  refine (evalDels_any a0 b0 v1 p0 q0 l1 W hp0 hq0 hs0 ht0 hv1 (pv_of_laid hL)).mono fun e W' ⟨he, hb⟩ => ?_
  subst he
  exact ⟨_, rfl, law_post (tb := 4) laidOut hW' rfl Tryz.underlying4 (by kernel_rfl) rfl (by
    rw [Tryz.params4]
    intro t ht
    have hall : ([33, 35].all fun t => Tryz.prog.readableRec t && decide (t < Tryz.prog.types.size)) = true := by kernel_rfl
    obtain ⟨h1, h2⟩ := Bool.and_eq_true_iff.1 (List.all_eq_true.1 hall t ht)
    exact ⟨h1, of_decide_eq_true h2⟩) hb⟩

set_option maxHeartbeats 8000000 in
theorem evalDels_joined : joinedFacts Tryz.prog 4 Tryz.f4 Rows.evalDelsSpec Rows.evalDelsRow = true := by
  simp only [joinedFacts, Bool.and_eq_true]
  repeat' apply And.intro
  all_goals as_aux_lemma => kernel_rfl
theorem evalDels_holds : Rows.EvalDelsSaid :=
  OpenClaim.holds_of_wide 4 Tryz.f4 rfl rfl rfl rfl rfl rfl rfl ⟨rfl, rfl, rfl, rfl, rfl⟩ rfl rfl rfl rfl rfl (by kernel_rfl) Tryz.func4 evalDels_joined
    (of_decide_eq_true (by kernel_rfl)) (by unfold Func.isWrapper; first | (rw [if_pos (by decide +kernel)]; kernel_rfl) | (rw [if_neg (by decide +kernel)]; exact ⟨rfl, rfl⟩))
    (fun os started H enc _ => evalDels_lifted os started H enc)

theorem evalDels_card : Rows.EvalDelsCardSaid :=
  Claim7.holds_tied_plain_at .later [] Rows.evalDelsCard.laidKinds true Rows.evalDelsCard.stood.harness Rows.evalDelsCard.stood.looks
    evalDels_holds (fun _ h => by cases h) (by kernel_rfl) (fun _ h => by cases h) evalDels_row_tie rfl ⟨rfl, rfl⟩ (by kernel_rfl) rfl
    (fun f fn hf hfn => by
      obtain rfl : f = 4 := Option.some.inj ((show Tryz.prog.funcNamed "loupe/loupelaw10.EvalDels" = some 4 by kernel_rfl).symm.trans hf) |>.symm
      obtain rfl : fn = Tryz.f4 := (Option.some.inj (Tryz.func4.symm.trans hfn)).symm
      exact ⟨by kernel_rfl, fun j t ht => by
        rw [Tryz.params4] at ht
        have hm : t ∈ [33, 35] := by simpa using Array.mem_of_getElem? ht
        have hall : ([33, 35].all fun u => !Tryz.prog.wantsStandIn u) = true := by kernel_rfl
        exact (show Tryz.prog.wantsStandIn t = false by simpa using List.all_eq_true.1 hall t hm)⟩)
    (by kernel_rfl)
#print axioms evalDels_card
end Go.Proofs.YtdgcdemihalefaaGreatDoor
