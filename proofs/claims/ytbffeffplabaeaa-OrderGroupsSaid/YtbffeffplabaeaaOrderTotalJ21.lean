/-
  Joined: OFam, OwB, ORef1.
-/
import Derived.Test.YtbffeffplabaeaaOrderTotalJ9
import Derived.Test.YtbffeffplabaeaaOrderTotalJ20
import Derived.Test.YtbffeffplabaeaaOrderTotalJ19

/-
  Words for memory: a family of slices of whole numbers, each in a block of its own, and the slice that holds them. Of no function.
-/
namespace Go.Proofs.Ytbffeffplabaeaa
open Go.RowKit Np

theorem ints_info : (Try.prog.info? 31).map (fun i => (i.zero, i.size, i.bytes)) = some (some (.slice none 0 0), 1, 24) := by kernel_rfl
theorem elInts : Elem Try.prog 34 31 slc 1 24 := by
  obtain ⟨i, hi, hz0, hz1, hz2⟩ := info_parts ints_info
  refine ⟨Try.underlying34, ⟨i, _, hi, hz0, hz1, hz2, rfl⟩, by decide, slc_len, fun n u hu => ?_⟩
  simp only [slc, List.mem_cons, List.not_mem_nil, or_false] at hu
  subst hu; rfl

abbrev slv (z : Option Addr × Nat × Nat) : Value := .slice z.1 z.2.1 z.2.2
/-- Of two types, two blocks. -/
theorem own_two_apart {α β : Type} {e1 : α → List Value} {e2 : β → List Value} {s1 s2 E1 E2 b1 b2 : Nat} {w : World} {v1 v2 : Value} {l1 : List α} {l2 : List β} (hE : E1 ≠ E2) (h1 : Own e1 s1 E1 b1 w v1 l1) (h2 : Own e2 s2 E2 b2 w v2 l2) : v2.ownBlock = none ∨ v2.ownBlock ≠ v1.ownBlock := by
  rcases h2.2 with ⟨rfl, _⟩ | ⟨g2, c2, cur2, rfl, _, hg2, _⟩
  · exact .inl rfl
  · refine .inr ?_
    rcases h1.2 with ⟨rfl, _⟩ | ⟨g1, c1, cur1, rfl, _, hg1, _⟩
    · simp [Value.ownBlock]
    · simp only [Value.ownBlock, ne_eq, Option.some.injEq]
      rintro rfl
      rw [hg1] at hg2
      injection hg2 with hg2
      injection hg2 with _ e
      exact hE e

/-- Slices of numbers, each in a block of its own. -/
structure Fam (base : Nat) (w : World) (zs : List (Option Addr × Nat × Nat)) (L : List (List Int)) : Prop where
  len : zs.length = L.length
  el : ∀ (i : Nat) (z : Option Addr × Nat × Nat) (l : List Int), zs[i]? = some z → L[i]? = some l → Own inc 1 3 base w (slv z) l
  ap : ∀ (i j : Nat) (y z : Option Addr × Nat × Nat) (k : Nat), i ≠ j → zs[i]? = some y → zs[j]? = some z → (slv y).ownBlock = some k → (slv z).ownBlock ≠ some k
section
variable {base : Nat} {w w' : World} {zs : List (Option Addr × Nat × Nat)} {L : List (List Int)}
theorem Fam.nil (base : Nat) (w : World) : Fam base w [] [] := ⟨rfl, fun i z l h => by simp at h, fun i j y z k _ h => by simp at h⟩
theorem Fam.below (h : Fam base w zs L) (hb : Below w.heap.size w w') : Fam base w' zs L := ⟨h.len, fun i z l hz hl => (h.el i z l hz hl).below hb, h.ap⟩
theorem Fam.at (h : Fam base w zs L) {i : Nat} (hi : i < L.length) : ∃ z, zs[i]? = some z ∧ Own inc 1 3 base w (slv z) L[i] := by
  have hi' : i < zs.length := by rw [h.len]; exact hi
  exact ⟨zs[i], List.getElem?_eq_getElem hi', h.el i _ _ (List.getElem?_eq_getElem hi') (List.getElem?_eq_getElem hi)⟩
/-- Another block is written. -/
theorem Fam.kept {row : Option Nat} (h : Fam base w zs L) (hg : w.grownBy w' row) (hr : ∀ (i : Nat) (z : Option Addr × Nat × Nat) (l : List Int), zs[i]? = some z → L[i]? = some l → Own inc 1 3 base w (slv z) l → (slv z).ownBlock = none ∨ (slv z).ownBlock ≠ row) : Fam base w' zs L :=
  ⟨h.len, fun i z l hz hl => World.ownsRow.kept (h.el i z l hz hl) hg (hr i z l hz hl (h.el i z l hz hl)), h.ap⟩
theorem Fam.held {α : Type} {enc : α → List Value} {sz E b : Nat} {v : Value} {l : List α} (h : Fam base w zs L) (hE : E ≠ 3) (ho : Own enc sz E b w v l) (hg : w.grownBy w' v.ownBlock) : Fam base w' zs L :=
  h.kept hg fun _ _ _ _ _ hz => own_two_apart hE ho hz
theorem Fam.lt (h : Fam base w zs L) {i k : Nat} {z : Option Addr × Nat × Nat} (hz : zs[i]? = some z) (hk : (slv z).ownBlock = some k) : k < w.heap.size := by
  have hi : i < L.length := by rw [← h.len]; exact (List.getElem?_eq_some_iff.1 hz).1
  exact (World.ownsRow.lt (h.el i z _ hz (List.getElem?_eq_getElem hi)) k hk).2
/-- One more, in a new block. -/
theorem Fam.push {z : Option Addr × Nat × Nat} {l : List Int} (h : Fam base w zs L) (hb : Below w.heap.size w w') (ho : Own inc 1 3 base w' (slv z) l) (hn : ∀ k, (slv z).ownBlock = some k → w.heap.size ≤ k) : Fam base w' (zs ++ [z]) (L ++ [l]) := by
  have hx : ∀ (i : Nat) (y : Option Addr × Nat × Nat), (zs ++ [z])[i]? = some y → (i < zs.length ∧ zs[i]? = some y) ∨ (i = zs.length ∧ y = z) := by
    intro i y hy
    by_cases hi : i < zs.length
    · rw [List.getElem?_append_left hi] at hy
      exact .inl ⟨hi, hy⟩
    · rw [List.getElem?_append_right (by omega)] at hy
      have : i - zs.length = 0 := by
        have := (List.getElem?_eq_some_iff.1 hy).1
        simp at this; omega
      rw [this] at hy
      simp at hy
      exact .inr ⟨by omega, hy.symm⟩
  refine ⟨by simp [h.len], fun i y m hy hm => ?_, fun i j y u k hij hy hu hk => ?_⟩
  · rcases hx i y hy with ⟨hi, hy'⟩ | ⟨rfl, rfl⟩
    · rw [List.getElem?_append_left (by rw [← h.len]; exact hi)] at hm
      exact (h.el i y m hy' hm).below hb
    · rw [h.len] at hm
      simp at hm
      subst hm
      exact ho
  · rcases hx i y hy with ⟨hi, hy'⟩ | ⟨rfl, rfl⟩
    · rcases hx j u hu with ⟨hj, hu'⟩ | ⟨rfl, rfl⟩
      · exact h.ap i j y u k hij hy' hu' hk
      · intro e
        have := hn k e
        have := h.lt hy' hk
        omega
    · rcases hx j u hu with ⟨hj, hu'⟩ | ⟨rfl, rfl⟩
      · intro e
        have := hn k hk
        have := h.lt hu' e
        omega
      · exact absurd rfl hij
/-- One of them is written, in place or in a new block. -/
theorem Fam.grow {i : Nat} {z z' : Option Addr × Nat × Nat} {l' : List Int} (h : Fam base w zs L) (hz : zs[i]? = some z) (hg : w.grownBy w' (slv z).ownBlock) (ho : Own inc 1 3 base w' (slv z') l') (hb : (slv z').ownBlock = (slv z).ownBlock ∨ (slv z').ownBlock = some w.heap.size) : Fam base w' (zs.set i z') (L.set i l') := by
  have hi : i < zs.length := (List.getElem?_eq_some_iff.1 hz).1
  have hx : ∀ (j : Nat) (y : Option Addr × Nat × Nat), (zs.set i z')[j]? = some y → (j ≠ i ∧ zs[j]? = some y) ∨ (j = i ∧ y = z') := by
    intro j y hy
    by_cases hj : i = j
    · subst hj
      rw [List.getElem?_set_self hi] at hy
      injection hy with hy
      exact .inr ⟨rfl, hy.symm⟩
    · rw [List.getElem?_set_ne hj] at hy
      exact .inl ⟨fun e => hj e.symm, hy⟩
  refine ⟨by simp [h.len], fun j y m hy hm => ?_, fun a b y u k hab hy hu hk => ?_⟩
  · rcases hx j y hy with ⟨hj, hy'⟩ | ⟨rfl, rfl⟩
    · rw [List.getElem?_set_ne (fun e => hj e.symm)] at hm
      refine World.ownsRow.kept (h.el j y m hy' hm) hg ?_
      cases e : (slv y).ownBlock with
      | none => exact .inl rfl
      | some k => exact .inr fun e2 => h.ap j i y z k hj hy' hz e e2.symm
    · rw [List.getElem?_set_self (by rw [← h.len]; exact hi)] at hm
      injection hm with hm
      subst hm
      exact ho
  · rcases hx a y hy with ⟨ha, hy'⟩ | ⟨rfl, rfl⟩
    · rcases hx b u hu with ⟨hb', hu'⟩ | ⟨rfl, rfl⟩
      · exact h.ap a b y u k hab hy' hu' hk
      · intro e
        rcases hb with hb | hb
        · exact h.ap a b y z k hab hy' hz hk (hb ▸ e)
        · have := h.lt hy' hk
          rw [hb] at e
          injection e with e
          omega
    · rcases hx b u hu with ⟨hb', hu'⟩ | ⟨rfl, rfl⟩
      · intro e
        rcases hb with hb | hb
        · exact h.ap a b z u k hab hz hu' (hb ▸ hk) e
        · have := h.lt hu' e
          rw [hb] at hk
          injection hk with hk
          omega
      · exact absurd rfl hab
/-- A slice that holds them reads as their lists. -/
theorem Fam.rows {v : Value} (h : Fam base w zs L) (hr : Row slc 1 w v zs) : Rowz inc 1 w v L := by
  refine ⟨zs.map fun z => .slice z.1 z.2.1 z.2.2, by rw [List.length_map]; exact h.len, ?_, fun k x l hx hk => ?_⟩
  · obtain ⟨A, c, hv, h1, h2, h3, h4⟩ := hr
    refine ⟨A, c, by rw [List.length_map]; exact hv, by rw [List.length_map]; exact h1, h2, h3, fun h0 => ?_⟩
    obtain ⟨g, o, hA, hg, hx⟩ := h4 (by rwa [List.length_map] at h0)
    refine ⟨g, o, hA, hg, fun k x hk => ?_⟩
    rw [List.getElem?_map] at hk
    obtain ⟨z, hz, rfl⟩ := Option.map_eq_some_iff.1 hk
    exact hx k z hz
  · rw [List.getElem?_map] at hx
    obtain ⟨z, hz, rfl⟩ := Option.map_eq_some_iff.1 hx
    exact (h.el k z l hz hk).row inc_len
end

/-- A row of a slice of rows, as it lies in memory. -/
theorem Rowz.at {α : Type} {enc : α → List Value} {sz : Nat} {w : World} {v : Value} {L : List (List α)} (h : Rowz enc sz w v L) {i : Nat} (hi : i < L.length) : ∃ (g o c : Nat) (A : Option Addr) (d : Nat), v = .slice (some ⟨g, o, none⟩) L.length c ∧ g < w.heap.size ∧ w.cell? ⟨g, o + i, none⟩ = some (.slice A (L[i]).length d) ∧ Row enc sz w (.slice A (L[i]).length d) L[i] := by
  obtain ⟨vs, hl, hr, hx⟩ := h
  obtain ⟨g, o, c, hv, -, -, hg, hc⟩ := hr.opened (by omega)
  have hi' : i < vs.length := by omega
  have h1 := hc i vs[i] (List.getElem?_eq_getElem hi')
  have h2 := hx i vs[i] L[i] (List.getElem?_eq_getElem hi') (List.getElem?_eq_getElem hi)
  obtain ⟨A, d, h3, -⟩ := id h2
  rw [h3] at h1 h2
  exact ⟨g, o, c, A, d, by rw [hv, hl], hg, h1.one, h2⟩
theorem Rowz.form {α : Type} {enc : α → List Value} {sz : Nat} {w : World} {v : Value} {L : List (List α)} (h : Rowz enc sz w v L) : ∃ (A : Option Addr) (c : Nat), v = .slice A L.length c := by
  obtain ⟨vs, hl, ⟨A, c, hv, -⟩, -⟩ := h
  exact ⟨A, c, by rw [hv, hl]⟩
/-- Made of a literal. -/
theorem rowz_lit {α : Type} {enc : α → List Value} {sz : Nat} (W : World) (n : Nat) (hn : W.heap.size = n) (E : TypeId) (vs : List Value) (L : List (List α)) (hl : vs.length = L.length) (hm : vs.length ≤ maxLen) (h : ∀ (k : Nat) (x : Value) (l : List α), vs[k]? = some x → L[k]? = some l → Row enc sz W x l) :
    Rowz enc sz (W.alloc (.cells vs.toArray E)) (.slice (some ⟨n, 0, none⟩) vs.length vs.length) L := by
  subst hn
  have hb : Below W.heap.size W (W.alloc (.cells vs.toArray E)) := (Below.refl _ _).alloc (Nat.le_refl _) _
  exact ⟨vs, hl, Row.lit vac_len W E _ vs hm (by simp), fun k x l hx hk => (h k x l hx hk).below hb⟩
/-- They, and the slice that holds them. -/
structure Grp (base : Nat) (w : World) (v : Value) (zs : List (Option Addr × Nat × Nat)) (L : List (List Int)) : Prop where
  fam : Fam base w zs L
  hd : Own slc 1 31 base w v zs
section
variable {base : Nat} {w w' w2 : World} {v : Value} {zs : List (Option Addr × Nat × Nat)} {L : List (List Int)}
theorem Grp.nil (base : Nat) (w : World) : Grp base w (.slice none 0 0) [] [] := ⟨Fam.nil _ _, Own.nil _⟩
theorem Grp.below (h : Grp base w v zs L) (hb : Below w.heap.size w w') : Grp base w' v zs L := ⟨h.fam.below hb, h.hd.below hb⟩
/-- One of them is written in memory, but not yet in the slice that holds them. -/
theorem Grp.grow {i : Nat} {z z' : Option Addr × Nat × Nat} {l' : List Int} {g n cap : Nat} (h : Grp base w (.slice (some ⟨g, 0, none⟩) n cap) zs L) (hz : zs[i]? = some z) (hg : w.grownBy w' (slv z).ownBlock) (ho : Own inc 1 3 base w' (slv z') l') (hb : (slv z').ownBlock = (slv z).ownBlock ∨ (slv z').ownBlock = some w.heap.size) :
    Grp base (w'.setCell ⟨g, i, none⟩ (slv z')) (.slice (some ⟨g, 0, none⟩) n cap) (zs.set i z') (L.set i l') := by
  have hi : i < L.length := by rw [← h.fam.len]; exact (List.getElem?_eq_some_iff.1 hz).1
  have hn : n = zs.length := (Own.cap h.hd).1
  subst hn
  have h1 := h.fam.grow hz hg ho hb
  have h2 : Own slc 1 31 base w' (.slice (some ⟨g, 0, none⟩) zs.length cap) zs := World.ownsRow.kept h.hd hg (own_two_apart (by decide) (h.fam.el i z _ hz (List.getElem?_eq_getElem hi)) h.hd)
  have h3 := Own.put slc_len (j := 0) (y := z') (u := slv z') h2 hz (by decide) rfl
  simp only [Nat.mul_one, Nat.add_zero] at h3
  have h4 := (World.ownsRow.stored h2 i (slv z')).2
  refine ⟨h1.held (by decide) h2 h4, ?_⟩
  exact h3
/-- What is below stays. -/
theorem Grp.kept (h : Grp base w v zs L) {i : Nat} {z : Option Addr × Nat × Nat} (hz : zs[i]? = some z) (hg : w.grownBy w' (slv z).ownBlock) (hb : base ≤ w.heap.size) : Below base w w' := by
  have hi : i < L.length := by rw [← h.fam.len]; exact (List.getElem?_eq_some_iff.1 hz).1
  exact (h.fam.el i z _ hz (List.getElem?_eq_getElem hi)).kept hg hb
/-- One more. -/
theorem Grp.push {z : Option Addr × Nat × Nat} {l : List Int} {v' : Value} (h : Grp base w v zs L) (hb : Below w.heap.size w w') (ho : Own inc 1 3 base w' (slv z) l) (hn : ∀ k, (slv z).ownBlock = some k → w.heap.size ≤ k) (hg : w'.grownBy w2 v.ownBlock) (hh : Own slc 1 31 base w2 v' (zs ++ [z])) : Grp base w2 v' (zs ++ [z]) (L ++ [l]) :=
  ⟨(h.fam.push hb ho hn).held (by decide) (h.hd.below hb) hg, hh⟩
end
end Go.Proofs.Ytbffeffplabaeaa

/-
  What order's Groups answers.
-/
namespace Go.Proofs.Ytbffeffplabaeaa
open Go.RowKit Np Rw Vp Ov

/-- The groups so far, as whole numbers. -/
abbrev intG (G : List (List Nat)) : List (List Int) := G.map fun g => g.map Int.ofNat
/-- How the groups lie so far. -/
structure GrS (ts : List (Tr Nd)) (w1 : World) (P : List Nat) (k : Nat) (gv : Value) (wr : World) : Prop where
  gr : ∃ zs, Grp w1.heap.size wr gv zs (intG (gath (cat ts) (P.take k)))
  bl : Below w1.heap.size w1 wr
structure GrR (ts : List (Tr Nd)) (w1 : World) (P : List Nat) (n : Nat) (iv gv : Value) (wr : World) : Prop where
  ex : ∃ (k : Nat) (G : Option Addr) (m c : Nat), k ≤ n ∧ iv = .int .i64 k ∧ gv = .slice G m c ∧ Hid (GrS ts w1 P k gv wr)

abbrev newI (W : World) (x : Nat) : World := W.alloc (.cells #[.int .i64 (x : Int)] 3)
abbrev newG (W : World) (x : Nat) : World := (newI W x).alloc (.cells #[.slice (some ⟨W.heap.size, 0, none⟩) 1 1] 31)
theorem gr_push {base : Nat} {W : World} {v : Value} {zs : List (Option Addr × Nat × Nat)} {L : List (List Int)} {x : Nat} (h : Grp base W v zs L) (hb : base ≤ W.heap.size) :
    Own slc 1 31 base (newG W x) v zs ∧ Row slc 1 (newG W x) (.slice (some ⟨W.heap.size + 1, 0, none⟩) 1 1) [(some ⟨W.heap.size, 0, none⟩, 1, 1)] ∧ base ≤ (newG W x).heap.size ∧
      ∀ w2 v', (newG W x).grownBy w2 v.ownBlock → Own slc 1 31 base w2 v' (zs ++ [(some ⟨W.heap.size, 0, none⟩, 1, 1)]) → Grp base w2 v' (zs ++ [(some ⟨W.heap.size, 0, none⟩, 1, 1)]) (L ++ [[(x : Int)]]) ∧ Below base W w2 := by
  have hB : Below W.heap.size W (newG W x) := ((Below.refl _ _).alloc (Nat.le_refl _) _).alloc (by simp) _
  have hO := h.hd.below hB
  have hx : Own inc 1 3 base (newI W x) (.slice (some ⟨W.heap.size, 0, none⟩) 1 1) [(x : Int)] := Own.lit inc_len W #[.int .i64 (x : Int)] [(x : Int)] hb (by unfold maxLen; simp) rfl
  have hx2 : Own inc 1 3 base (newG W x) (.slice (some ⟨W.heap.size, 0, none⟩) 1 1) [(x : Int)] := hx.alloc _
  refine ⟨hO, ?_, by simp; omega, fun w2 v' hg hh => ⟨h.push hB hx2 (by intro k hk; simp [Value.ownBlock] at hk; omega) hg hh, (hB.mono hb).trans (hO.kept hg (by simp; omega))⟩⟩
  have := Row.lit slc_len (newI W x) 31 #[.slice (some ⟨W.heap.size, 0, none⟩) 1 1] [(some ⟨W.heap.size, 0, none⟩, 1, 1)] (by unfold maxLen; simp) rfl
  simpa using this
theorem gr_grow {base : Nat} {W : World} {g m cap i : Nat} {z : Option Addr × Nat × Nat} {l : List Int} {zs : List (Option Addr × Nat × Nat)} {L : List (List Int)} {x : Nat} (h : Grp base W (.slice (some ⟨g, 0, none⟩) m cap) zs L) (hb : base ≤ W.heap.size) (hz : zs[i]? = some z) (hl : L[i]? = some l) :
    Own inc 1 3 base (newI W x) (slv z) l ∧ Row inc 1 (newI W x) (.slice (some ⟨W.heap.size, 0, none⟩) 1 1) [(x : Int)] ∧ base ≤ (newI W x).heap.size ∧
      ∀ w2 z', (newI W x).grownBy w2 (slv z).ownBlock → Own inc 1 3 base w2 (slv z') (l ++ [(x : Int)]) → ((slv z').ownBlock = (slv z).ownBlock ∨ (slv z').ownBlock = some (newI W x).heap.size) →
        Grp base (w2.setCell ⟨g, i, none⟩ (slv z')) (.slice (some ⟨g, 0, none⟩) m cap) (zs.set i z') (L.set i (l ++ [(x : Int)])) ∧ Below base W (w2.setCell ⟨g, i, none⟩ (slv z')) ∧ w2.cell? ⟨g, i, none⟩ = some (slv z) ∧ w2.frozen? ⟨g, i, none⟩ = false := by
  have hB : Below W.heap.size W (newI W x) := (Below.refl _ _).alloc (Nat.le_refl _) _
  have h1 := h.below hB
  have hO := h1.fam.el i z l hz hl
  have hn : m = zs.length := (Own.cap h.hd).1
  subst hn
  refine ⟨hO, ?_, by simp; omega, fun w2 z' hg hh hd => ?_⟩
  · have := Row.lit inc_len W 3 #[.int .i64 (x : Int)] [(x : Int)] (by unfold maxLen; simp) rfl
    simpa using this
  · have h2 : Own slc 1 31 base w2 (.slice (some ⟨g, 0, none⟩) zs.length cap) zs := World.ownsRow.kept h1.hd hg (own_two_apart (by decide) hO h1.hd)
    have h3 := Own.cell slc_len (j := 0) (u := slv z) h2 hz rfl
    simp only [Nat.mul_one, Nat.add_zero] at h3
    refine ⟨h1.grow hz hg hh hd, ?_, h3, h2.free _⟩
    have h4 : Below base (newI W x) w2 := hO.kept hg (by simp; omega)
    exact ((hB.mono hb).trans h4).setCell (Own.lt h2).1 _

/-- The last group, as it lies. -/
theorem gr_last {base : Nat} {W : World} {G : Option Addr} {m cg : Nat} {zs : List (Option Addr × Nat × Nat)} {GG : List (List Nat)} {a : Nat} {gg : List Nat} (h : Grp base W (.slice G m cg) zs (intG (GG ++ [a :: gg]))) :
    ∃ gb b cap, G = some ⟨gb, 0, none⟩ ∧ m = GG.length + 1 ∧ zs[GG.length]? = some (some ⟨b, 0, none⟩, gg.length + 1, cap) ∧ (intG (GG ++ [a :: gg]))[GG.length]? = some ((a :: gg).map Int.ofNat) ∧ W.cell? ⟨gb, GG.length, none⟩ = some (.slice (some ⟨b, 0, none⟩) (gg.length + 1) cap) ∧ W.cell? ⟨b, 0, none⟩ = some (.int .i64 (a : Int)) ∧ GG.length + 1 ≤ cg := by
  have hl : zs.length = GG.length + 1 := by rw [h.fam.len]; simp
  have hc := Own.cap h.hd
  have hL : (intG (GG ++ [a :: gg]))[GG.length]? = some ((a :: gg).map Int.ofNat) := by simp
  obtain ⟨gb, cap0, hv, -, -⟩ := Own.opened h.hd (by omega)
  injection hv with e1 e2 e3
  subst e1
  have hz : zs[GG.length]? = some (zs[GG.length]'(by omega)) := List.getElem?_eq_getElem (by omega)
  have ho := h.fam.el _ _ _ hz hL
  obtain ⟨b, cap, hv2, -, -⟩ := Own.opened ho (by simp)
  have hd : Own slc 1 31 base W (.slice (some ⟨gb, 0, none⟩) zs.length cg) zs := by rw [← hc.1]; exact h.hd
  have h3 := Own.cell slc_len (j := 0) (u := slv (zs[GG.length]'(by omega))) hd hz rfl
  simp only [Nat.mul_one, Nat.add_zero] at h3
  rw [hv2] at h3
  have hzz : zs[GG.length]'(by omega) = (some ⟨b, 0, none⟩, gg.length + 1, cap) := by
    generalize zs[GG.length]'(by omega) = z at hv2
    obtain ⟨z1, z2, z3⟩ := z
    simp only [slv] at hv2
    injection hv2 with e4 e5 e6
    subst e4 e5 e6
    simp
  have ho2 : Own inc 1 3 base W (.slice (some ⟨b, 0, none⟩) ((a :: gg).map Int.ofNat).length cap) ((a :: gg).map Int.ofNat) := by rw [← hv2]; exact ho
  have h4 := Own.cell inc_len (k := 0) (j := 0) (x := (a : Int)) (u := .int .i64 (a : Int)) ho2 rfl rfl
  simp only [Nat.mul_one, Nat.add_zero] at h4
  exact ⟨gb, b, cap, rfl, by omega, by rw [hz, hzz], hL, by simpa using h3, h4, by omega⟩

theorem Grp.mono {base base' : Nat} {w : World} {v : Value} {zs : List (Option Addr × Nat × Nat)} {L : List (List Int)} (h : Grp base w v zs L) (hb : base' ≤ base) : Grp base' w v zs L :=
  ⟨⟨h.fam.len, fun i z l hz hl => (h.fam.el i z l hz hl).mono hb, h.fam.ap⟩, h.hd.mono hb⟩
set_option maxRecDepth 100000 in
set_option maxHeartbeats 4000000 in
theorem groups_any (v : Value) (ts : List (Tr Nd)) (w : World) (h : Keys w v ts) (hn : ts.length ≤ 1000) :
    Calls Try.prog 19 #[v] w fun e w' => ∃ (A : Option Addr) (n c : Nat) (L : List (Option Addr × Nat × Nat)), e = .returned (.slice A n c) ∧ Grp w.heap.size w' (.slice A n c) L (intG (grps (cat ts) ts.length)) ∧ Below w.heap.size w w' := by
  have HS := Lib.hid (sort_any v ts w h hn)
  have HH := Lib.hid h
  obtain ⟨A, c, hvl⟩ : ∃ (A : Option Addr) (c : Nat), v = .slice A ts.length c := by
    obtain ⟨vs, hl, ⟨A, c, hv, -⟩, -⟩ := h.vls
    rw [List.length_map] at hl
    exact ⟨A, c, by rw [hv, hl]⟩
  clear h
  subst hvl
  generalize hnn : ts.length = n at *
  have HN := Lib.hid hnn
  clear hnn
  have HPL : Hid ((plc (cat ts) n).length = n) := Lib.hid (plc_len _ _)
  have HPX : Hid (∀ x ∈ plc (cat ts) n, x < n) := Lib.hid fun x hx => plc_lt hx
  have HGP : Hid (gath (cat ts) (plc (cat ts) n) = grps (cat ts) n) := Lib.hid (gath_plc _ _)
  generalize plc (cat ts) n = P at *
  go_enter Try.func19, Try.ntmps19
  go_wp2_with fail
  go_at_call 17
  refine HS.out.mono ?_
  rintro e w1 ⟨A1, n1, c1, rfl, hi1, hb1⟩
  obtain rfl : n1 = n := by
    obtain ⟨A2, c2, h2, -⟩ := hi1
    injection h2 with _ h2 _
    rw [h2, List.length_map, HPL.out]
  have HI1 := Lib.hid hi1
  have HB1 := Lib.hid hb1
  clear hi1 hb1
  go_wp2_with fail
  go_loopw [10, 3] (fun iv gv wr => GrR ts w1 P n1 iv gv wr) (fun iv _ _ => n1 - (intOf iv).toNat)
  case atStart => exact ⟨0, none, 0, 0, Nat.zero_le _, rfl, rfl, Lib.hid ⟨⟨[], Grp.nil _ _⟩, Below.refl _ _⟩⟩
  case round =>
    obtain ⟨k, G, m, cg, hk, rfl, rfl, HG⟩ := hrel.ex
    obtain ⟨zs, hgr⟩ := HG.out.gr
    have hm : m = (gath (cat ts) (P.take k)).length := by
      have h1 := (Own.cap hgr.hd).1
      have h2 := hgr.fam.len
      rw [List.length_map] at h2
      omega
    by_cases hlt : k < n1
    · have hkP : k < P.length := by rw [HPL.out]; exact hlt
      have htk : P.take (k + 1) = P.take k ++ [P[k]] := List.take_succ_eq_append_getElem hkP
      obtain ⟨g1, o1, c1', e1, -, -, hg1, hx1⟩ := HI1.out.opened (by rw [List.length_map, HPL.out]; omega)
      injection e1 with e1 e2 e3
      subst e1
      have p1 : w1.cell? ⟨g1, o1 + k, none⟩ = some (.int .i64 (P[k] : Nat)) := (hx1 k (P[k] : Nat) (by rw [List.getElem?_map, List.getElem?_eq_getElem hkP]; rfl)).int
      have q1 := (HG.out.bl.cell (p := ⟨g1, o1 + k, none⟩) hg1).trans p1
      have hPk := HPX.out _ (List.getElem_mem hkP)
      have HTK := Lib.hid htk
      have HGR := Lib.hid hgr
      have HP1 : Hid (P[k] < n1) := Lib.hid hPk
      have HPM : Hid (P[k] ∈ P) := Lib.hid (List.getElem_mem hkP)
      clear p1 hx1 e2 e3 htk hgr hPk
      generalize P[k] = x at *
      by_cases h0 : k = 0
      · subst h0
        have hm0 : m = 0 := by rw [hm]; rfl
        subst hm0
        clear hm
        rw [Nat.add_zero] at q1
        go_upto_region 6 with fail
        go_cut [34] from 17 to 35 (fun s34 wx => s34 = .bool false ∧ Hid (∃ q, wx = wr.drewN q))
        case first =>
          go_wp2_with fail
          go_quiet (fail)
          all_goals go_wp2_with fail
          all_goals go_meet
          all_goals exact ⟨rfl, Lib.hid ⟨_, rfl⟩⟩
        case rest =>
          obtain ⟨rfl, HWC⟩ := hcut
          have hsz : w1.heap.size ≤ wc.heap.size := by obtain ⟨q, e⟩ := HWC.out; rw [e]; exact HG.out.bl.size
          have hgw : Grp w1.heap.size wc (.slice G 0 cg) zs (intG (gath (cat ts) (P.take 0))) := HGR.out.below (below_quiet HWC.out)
          have hzl : zs.length = 0 := (Own.cap hgw.hd).1.symm
          obtain ⟨hp1, hp2, hp3, hp4⟩ := gr_push (x := x) hgw hsz
          have HQ1 := Lib.hid hp1
          have HQ2 := Lib.hid hp2
          have HQ3 := Lib.hid hp3
          have HQ4 := Lib.hid hp4
          have HZL := Lib.hid hzl
          clear hp1 hp2 hp3 hp4 hzl hgw hsz
          go_wp2_with (at_builtin; refine wpList_append_row (base := w1.heap.size) elInts rfl _ _ rfl rfl HQ1.out rfl HQ2.out ?_ ?_ ?_ ?_)
          · rw [HZL.out]; unfold maxLen; simp
          · rw [HZL.out]; simp
          · exact HQ3.out
          · intro A2 c2 w2 hown2 hg2 hwh
            have HR := Lib.hid (HQ4.out w2 _ hg2 hown2)
            clear hown2 hg2 hwh
            go_wp2_with fail
            go_roundw
            case rel => exact ⟨0 + 1, A2, _, c2, by omega, by go_num, rfl, Lib.hid ⟨⟨_, by rw [HTK.out]; exact HR.out.1⟩, HG.out.bl.trans (((below_quiet HWC.out).mono HG.out.bl.size).trans HR.out.2)⟩⟩
            case measure => simp [intOf]; omega
      · obtain ⟨GG, a, gg, hG1, ha, hG2, hG3⟩ := gath_more (cat ts) (P.take k) x (by intro h; have := congrArg List.length h; rw [List.length_take, List.length_nil] at this; omega)
        have ha2 : a < n1 := HPX.out _ (List.mem_of_mem_take ha)
        obtain ⟨g2, o2, cc, A2, m2, d2, hv2, hg2, hc2, hn2, -⟩ := HH.out.at (i := a) (by rw [HN.out]; exact ha2)
        obtain ⟨g3, o3, cc3, A3, m3, d3, hv3, hg3, hc3, hn3, -⟩ := HH.out.at (i := x) (by rw [HN.out]; exact HP1.out)
        injection hv2 with f1 f2 f3
        injection hv3 with f4 f5 f6
        have f7 := f1.symm.trans f4
        injection f7 with f7
        injection f7 with f7 f8 f9
        subst f1 f7 f8
        have hgr0 := HGR.out
        rw [hG1] at hgr0
        obtain ⟨gb, b, cap, rfl, hm1, hz, hL, p2, p3, hcg⟩ := gr_last hgr0
        have HGR2 := Lib.hid hgr0
        have HZ := Lib.hid hz
        have HL := Lib.hid hL
        have HG2 := Lib.hid hG2
        have HG3 := Lib.hid hG3
        have HG1 := Lib.hid hG1
        have HCZ := Lib.hid (cat_zero HH.out.val (i := a) (k := x) (by rw [HN.out]; exact ha2) (by rw [HN.out]; exact HP1.out))
        have hB0 : Below w.heap.size w wr := HB1.out.trans (HG.out.bl.mono HB1.out.size)
        have HB0 := Lib.hid hB0
        have q2 := (hB0.cell (p := ⟨g2, o2 + a, none⟩) hg2).trans hc2
        have q3 := (hB0.cell (p := ⟨g2, o2 + x, none⟩) hg3).trans hc3
        have HC : Hid (∀ W, Below w.heap.size w W → Calls Try.prog 37 #[.slice A2 m2 d2, .slice A3 m3 d3] W fun e w' => e = .returned (.bool (decide (flat (ts[a]'(by rw [HN.out]; exact ha2)) = flat (ts[x]'(by rw [HN.out]; exact HP1.out))))) ∧ Below W.heap.size W w') := Lib.hid fun W hb => same_any _ _ _ _ _ (hn2.below hb) (hn3.below hb)
        have hx1 := HP1.out
        have HHM := Lib.hid hm
        clear hG1 hG2 hG3 hgr0 hz hL hm hc2 hc3 hn2 hn3 f2 f3 f5 f6 f9 f4 hB0 ha HGR
        generalize hfa : flat (ts[a]'(by rw [HN.out]; exact ha2)) = fa at *
        generalize hfx : flat (ts[x]'(by rw [HN.out]; exact HP1.out)) = fx at *
        clear hfa hfx
        have hN1 : GG.length ≤ 1000 := by
          have h1 := gath_many (cat ts) (P.take k)
          rw [← HHM.out, hm1, List.length_take] at h1
          omega
        generalize hNG : GG.length = N at *
        have HNG := Lib.hid hNG
        clear hNG
        have hN2 : (N : Int) < (N : Int) + 1 := by omega
        have hN3 : (0 : Int) ≤ (N : Int) := by omega
        generalize hSB : decide (fa = fx) = sb at *
        have HSB := Lib.hid hSB
        clear hSB
        subst hm1
        go_upto_region 6 with fail
        go_cut [34] from 17 to 35 (fun s34 wx => s34 = .bool sb ∧ Hid (Below wr.heap.size wr wx))
        case first =>
          have hlb : b < wr.heap.size := World.block_lt_of_cell? _ _ p3
          have hlg : gb < wr.heap.size := World.block_lt_of_cell? _ _ p2
          have hl2 : g2 < wr.heap.size := World.block_lt_of_cell? _ _ q2
          have HKP : Hid (∀ W, Below wr.heap.size wr W → W.cell? ⟨gb, N, none⟩ = some (.slice (some ⟨b, 0, none⟩) (gg.length + 1) cap) ∧ W.cell? ⟨b, 0, none⟩ = some (.int .i64 (a : Int)) ∧ W.cell? ⟨g2, o2 + a, none⟩ = some (.slice A2 m2 d2) ∧ W.cell? ⟨g2, o2 + x, none⟩ = some (.slice A3 m3 d3) ∧ Below wr.heap.size wr W) := Lib.hid fun W hb => ⟨(hb.cell (p := ⟨gb, N, none⟩) hlg).trans p2, (hb.cell (p := ⟨b, 0, none⟩) hlb).trans p3, (hb.cell (p := ⟨g2, o2 + a, none⟩) hl2).trans q2, (hb.cell (p := ⟨g2, o2 + x, none⟩) hl2).trans q3, hb⟩
          have HRF : Hid (Below wr.heap.size wr wr.drew) := Lib.hid (Below.refl _ wr).drew
          clear hlb hlg hl2
          go_region_held3 (fun w' => w'.cell? ⟨gb, N, none⟩ = some (.slice (some ⟨b, 0, none⟩) (gg.length + 1) cap) ∧ w'.cell? ⟨b, 0, none⟩ = some (.int .i64 (a : Int)) ∧ w'.cell? ⟨g2, o2 + a, none⟩ = some (.slice A2 m2 d2) ∧ w'.cell? ⟨g2, o2 + x, none⟩ = some (.slice A3 m3 d3) ∧ Below wr.heap.size wr w')
            (first | exact HKP.out _ HRF.out | exact HKP.out _ (HBW.out.trans (hb3.mono HBW.out.size)) | go_keep)
            ((go_at_call 37; have HBW : Hid (Below wr.heap.size wr _) := Lib.hid (by assumption); refine (HC.out _ (HB0.out.trans (HBW.out.mono HB0.out.size))).mono ?_; rintro e w3 ⟨rfl, hb3⟩))
          all_goals go_wp2_with fail
          all_goals go_meet
          all_goals exact ⟨rfl, Lib.hid (HBW.out.trans (hb3.mono HBW.out.size))⟩
        case rest =>
          obtain ⟨rfl, HWC⟩ := hcut
          have HBC : Hid (Below w1.heap.size w1 wc) := Lib.hid (HG.out.bl.trans (HWC.out.mono HG.out.bl.size))
          have HGC := Lib.hid (HGR2.out.below HWC.out)
          cases sb with
          | true =>
            have HC0 : Hid (cat ts a x = 0) := Lib.hid (HCZ.out.2 (of_decide_eq_true HSB.out))
            obtain ⟨hp1, hp2, hp3, hp4⟩ := gr_grow (x := x) HGC.out HBC.out.size HZ.out HL.out
            have HQ1 := Lib.hid hp1
            have HQ2 := Lib.hid hp2
            have HQ3 := Lib.hid hp3
            have HQ4 := Lib.hid hp4
            have p4 : wc.cell? ⟨gb, N, none⟩ = some (.slice (some ⟨b, 0, none⟩) (gg.length + 1) cap) := (HWC.out.cell (p := ⟨gb, N, none⟩) (World.block_lt_of_cell? _ _ p2)).trans p2
            have HLL : Hid (gg.length ≤ 1000) := Lib.hid (by
              have h1 := gath_len (cat ts) (P.take k) (a :: gg) (by rw [HG1.out]; simp)
              rw [List.length_take, List.length_cons] at h1
              omega)
            clear hp1 hp2 hp3 hp4 p2 p3 q1 q2 q3
            generalize gg.length + 1 = mm at *
            go_wp2_with (at_builtin; refine wpList_append_row (base := w1.heap.size) elInt rfl _ _ rfl rfl HQ1.out rfl HQ2.out ?_ ?_ ?_ ?_)
            · have := HLL.out; unfold maxLen; simp; omega
            · have := HLL.out; simp; omega
            · exact HQ3.out
            · intro A4 c4 w4 hown4 hg4 hwh4
              have HR := Lib.hid (HQ4.out w4 (A4, _, c4) hg4 hown4 (hwh4.imp id fun h => h.trans (by simp)))
              have r1 := HR.out.2.2.1
              have r2 := HR.out.2.2.2
              clear hown4 hg4 hwh4
              go_wp2_with fail
              refine ⟨⟨k + 1, some ⟨gb, 0, none⟩, N + 1, cg, by omega, by congr 1, rfl, Lib.hid ⟨⟨zs.set N (A4, ((a :: gg).map Int.ofNat ++ [(x : Int)]).length, c4), ?_⟩, HBC.out.trans (HR.out.2.1)⟩⟩, ?_⟩
              · have h1 := HR.out.1
                have e := HNG.out
                rw [HTK.out, HG2.out HC0.out]
                simp [e] at h1 ⊢
                exact h1
              · simp [intOf]; omega
          | false =>
            have HC0 : Hid (cat ts a x ≠ 0) := Lib.hid (fun h => by have := HCZ.out.1 h; have h2 := HSB.out; rw [decide_eq_true this] at h2; cases h2)
            have HZL : Hid (zs.length = N + 1) := Lib.hid (Own.cap HGC.out.hd).1.symm
            obtain ⟨hp1, hp2, hp3, hp4⟩ := gr_push (x := x) HGC.out HBC.out.size
            have HQ1 := Lib.hid hp1
            have HQ2 := Lib.hid hp2
            have HQ3 := Lib.hid hp3
            have HQ4 := Lib.hid hp4
            clear hp1 hp2 hp3 hp4 p2 p3 q1 q2 q3
            go_wp2_with (at_builtin; refine wpList_append_row (base := w1.heap.size) elInts rfl _ _ rfl rfl HQ1.out rfl HQ2.out ?_ ?_ ?_ ?_)
            · rw [HZL.out]; unfold maxLen; simp; omega
            · rw [HZL.out]; simp; omega
            · exact HQ3.out
            · intro A4 c4 w4 hown4 hg4 hwh4
              have HR := Lib.hid (HQ4.out w4 _ hg4 hown4)
              clear hown4 hg4 hwh4
              go_wp2_with fail
              refine ⟨⟨k + 1, A4, _, c4, by omega, by congr 1, rfl, Lib.hid ⟨⟨zs ++ [(some ⟨wc.heap.size, 0, none⟩, 1, 1)], ?_⟩, HBC.out.trans HR.out.2⟩⟩, ?_⟩
              · rw [HTK.out, HG3.out HC0.out]
                simpa using HR.out.1
              · simp [intOf]; omega
    · obtain rfl : k = n1 := by omega
      have HF : Hid (Grp w1.heap.size wr (.slice G m cg) zs (intG (grps (cat ts) k))) := Lib.hid (by
        have h1 := hgr
        rwa [show P.take k = P from List.take_of_length_le (by rw [HPL.out]; omega), HGP.out] at h1)
      have HBE : Hid (Below w.heap.size w wr) := Lib.hid (HB1.out.trans (HG.out.bl.mono HB1.out.size))
      clear hgr
      go_wp2_with fail
      go_ret
      exact ⟨G, m, cg, zs, rfl, HF.out.mono HB1.out.size, HBE.out⟩
end Go.Proofs.Ytbffeffplabaeaa

/-
  What the document's own Ints and sign are.
-/
namespace Go.Proofs.Ytbffeffplabaeaa
open Go.RowKit Np Rw Vp Ov

set_option maxHeartbeats 400000 in
theorem refInts_quiet (va vb : Value) (la lb : List Int) (w : World) (ha : Ins w va la) (hb : Ins w vb lb) :
    Calls Try.prog 16 #[va, vb] w fun e w' => e = .returned (.bool (decide (la = lb))) ∧ ∃ n, w' = w.drewN n := by
  have hB : ∃ n, w = w.drewN n := ⟨0, rfl⟩
  by_cases hl : la.length = lb.length
  · rcases Nat.eq_zero_or_pos la.length with h0 | h0
    · have e1 := List.eq_nil_of_length_eq_zero h0
      have e2 := List.eq_nil_of_length_eq_zero (hl ▸ h0)
      subst e1 e2
      obtain ⟨A, c, rfl, -⟩ := ha
      obtain ⟨B, d, rfl, -⟩ := hb
      clear hl h0
      simp only [List.length_nil]
      go_enter Try.func16, Try.ntmps16
      go_wp2
      go_loopw [5] (fun i wr => i = .int .i64 0 ∧ wr = w) (fun _ _ => 0)
      case atStart => exact ⟨rfl, rfl⟩
      case round =>
        obtain ⟨rfl, rfl⟩ := hrel
        go_wp2
        go_ret
        exact ⟨ret_bool rfl, hB⟩
    · have hlen := ha.len
      obtain ⟨g, o, c, rfl, hc, hcm, hg, hx⟩ := ha.opened h0
      obtain ⟨g2, o2, c2, rfl, hc2, hcm2, hg2, hx2⟩ := hb.opened (hl ▸ h0)
      rw [← hl]
      have HX := Lib.hid hx
      have HX2 := Lib.hid hx2
      have HL := Lib.hid hl
      clear hx hx2 hl
      generalize hn : la.length = n at *
      have HN := Lib.hid hn; clear hn
      unfold maxLen at hlen
      go_enter Try.func16, Try.ntmps16
      go_wp2
      go_loopw [5] (fun i wr => ∃ k : Nat, k ≤ n ∧ i = .int .i64 k ∧ (∃ m, wr = w.drewN m) ∧ la.take k = lb.take k) (fun i _ => n - (intOf i).toNat)
      case atStart => exact ⟨0, Nat.zero_le _, rfl, ⟨0, rfl⟩, rfl⟩
      case round =>
        obtain ⟨k, hk, rfl, hq, ht⟩ := hrel
        have HQ := Lib.hid hq; clear hq
        have HT := Lib.hid ht; clear ht
        by_cases hlt : k < n
        · obtain ⟨a, ha⟩ : ∃ a, la[k]? = some a := ⟨_, List.getElem?_eq_getElem (by rw [HN.out]; exact hlt)⟩
          obtain ⟨b, hb'⟩ : ∃ b, lb[k]? = some b := ⟨_, List.getElem?_eq_getElem (by rw [← HL.out]; exact hlt)⟩
          have a0 := cell_quiet (HX.out k a ha).int HQ.out
          have b0 := cell_quiet (HX2.out k b hb').int HQ.out
          have HA := Lib.hid ha
          have HB := Lib.hid hb'
          clear ha hb'
          by_cases he : a = b
          · have HE : Hid (la.take (k + 1) = lb.take (k + 1)) := Lib.hid (take_eq_succ HT.out HA.out HB.out he)
            have hd : (a == b) = true := by simp [he]
            clear he
            go_wp2
            go_quiet (fail)
            go_wp2
            go_roundw
            case rel => exact ⟨k + 1, by omega, by go_num, quiet_more HQ.out _, HE.out⟩
            case measure => simp [intOf]; omega
          · have HE : Hid (la ≠ lb) := Lib.hid (ne_of_at HA.out HB.out he)
            have hd : (a == b) = false := by simp [he]
            clear he
            go_wp2
            go_quiet (fail)
            go_wp2
            go_ret
            exact ⟨ret_bool (by simp [HE.out]), quiet_more HQ.out _⟩
        · have HE : Hid (la = lb) := Lib.hid (eq_of_take HT.out (by rw [HN.out]; omega) (by rw [← HL.out]; omega))
          go_wp2
          go_ret
          exact ⟨ret_bool (by simp [HE.out]), HQ.out⟩
  · obtain ⟨A, c, rfl, -⟩ := ha
    obtain ⟨B, d, rfl, -⟩ := hb
    have HE : Hid (la ≠ lb) := Lib.hid (fun h => hl (by rw [h]))
    have hz : ((la.length : Int) == lb.length) = false := by simp; omega
    have hz2 : ((la.length : Int) != lb.length) = true := by simp; omega
    clear hl
    go_enter Try.func16, Try.ntmps16
    go_wp2
    go_ret
    exact ⟨ret_bool (by simp [HE.out]), hB⟩
theorem refInts_any (va vb : Value) (la lb : List Int) (w : World) (ha : Ins w va la) (hb : Ins w vb lb) :
    Calls Try.prog 16 #[va, vb] w fun e w' => e = .returned (.bool (decide (la = lb))) ∧ Below w.heap.size w w' :=
  (refInts_quiet va vb la lb w ha hb).mono fun _ _ ⟨he, hw⟩ => ⟨he, below_quiet hw⟩

/-- The sign of two, by what is less and what is the same. -/
def sgB (less same : Bool) : Int := if same then 0 else if less then -1 else 1
theorem sgB_int (x y : Int) : sgB (decide (x < y)) (decide (x = y)) = Lib.compareInt x y := by
  unfold sgB Lib.compareInt
  simp only [decide_eq_true_eq]
  (repeat' split) <;> omega
theorem sgB_bytes (a b : List UInt8) : sgB (decide (a < b)) (decide (a = b)) = cmpB a b := by
  have h1 := cmpB_lt a b
  have h2 := cmpB_eq a b
  rcases cmpB_cases a b with h | h | h
  · have h3 := h1.1 h
    have h4 : ¬ a = b := fun e => by rw [h2.2 e] at h; cases h
    simp [sgB, h3, h4, h]
  · rw [h]
    have h3 := h2.1 h
    simp [sgB, h3]
  · have h3 : ¬ a < b := fun e => by rw [h1.2 e] at h; cases h
    have h4 : ¬ a = b := fun e => by rw [h2.2 e] at h; cases h
    simp [sgB, h3, h4, h]
set_option maxHeartbeats 1000000 in
theorem refSign_any (l s : Bool) (w : World) : Calls Try.prog 28 #[.bool l, .bool s] w fun e w' => e = .returned (.int .i64 (sgB l s)) ∧ w' = w := by
  cases l <;> cases s
  all_goals
    go_enter Try.func28, Try.ntmps28
    go_wp2_with fail
    go_ret
    exact ⟨rfl, rfl⟩
end Go.Proofs.Ytbffeffplabaeaa
