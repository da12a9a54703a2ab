/-
  What val.Names answers.
-/
import Derived.Test.YtoomgpbfcpnefaaDoorValW7
namespace Go.Proofs.YtoomgpbfcpnefaaDoor
open Go.RowKit Go.Shelf Np Rw Vp
attribute [local go_sem] Oper.semAt_some

/-- The names of an object's parts. -/
def namesT (t : Tr Nd) : List (List UInt8) := if t.nd.kind = 6 then t.ks.map (fun k => k.nd.name) else []

/-- Between two rounds of Names. -/
def NI {L : List Nd} (w : World) (pre : List (Pt L)) (W : World) : Prop :=
  (∃ v, Boxed W w.heap.size 32 v ∧ Own stc 1 9 w.heap.size W v (pre.map fun x => x.1.2.nd.name)) ∧ Below w.heap.size w W
theorem NI.own {L : List Nd} (w : World) (B : Nat) (hB : w.heap.size ≤ B) : OwnFrom B (NI (L := L) w) := by
  intro s W W' row hs hg hr
  obtain ⟨⟨v, h1, h2⟩, h4⟩ := hs
  have hr' : ∀ r, row = some r → ∃ o : Obj, W.heap[r]? = some o ∧ o.isCells = false := fun r e => (hr r e).2
  exact ⟨⟨v, boxed_turned h1 hg hr', h2.turned hg hr'⟩, ownFrom_below (β := Unit) (Nat.le_refl _) hB () W W' row h4 hg hr⟩
theorem NI.step {L : List Nd} {w W W3 : World} {pre : List (Pt L)} {x : Pt L} {v0 : Value} {v3 : Value} (hb0 : Boxed W w.heap.size 32 v0) (hown : Own stc 1 9 w.heap.size W v0 (pre.map fun x => x.1.2.nd.name))
    (hB : Below w.heap.size w W) (h3 : Own stc 1 9 w.heap.size W3 v3 ((pre.map fun x => x.1.2.nd.name) ++ [x.1.2.nd.name])) (hg : (W.drew.alloc (.cells #[.string ⟨x.1.2.nd.name.toArray⟩] 9)).grownBy W3 v0.ownBlock) :
    Boxed W3 w.heap.size 32 v0 ∧ KeepsOthers W (W3.setCell ⟨w.heap.size, 0, none⟩ v3) ∧ Below w.heap.size W (W3.setCell ⟨w.heap.size, 0, none⟩ v3) ∧ NI w (pre ++ [x]) (W3.setCell ⟨w.heap.size, 0, none⟩ v3) := by
  have hbx := hb0.lt
  have hBs := hB.size
  have h2 : Below W.heap.size W (W.drew.alloc (.cells #[.string ⟨x.1.2.nd.name.toArray⟩] 9)) := ((Below.refl _ W).drew).alloc (Nat.le_refl _) _
  have hz2 := h2.size
  have hb2 : Boxed (W.drew.alloc (.cells #[.string ⟨x.1.2.nd.name.toArray⟩] 9)) w.heap.size 32 v0 := (h2.block _ hbx).trans hb0
  have ho2 : Own stc 1 9 w.heap.size (W.drew.alloc (.cells #[.string ⟨x.1.2.nd.name.toArray⟩] 9)) v0 (pre.map fun x => x.1.2.nd.name) := hown.below h2
  have hne : some w.heap.size ≠ v0.ownBlock := hb2.not_row (by decide) ho2
  have hb3 : Boxed W3 w.heap.size 32 v0 := hb2.kept hg hne
  have hne3 : v3.ownBlock ≠ some w.heap.size := fun e => (hb3.not_row (by decide) h3) e.symm
  have hlow : Below w.heap.size W W3 := (h2.mono hBs).trans (ho2.kept hg (by omega))
  have hset := hlow.setCell (p := ⟨w.heap.size, 0, none⟩) (Nat.le_refl _) v3
  refine ⟨hb3, ?_, hset, ⟨v3, hb3.set v3, ?_⟩, hB.trans hset⟩
  · refine ((keeps_below h2).trans (KeepsOthers.of_grownBy hg (fun j o e ho => ?_))).trans (KeepsOthers.setCell _ _ _)
    obtain ⟨g, cap, cur, hv, _, hh, _⟩ := (ho2.2).resolve_left (fun h => by rw [h.1] at e; cases e)
    rw [hv] at e
    cases e
    rw [hh] at ho
    cases ho
    rfl
  · rw [List.map_append, List.map_singleton]
    exact ownsRow_setCell_other h3 hne3 v3

set_option maxRecDepth 100000 in
set_option maxHeartbeats 2000000 in
theorem names_any (v : Value) (t : Tr Nd) (w : World) (hv : Nds w v (flat t)) (hl : (flat t).length ≤ 65536) (ht : Val t) :
    Calls Tryd.prog 21 #[v] w (GivesS w (namesT t)) := by
  have hvo : Nds w v (t.nd :: flats t.ks) := by rw [← flat_eq]; exact hv
  have HIO := Lib.hid (isObject_any v t.nd (flats t.ks) w hvo)
  clear hvo
  obtain ⟨g, o, c, rfl, hc, hcm, hg, -⟩ := hv.opened (flat_pos t)
  have hvH := Lib.hid hv
  by_cases h6 : t.nd.kind = 6
  · have HNT : Hid (namesT t = t.ks.map fun k => k.nd.name) := Lib.hid (by rw [namesT, if_pos h6])
    have HD : Hid (decide (t.nd.kind = 6) = true) := Lib.hid (by simp [h6])
    obtain ⟨xs, hsp⟩ := spread_ex (L := flat t) t.ks 1 [] (okT_eq.1 ht.ok).2 (by rw [flat_eq]; simp)
    have HTR := Lib.hid (spread_trees hsp)
    have hxl : xs.length ≤ 65536 := by
      have h1 := congrArg List.length (spread_trees hsp)
      have h2 := flats_len t.ks
      have h3 : (flat t).length = 1 + (flats t.ks).length := by rw [flat_eq]; simp; omega
      simp at h1; omega
    clear hv h6
    refine (callsIn_wide (n := 5)).1 ?_
    refine callsIn_of_wp_marks Tryd.func21 rfl trivial ?_ rfl
    simp only [Tryd.ntmps21, List.size_toArray, List.length_cons, List.length_nil, Nat.reduceAdd, Nat.reduceSub, Array.replicate_succ, Array.replicate_zero, List.push_toArray, List.append_toArray, List.nil_append, List.cons_append]
    gi_wp2_with (first | (refine ⟨trivial, ?_⟩; gi_at_call 48; refine (callsIn_wide.2 HIO.out).mono ?_; rintro e w' ⟨rfl, rfl⟩; rw [HD.out]) | (refine ⟨trivial, ?_⟩; gi_at_call 45; refine (rows_in _ _ _ _ _).mono ?_; rintro e w' ⟨rfl, rfl⟩))
    have bO := Boxed.new w 32 (.slice none 0 0)
    have bN := Boxed.new (w.alloc (.cells #[.slice none 0 0] 32)) 23 (.slice (some ⟨g, o, none⟩) (flat t).length c)
    rw [World.size_alloc] at bN
    have hB0 : Below w.heap.size w ((w.alloc (.cells #[.slice none 0 0] 32)).alloc (.cells #[.slice (some ⟨g, o, none⟩) (flat t).length c] 23)) := ((Below.refl _ w).alloc (Nat.le_refl _) _).alloc (by simp) _
    refine wpIn_rangeFunc_ownG rfl (by omega) (gf := 60) (lb := #[.pointer (some ⟨w.heap.size + 1, 0, none⟩)]) rfl trivial (enters_of Tryd.func60 (by kernel_rfl) rfl)
      (rows_stops _ (by omega) (w.heap.size + 1) w.heap.size g o c t xs ht hl hsp _ (by simp) (by simp; omega) bN.cell hg (hvH.out.below hB0)) belowK_t (belowK_b (by simp; omega)) (Below.refl _ _) (fun _ => rfl)
      (NI w) (fun _ _ _ => False) (NI.own w _ (by simp; omega)) (fun _ _ _ _ _ hs _ _ => hs)
      ⟨⟨_, bO.alloc _, Own.nil _⟩, hB0⟩
      (fun x => { tmps := #[.slice (some ⟨g, o, none⟩) (flat t).length c, undef, .slice none 0 0, .pointer (some ⟨w.heap.size, 0, none⟩), ptv g o c x, .slice (some ⟨g, o, none⟩) (flat t).length c, .bool true, .bool false, .slice (some ⟨g, o, none⟩) (flat t).length c, .func (.func 60) #[] #[.pointer (some ⟨w.heap.size + 1, 0, none⟩)], ptv g o c x, undef, undef, undef, undef, undef, undef, undef, undef], defers := [] }) ?assign ?body ?done ?stop
    case assign =>
      intro l x W K hK
      gi_wp2
      exact hK
    case body =>
      rintro l pre x W ⟨⟨v0, hb0, hown⟩, hB⟩ hlt
      have hc0 := hb0.cell
      have hlt0 := hb0.lt
      have hrow : Nds W (ptv g o c x) (x.1.2.nd :: flats x.1.2.ks) := by have := pt_row ((hvH.out.below hB)) x; rw [flat_eq x.1.2] at this; exact this
      obtain ⟨g1, o1, c1, hv1, -, -, -, hx1⟩ := hrow.opened (by simp)
      injection hv1 with e1 _ _
      injection e1 with e1
      injection e1 with e1 e2
      subst e1 e2
      have hn2 := (hx1 0 x.1.2.nd rfl).nd.c2
      simp only [Nat.zero_mul, Nat.add_zero] at hn2
      have hfp : 0 < (flat x.1.2).length := flat_pos x.1.2
      have HOZ : Hid (Own stc 1 9 w.heap.size (W.drew.alloc (.cells #[.string ⟨x.1.2.nd.name.toArray⟩] 9)) v0 (pre.map fun x => x.1.2.nd.name)) := Lib.hid (hown.below (((Below.refl _ W).drew).alloc (Nat.le_refl _) _))
      have HRZ : Hid (Row stc 1 (W.drew.alloc (.cells #[.string ⟨x.1.2.nd.name.toArray⟩] 9)) (.slice (some ⟨W.heap.size, 0, none⟩) 1 1) [x.1.2.nd.name]) := Lib.hid (Row.lit stc_len W.drew 9 _ [x.1.2.nd.name] (by show 1 ≤ maxLen; decide) rfl)
      clear hrow hx1
      refine wpIn_block ?_
      refine region_round (by kernel_rfl) (by kernel_rfl) (block_no outgrown_no) ?_
      refine wpAny_take (i := 1) (v := ptv g o c x) rfl (by kernel_rfl) (by kernel_rfl) (by kernel_rfl) (fun _ _ _ h => h) (.inl ⟨rfl, fun w => rfl⟩) ?_
      refine wpAny_take (i := 2) (v := .pointer (some ⟨g, o + x.1.1 * 6, none⟩)) rfl (by kernel_rfl) (by kernel_rfl) (by kernel_rfl) (fun _ _ _ h => h) (.inl ⟨rfl, fun w => by go_simp⟩) ?_
      refine wpAny_take (i := 3) (v := .pointer (some ⟨g, o + x.1.1 * 6 + 2, none⟩)) rfl (by kernel_rfl) (by kernel_rfl) (by kernel_rfl) (fun _ _ _ h => h) (.inl ⟨rfl, fun w => by go_simp⟩) ?_
      refine wpAny_ready (rs := [0, 4]) (by kernel_rfl) (by simp) ?_
      refine AllReady.cons rfl (fun K hK => ?_) (AllReady.cons rfl (fun K hK => ?_) AllReady.nil)
      · go_simp
        refine hK _ _ ?_
        clear hK K
        refine any_tail 4 4 rfl (by kernel_rfl) ?_
        simp only [List.drop_succ_cons, List.drop_zero]
        go_wp2_with (at_builtin; refine wpList_append_row (base := w.heap.size) elText rfl _ _ rfl rfl HOZ.out rfl HRZ.out ?_ ?_ ?_ ?_)
        · (try simp only [List.length_singleton, List.length_map]); unfold maxLen; omega
        · (try simp only [List.length_singleton, List.length_map]); omega
        · have := hB.size; simp; omega
        · intro A3 c3 w3 hown3 hg3 _
          obtain ⟨hb3, hk3, hlow3, hpi⟩ := NI.step (x := x) hb0 hown hB hown3 hg3
          have hc3 := hb3.cell
          have hf3 := hb3.frozen
          have HF : Hid (KeepsFrom (w.heap.size + 1 + 1) W (w3.setCell ⟨w.heap.size, 0, none⟩ (.slice A3 (pre.length + 1) c3)) ∧ Below w.heap.size W (w3.setCell ⟨w.heap.size, 0, none⟩ (.slice A3 (pre.length + 1) c3)) ∧ NI w (pre ++ [x]) (w3.setCell ⟨w.heap.size, 0, none⟩ (.slice A3 (pre.length + 1) c3))) := Lib.hid (by
            (try simp only [List.length_append, List.length_map, List.length_singleton] at hk3 hlow3 hpi)
            exact ⟨hk3.from _, hlow3, hpi⟩)
          clear hk3 hlow3 hpi hown3 hg3
          go_wp2_with fail
          exact HF.out
      · go_simp
        refine hK _ _ ?_
        clear hK K
        refine wpAny_ready (rs := [0, 5]) (by kernel_rfl) (by simp) ?_
        refine AllReady.cons rfl (fun K hK => ?_) (AllReady.cons rfl (fun K hK => ?_) AllReady.nil)
        · go_simp
          refine hK _ _ ?_
          clear hK K
          refine any_tail 5 3 rfl (by kernel_rfl) ?_
          simp only [List.drop_succ_cons, List.drop_zero]
          go_wp2_with (at_builtin; refine wpList_append_row (base := w.heap.size) elText rfl _ _ rfl rfl HOZ.out rfl HRZ.out ?_ ?_ ?_ ?_)
          · (try simp only [List.length_singleton, List.length_map]); unfold maxLen; omega
          · (try simp only [List.length_singleton, List.length_map]); omega
          · have := hB.size; simp; omega
          · intro A3 c3 w3 hown3 hg3 _
            obtain ⟨hb3, hk3, hlow3, hpi⟩ := NI.step (x := x) hb0 hown hB hown3 hg3
            have hc3 := hb3.cell
            have hf3 := hb3.frozen
            have HF : Hid (KeepsFrom (w.heap.size + 1 + 1) W (w3.setCell ⟨w.heap.size, 0, none⟩ (.slice A3 (pre.length + 1) c3)) ∧ Below w.heap.size W (w3.setCell ⟨w.heap.size, 0, none⟩ (.slice A3 (pre.length + 1) c3)) ∧ NI w (pre ++ [x]) (w3.setCell ⟨w.heap.size, 0, none⟩ (.slice A3 (pre.length + 1) c3))) := Lib.hid (by
              (try simp only [List.length_append, List.length_map, List.length_singleton] at hk3 hlow3 hpi)
              exact ⟨hk3.from _, hlow3, hpi⟩)
            clear hk3 hlow3 hpi hown3 hg3
            go_wp2_with fail
            exact HF.out
        · go_simp
          refine hK _ _ ?_
          clear hK K
          refine wpAny_ready (rs := [0]) (by kernel_rfl) (by simp) ?_
          refine AllReady.cons rfl (fun K hK => ?_) AllReady.nil
          go_simp
          refine hK _ _ ?_
          clear hK K
          refine any_tail 6 2 rfl (by kernel_rfl) ?_
          simp only [List.drop_succ_cons, List.drop_zero]
          go_wp2_with (at_builtin; refine wpList_append_row (base := w.heap.size) elText rfl _ _ rfl rfl HOZ.out rfl HRZ.out ?_ ?_ ?_ ?_)
          · (try simp only [List.length_singleton, List.length_map]); unfold maxLen; omega
          · (try simp only [List.length_singleton, List.length_map]); omega
          · have := hB.size; simp; omega
          · intro A3 c3 w3 hown3 hg3 _
            obtain ⟨hb3, hk3, hlow3, hpi⟩ := NI.step (x := x) hb0 hown hB hown3 hg3
            have hc3 := hb3.cell
            have hf3 := hb3.frozen
            have HF : Hid (KeepsFrom (w.heap.size + 1 + 1) W (w3.setCell ⟨w.heap.size, 0, none⟩ (.slice A3 (pre.length + 1) c3)) ∧ Below w.heap.size W (w3.setCell ⟨w.heap.size, 0, none⟩ (.slice A3 (pre.length + 1) c3)) ∧ NI w (pre ++ [x]) (w3.setCell ⟨w.heap.size, 0, none⟩ (.slice A3 (pre.length + 1) c3))) := Lib.hid (by
              (try simp only [List.length_append, List.length_map, List.length_singleton] at hk3 hlow3 hpi)
              exact ⟨hk3.from _, hlow3, hpi⟩)
            clear hk3 hlow3 hpi hown3 hg3
            go_wp2_with fail
            exact HF.out
    case done =>
      rintro D ys W hD rfl ⟨⟨v0, hb0, hown⟩, hB⟩ hK
      have hc0 := hb0.cell
      gi_wp2
      refine ⟨by simp, .inl ⟨_, _, rfl, run_takeDeferred hK, ?_⟩⟩
      have hr : ∀ r, some D = some r → ∃ o : Obj, W.heap[r]? = some o ∧ o.isCells = false := fun r e => by cases e; exact ⟨_, hK, rfl⟩
      have hpo := grownBy_putObj' W D (.deferred none)
      refine ⟨_, results_tmp rfl _ _ _, v0, rfl, ?_, hB.trans (belowK_b (w := w) (Nat.le_refl _) W D _ _ (by simp at hD; omega) hK rfl rfl)⟩
      have h2 : ys.map (fun x => x.1.2.nd.name) = t.ks.map fun k => k.nd.name := by rw [← HTR.out, List.map_map]; rfl
      rw [HNT.out, ← h2]
      exact (hown.turned hpo hr).row stc_len
    case stop =>
      rintro D c pre W _ _ h _
      exact h.elim
  · have HNT : Hid (namesT t = []) := Lib.hid (by rw [namesT, if_neg h6])
    have HD : Hid (decide (t.nd.kind = 6) = false) := Lib.hid (by simp [h6])
    clear hv
    go_enter Tryd.func21, Tryd.ntmps21
    go_wp2_with fail
    refine HIO.out.mono ?_
    rintro e w' ⟨rfl, rfl⟩
    rw [HD.out]
    go_wp2_with fail
    go_ret
    exact ⟨_, rfl, by rw [HNT.out]; exact Row.nil _, Below.refl _ _⟩
end Go.Proofs.YtoomgpbfcpnefaaDoor
