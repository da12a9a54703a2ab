/-
  What val.find answers.
-/
import Derived.Test.YtoomgpbfcpnefaaDoorValW7
import Derived.Test.YtoomgpbfcpnefaaDoorFindP
import Derived.Sort.Walk0
namespace Go.Proofs.YtoomgpbfcpnefaaDoor
open Go.RowKit Go.Shelf Np Rw Vp
attribute [local go_sem] Oper.semAt_some

theorem then_no {K : Act → World → Prop} {Q : Exit → Act → World → Prop} (h : ¬ LetsOut Q) : ¬ LetsOut (Exit.then K Q) := fun ⟨a, w, hq⟩ => h ⟨a, w, hq⟩

def lenP {L : List Nd} (pre : List (Pt L)) : Nat := (flats (pre.map fun x => x.1.2)).length
theorem lenP_snoc {L : List Nd} (pre : List (Pt L)) (x : Pt L) : lenP (pre ++ [x]) = lenP pre + (flat x.1.2).length := by simp [lenP, flats_append]
theorem pt_len {L : List Nd} (x : Pt L) : (flat x.1.2).length ≤ L.length := by
  obtain ⟨⟨p, u⟩, h1, r, h2⟩ := x
  have hq : p + (flat u).length ≤ L.length := part_lt h2
  show (flat u).length ≤ _
  omega
theorem lenP_le {L : List Nd} : ∀ pre : List (Pt L), lenP pre ≤ pre.length * L.length
  | [] => by simp [lenP]
  | x :: pre => by
    have h1 := lenP_le pre
    have h2 := pt_len x
    have h3 : lenP (x :: pre) = (flat x.1.2).length + lenP pre := by simp [lenP]
    rw [h3, List.length_cons, Nat.add_mul]
    omega

/-- Between two rounds of find. -/
def FI {L : List Nd} (nm : List UInt8) (w : World) (pre : List (Pt L)) (W : World) : Prop :=
  ((∀ y ∈ pre, passes nm y.1.2) ∧ Boxed W w.heap.size 9 (.string ⟨nm.toArray⟩) ∧ Boxed W (w.heap.size + 1) 3 (.int .i64 0) ∧ Boxed W (w.heap.size + 1 + 1) 3 (.int .i64 0) ∧ Boxed W (w.heap.size + 1 + 1 + 1) 3 (.int .i64 (1 + lenP pre : Nat))) ∧ Below w.heap.size w W
/-- Where a round of find has left. -/
def FX {L : List Nd} (nm : List UInt8) (w : World) (c : Code) (pre : List (Pt L)) (W : World) : Prop :=
  ((c = .ret ∧ ∃ p y, pre = p ++ [y] ∧ (∀ z ∈ p, passes nm z.1.2) ∧ y.1.2.nd.name = nm ∧ Boxed W (w.heap.size + 1) 3 (.int .i64 (1 + lenP p : Nat)) ∧ Boxed W (w.heap.size + 1 + 1) 3 (.int .i64 (1 + lenP p + (flat y.1.2).length : Nat))) ∨
   (c = .exit 0 ∧ ∃ p y, pre = p ++ [y] ∧ (∀ z ∈ p, passes nm z.1.2) ∧ nm < y.1.2.nd.name ∧ Boxed W (w.heap.size + 1) 3 (.int .i64 0) ∧ Boxed W (w.heap.size + 1 + 1) 3 (.int .i64 0) ∧ Boxed W (w.heap.size + 1 + 1 + 1) 3 (.int .i64 (1 + lenP p : Nat)))) ∧ Below w.heap.size w W
theorem FI.own {L : List Nd} (nm : List UInt8) (w : World) (B : Nat) (hB : w.heap.size ≤ B) : OwnFrom B (FI (L := L) nm w) := by
  intro s W W' row hs hg hr
  obtain ⟨⟨h0, h1, h2, h3, h4⟩, h5⟩ := hs
  have hr' : ∀ r, row = some r → ∃ o : Obj, W.heap[r]? = some o ∧ o.isCells = false := fun r e => (hr r e).2
  exact ⟨⟨h0, boxed_turned h1 hg hr', boxed_turned h2 hg hr', boxed_turned h3 hg hr', boxed_turned h4 hg hr'⟩, ownFrom_below (β := Unit) (Nat.le_refl _) hB () W W' row h5 hg hr⟩
theorem FX.own {L : List Nd} (nm : List UInt8) (w : World) (c : Code) (B : Nat) (hB : w.heap.size ≤ B) : OwnFrom B (FX (L := L) nm w c) := by
  intro s W W' row hs hg hr
  obtain ⟨hs, h5⟩ := hs
  have hr' : ∀ r, row = some r → ∃ o : Obj, W.heap[r]? = some o ∧ o.isCells = false := fun r e => (hr r e).2
  refine ⟨?_, ownFrom_below (β := Unit) (Nat.le_refl _) hB () W W' row h5 hg hr⟩
  rcases hs with ⟨hc, p, y, h1, h2, h3, h4, h5⟩ | ⟨hc, p, y, h1, h2, h3, h4, h5, h6⟩
  · exact .inl ⟨hc, p, y, h1, h2, h3, boxed_turned h4 hg hr', boxed_turned h5 hg hr'⟩
  · exact .inr ⟨hc, p, y, h1, h2, h3, boxed_turned h4 hg hr', boxed_turned h5 hg hr', boxed_turned h6 hg hr'⟩

set_option maxRecDepth 100000 in
set_option maxHeartbeats 4000000 in
theorem find_any (v : Value) (t : Tr Nd) (nm : List UInt8) (w : World) (hv : Nds w v (flat t)) (hl : (flat t).length ≤ 65536) (ht : Val t) :
    Calls Tryd.prog 54 #[v, .string ⟨nm.toArray⟩] w fun e w' => e = .returned (.tuple #[.int .i64 (findK nm 1 t.ks).1, .int .i64 (findK nm 1 t.ks).2]) ∧ Below w.heap.size w w' := by
  obtain ⟨g, o, c, rfl, hc, hcm, hg, -⟩ := hv.opened (flat_pos t)
  have hvH := Lib.hid hv
  obtain ⟨xs, hsp⟩ := spread_ex (L := flat t) t.ks 1 [] (okT_eq.1 ht.ok).2 (by rw [flat_eq]; simp)
  have HTR := Lib.hid (spread_trees hsp)
  have hxl : xs.length ≤ 65536 := by
    have h1 := congrArg List.length (spread_trees hsp)
    have h2 := flats_len t.ks
    have h3 : (flat t).length = 1 + (flats t.ks).length := by rw [flat_eq]; simp; omega
    simp at h1; omega
  clear hv
  refine (callsIn_wide (n := 5)).1 ?_
  refine callsIn_of_wp_marks Tryd.func54 rfl trivial ?_ rfl
  simp only [Tryd.ntmps54, List.size_toArray, List.length_cons, List.length_nil, Nat.reduceAdd, Nat.reduceSub, Array.replicate_succ, Array.replicate_zero, List.push_toArray, List.append_toArray, List.nil_append, List.cons_append]
  gi_wp2_with (refine ⟨trivial, ?_⟩; gi_at_call 45; refine (rows_in _ _ _ _ _).mono ?_; rintro e w' ⟨rfl, rfl⟩)
  have x0 := Boxed.new w 9 (.string ⟨nm.toArray⟩)
  have x1 := Boxed.new (w.alloc (.cells #[.string ⟨nm.toArray⟩] 9)) 3 (.int .i64 0)
  have x2 := Boxed.new ((w.alloc (.cells #[.string ⟨nm.toArray⟩] 9)).alloc (.cells #[.int .i64 0] 3)) 3 (.int .i64 0)
  have x3 := Boxed.new (((w.alloc (.cells #[.string ⟨nm.toArray⟩] 9)).alloc (.cells #[.int .i64 0] 3)).alloc (.cells #[.int .i64 0] 3)) 3 (.int .i64 1)
  have x4 := Boxed.new ((((w.alloc (.cells #[.string ⟨nm.toArray⟩] 9)).alloc (.cells #[.int .i64 0] 3)).alloc (.cells #[.int .i64 0] 3)).alloc (.cells #[.int .i64 1] 3)) 23 (.slice (some ⟨g, o, none⟩) (flat t).length c)
  simp only [World.size_alloc] at x1 x2 x3 x4
  have hB0 : Below w.heap.size w (((((w.alloc (.cells #[.string ⟨nm.toArray⟩] 9)).alloc (.cells #[.int .i64 0] 3)).alloc (.cells #[.int .i64 0] 3)).alloc (.cells #[.int .i64 1] 3)).alloc (.cells #[.slice (some ⟨g, o, none⟩) (flat t).length c] 23)) :=
    (((((Below.refl _ w).alloc (Nat.le_refl _) _).alloc (by simp) _).alloc (by simp; omega) _).alloc (by simp; omega) _).alloc (by simp; omega) _
  refine wpIn_rangeFunc_ownG rfl (by omega) (gf := 60) (lb := #[.pointer (some ⟨w.heap.size + 1 + 1 + 1 + 1, 0, none⟩)]) rfl trivial (enters_of Tryd.func60 (by kernel_rfl) rfl)
    (rows_stops _ (by omega) (w.heap.size + 1 + 1 + 1 + 1) w.heap.size g o c t xs ht hl hsp _ (by simp) (by simp; omega) x4.cell hg (hvH.out.below hB0)) belowK_t (belowK_b (by simp; omega)) (Below.refl _ _) (fun _ => rfl)
    (FI nm w) (FX nm w) (FI.own nm w _ (by simp; omega)) (fun c => FX.own nm w c _ (by simp; omega))
    ⟨⟨by simp, (((x0.alloc _).alloc _).alloc _).alloc _, ((x1.alloc _).alloc _).alloc _, (x2.alloc _).alloc _, x3.alloc _⟩, hB0⟩
    (fun x => { tmps := #[.slice (some ⟨g, o, none⟩) (flat t).length c, .string ⟨nm.toArray⟩, undef, .pointer (some ⟨w.heap.size, 0, none⟩), .pointer (some ⟨w.heap.size + 1, 0, none⟩), .pointer (some ⟨w.heap.size + 1 + 1, 0, none⟩), .pointer (some ⟨w.heap.size + 1 + 1 + 1, 0, none⟩), ptv g o c x, .slice (some ⟨g, o, none⟩) (flat t).length c, .func (.func 60) #[] #[.pointer (some ⟨w.heap.size + 1 + 1 + 1 + 1, 0, none⟩)], ptv g o c x, undef, undef, undef, undef, undef, undef, undef, undef, undef, undef, undef, undef, undef, undef, undef, undef, undef, undef, undef, undef, undef, undef, undef], defers := [] }) ?assign ?body ?done ?stop
  case assign =>
    intro l x W K hK
    gi_wp2
    exact hK
  case body =>
    rintro l pre x W ⟨⟨hp, n0, n1, n2, n3⟩, hB⟩ hlt
    have hmx : Tryd.prog.follows .mixedOrders = true := by kernel_rfl
    have hc0 := n0.cell
    have hc1 := n1.cell
    have hc2 := n2.cell
    have hc3 := n3.cell
    have hf1 := n1.frozen
    have hf2 := n2.frozen
    have hf3 := n3.frozen
    have hrow : Nds W (ptv g o c x) (x.1.2.nd :: flats x.1.2.ks) := by have := pt_row ((hvH.out.below hB)) x; rw [flat_eq x.1.2] at this; exact this
    obtain ⟨g1, o1, c1, hv1, -, -, -, hx1⟩ := hrow.opened (by simp)
    injection hv1 with e1 e2' e3'
    clear e2' e3'
    injection e1 with e1
    injection e1 with e1 e2
    subst e1 e2
    have hn2 := (hx1 0 x.1.2.nd rfl).nd.c2
    simp only [Nat.zero_mul, Nat.add_zero] at hn2
    have hfp : 0 < (flat x.1.2).length := flat_pos x.1.2
    have hfl : (flat x.1.2).length ≤ 65536 := Nat.le_trans (pt_len x) hl
    have hlp : lenP pre ≤ 4294967296 := by
      have h1 := lenP_le pre
      have h2 : pre.length * (flat t).length ≤ 65536 * 65536 := Nat.mul_le_mul (by omega) hl
      omega
    clear hrow hx1
    have HNM : Hid (∃ xn, x.1.2.nd.name = xn) := Lib.hid ⟨_, rfl⟩
    obtain ⟨xn, hxn⟩ := HNM.out
    rw [hxn] at hn2
    have HXN := Lib.hid hxn
    clear hxn HNM
    by_cases he : xn = nm
    · have HE := Lib.hid he
      rw [he] at hn2
      clear he
      refine wpIn_block ?_
      refine wpIn_seq ?_
      refine wpIn_seq ?_
      refine region_round (by kernel_rfl) (by kernel_rfl) (then_no (then_no (block_no outgrown_no))) ?_
      refine wpAny_of_held (S := fun w' => w' = W.drew) _ _ _ _ ?_
      refine take_read 0 11 (ptv g o c x) rfl rfl (by kernel_rfl) (by kernel_rfl) (by kernel_rfl) (fun _ _ _ h => h) rfl (fun w hw => by subst hw; go_simp) rfl ?_
      refine take_read 1 12 (.pointer (some ⟨g, o + x.1.1 * 6, none⟩)) rfl rfl (by kernel_rfl) (by kernel_rfl) (by kernel_rfl) (fun _ _ _ h => h) rfl (fun w hw => by subst hw; go_simp) rfl ?_
      refine take_read 2 13 (.pointer (some ⟨g, o + x.1.1 * 6 + 2, none⟩)) rfl rfl (by kernel_rfl) (by kernel_rfl) (by kernel_rfl) (fun _ _ _ h => h) rfl (fun w hw => by subst hw; go_simp) rfl ?_
      refine take_read 3 14 (.string ⟨nm.toArray⟩) rfl rfl (by kernel_rfl) (by kernel_rfl) (by kernel_rfl) (fun _ _ _ h => h) rfl (fun w hw => by subst hw; go_simp) rfl ?_
      refine take_read 4 15 (.string ⟨nm.toArray⟩) rfl rfl (by kernel_rfl) (by kernel_rfl) (by kernel_rfl) (fun _ _ _ h => h) rfl (fun w hw => by subst hw; go_simp) rfl ?_
      refine take_read 5 16 (.bool true) rfl rfl (by kernel_rfl) (by kernel_rfl) (by kernel_rfl) (fun _ _ _ h => h) rfl (fun w hw => by subst hw; go_simp) rfl ?_
      refine wpAnyH_done (by kernel_rfl) ?_ _
      simp only [List.set_cons_succ, List.set_cons_zero]
      refine wpIn_cond_true rfl ?_
      refine wpIn_seq ?_
      have hS : (W.drew.drew).cell? ⟨w.heap.size + 1 + 1 + 1, 0, none⟩ = some (.int .i64 (1 + lenP pre : Nat)) := hc3
      refine region_round (by kernel_rfl) (by kernel_rfl) (then_no (then_no (block_no outgrown_no))) ?_
      refine wpAny_of_held (S := fun w' => w'.cell? ⟨w.heap.size + 1 + 1 + 1, 0, none⟩ = some (.int .i64 (1 + lenP pre : Nat))) _ _ _ _ ?_
      refine take_read 0 17 (.int .i64 (1 + lenP pre : Nat)) rfl rfl (by kernel_rfl) (by kernel_rfl) (by kernel_rfl) (fun _ _ _ h => h) rfl (fun w hw => by go_simp) hS ?_
      refine take_read 1 18 (.int .i64 (1 + lenP pre : Nat)) rfl rfl (by kernel_rfl) (by kernel_rfl) (by kernel_rfl) (fun _ _ _ h => h) rfl (fun w hw => by go_simp) hS ?_
      refine take_read 2 19 (ptv g o c x) rfl rfl (by kernel_rfl) (by kernel_rfl) (by kernel_rfl) (fun _ _ _ h => h) rfl (fun w hw => by go_simp) hS ?_
      refine take_read 3 20 (.int .i64 (flat x.1.2).length) rfl rfl (by kernel_rfl) (by kernel_rfl) (by kernel_rfl) (fun _ _ _ h => h) rfl (fun w hw => by go_simp) hS ?_
      refine take_read 4 21 (.int .i64 (1 + lenP pre + (flat x.1.2).length : Nat)) rfl rfl (by kernel_rfl) (by kernel_rfl) (by kernel_rfl) (fun _ _ _ h => h) rfl (fun w hw => by go_simp; exact IntWalk.i64_in _ (by omega)) hS ?_
      simp only [List.set_cons_succ, List.set_cons_zero]
      refine wpAnyH_all (rs := [5]) (by kernel_rfl) (by simp) (fun i hi => ?_)
      obtain rfl : i = 5 := by simpa using hi
      refine wpOp_step rfl (fun K hK => ?_)
      go_simp
      refine hK _ _ ⟨by simp [hc3, go_sem], ?_⟩
      clear hK K
      refine wpAnyH_all (rs := [6]) (by kernel_rfl) (by simp) (fun i hi => ?_)
      obtain rfl : i = 6 := by simpa using hi
      refine wpOp_step rfl (fun K hK => ?_)
      go_simp
      refine hK _ _ ⟨by simp [hc3, go_sem], wpAnyH_done (by kernel_rfl) ?_ _⟩
      clear hK K
      refine wpIn_ret ?_
      have y1 := n1.set (.int .i64 (1 + lenP pre : Nat))
      have y2 := (n2.other (B' := w.heap.size + 1) (by omega) (.int .i64 (1 + lenP pre : Nat))).set (.int .i64 (1 + lenP pre + (flat x.1.2).length : Nat))
      have y1' := y1.other (B' := w.heap.size + 1 + 1) (by omega) (.int .i64 (1 + lenP pre + (flat x.1.2).length : Nat))
      have hk : KeepsOthers W (((W.setCell ⟨w.heap.size + 1, 0, none⟩ (.int .i64 (1 + lenP pre : Nat))).setCell ⟨w.heap.size + 1 + 1, 0, none⟩ (.int .i64 (1 + lenP pre + (flat x.1.2).length : Nat))).drew.drew) := (((KeepsOthers.setCell _ _ _).trans (KeepsOthers.setCell _ _ _)).trans (KeepsOthers.drew _)).trans (KeepsOthers.drew _)
      have hbb : Below w.heap.size w (((W.setCell ⟨w.heap.size + 1, 0, none⟩ (.int .i64 (1 + lenP pre : Nat))).setCell ⟨w.heap.size + 1 + 1, 0, none⟩ (.int .i64 (1 + lenP pre + (flat x.1.2).length : Nat))).drew.drew) := (((hB.setCell (p := ⟨w.heap.size + 1, 0, none⟩) (by simp) _).setCell (p := ⟨w.heap.size + 1 + 1, 0, none⟩) (by simp; omega) _).drew).drew
      exact ⟨hk.from _, .inl ⟨rfl, pre, x, rfl, hp, HXN.out.trans HE.out, y1', y2⟩, hbb⟩
    · have hne : (xn == nm) = false := by simp [he]
      have hne' : ¬ xn = nm := he
      refine wpIn_block ?_
      refine wpIn_seq ?_
      refine wpIn_seq ?_
      refine region_round (by kernel_rfl) (by kernel_rfl) (then_no (then_no (block_no outgrown_no))) ?_
      refine wpAny_of_held (S := fun w' => w' = W.drew) _ _ _ _ ?_
      refine take_read 0 11 (ptv g o c x) rfl rfl (by kernel_rfl) (by kernel_rfl) (by kernel_rfl) (fun _ _ _ h => h) rfl (fun w hw => by subst hw; go_simp) rfl ?_
      refine take_read 1 12 (.pointer (some ⟨g, o + x.1.1 * 6, none⟩)) rfl rfl (by kernel_rfl) (by kernel_rfl) (by kernel_rfl) (fun _ _ _ h => h) rfl (fun w hw => by subst hw; go_simp) rfl ?_
      refine take_read 2 13 (.pointer (some ⟨g, o + x.1.1 * 6 + 2, none⟩)) rfl rfl (by kernel_rfl) (by kernel_rfl) (by kernel_rfl) (fun _ _ _ h => h) rfl (fun w hw => by subst hw; go_simp) rfl ?_
      refine take_read 3 14 (.string ⟨xn.toArray⟩) rfl rfl (by kernel_rfl) (by kernel_rfl) (by kernel_rfl) (fun _ _ _ h => h) rfl (fun w hw => by subst hw; go_simp) rfl ?_
      refine take_read 4 15 (.string ⟨nm.toArray⟩) rfl rfl (by kernel_rfl) (by kernel_rfl) (by kernel_rfl) (fun _ _ _ h => h) rfl (fun w hw => by subst hw; go_simp) rfl ?_
      refine take_read 5 16 (.bool false) rfl rfl (by kernel_rfl) (by kernel_rfl) (by kernel_rfl) (fun _ _ _ h => h) rfl (fun w hw => by subst hw; go_simp) rfl ?_
      refine wpAnyH_done (by kernel_rfl) ?_ _
      simp only [List.set_cons_succ, List.set_cons_zero]
      refine wpIn_cond_false rfl ?_
      refine wpIn_skip ?_
      refine wpIn_seq ?_
      refine wpIn_seq ?_
      by_cases ho : nm < xn
      · have hbl : Op.bytesLess nm xn = true := by rw [bytesLess_eq]; simp [ho]
        have hbl2 : Op.bytesLess xn nm = false := by rw [bytesLess_eq]; simpa using List.lt_asymm ho
        have HO := Lib.hid ho
        clear ho hne' he
        refine region_round (by kernel_rfl) (by kernel_rfl) (then_no (then_no (block_no outgrown_no))) ?_
        refine wpAny_of_held (S := fun w' => w' = W.drew.drew) _ _ _ _ ?_
        refine take_read 0 22 (ptv g o c x) rfl rfl (by kernel_rfl) (by kernel_rfl) (by kernel_rfl) (fun _ _ _ h => h) rfl (fun w hw => by subst hw; go_simp) rfl ?_
        refine take_read 1 23 (.pointer (some ⟨g, o + x.1.1 * 6, none⟩)) rfl rfl (by kernel_rfl) (by kernel_rfl) (by kernel_rfl) (fun _ _ _ h => h) rfl (fun w hw => by subst hw; go_simp) rfl ?_
        refine take_read 2 24 (.pointer (some ⟨g, o + x.1.1 * 6 + 2, none⟩)) rfl rfl (by kernel_rfl) (by kernel_rfl) (by kernel_rfl) (fun _ _ _ h => h) rfl (fun w hw => by subst hw; go_simp) rfl ?_
        refine take_read 3 25 (.string ⟨xn.toArray⟩) rfl rfl (by kernel_rfl) (by kernel_rfl) (by kernel_rfl) (fun _ _ _ h => h) rfl (fun w hw => by subst hw; go_simp) rfl ?_
        refine take_read 4 26 (.string ⟨nm.toArray⟩) rfl rfl (by kernel_rfl) (by kernel_rfl) (by kernel_rfl) (fun _ _ _ h => h) rfl (fun w hw => by subst hw; go_simp) rfl ?_
        refine take_read 5 27 (.bool true) rfl rfl (by kernel_rfl) (by kernel_rfl) (by kernel_rfl) (fun _ _ _ h => h) rfl (fun w hw => by subst hw; go_simp) rfl ?_
        refine wpAnyH_done (by kernel_rfl) ?_ _
        simp only [List.set_cons_succ, List.set_cons_zero]
        refine wpIn_cond_true rfl ?_
        refine wpIn_exit ?_
        have hk : KeepsOthers W W.drew.drew := (KeepsOthers.drew _).trans (KeepsOthers.drew _)
        exact ⟨hk.from _, .inr ⟨rfl, pre, x, rfl, hp, by rw [HXN.out]; exact HO.out, n1, n2, n3⟩, hB.drew.drew⟩
      · have hbl : Op.bytesLess nm xn = false := by rw [bytesLess_eq]; simp [ho]
        have hbl2 : Op.bytesLess xn nm = true := by
          rw [bytesLess_eq, decide_eq_true_eq]
          rcases Std.lt_trichotomy xn nm with h | h | h
          · exact h
          · exact absurd h he
          · exact absurd h ho
        have HPS : Hid (passes nm x.1.2) := Lib.hid ⟨by rw [HXN.out]; exact hne', by rw [HXN.out]; exact ho⟩
        clear ho hne' he
        refine region_round (by kernel_rfl) (by kernel_rfl) (then_no (then_no (block_no outgrown_no))) ?_
        refine wpAny_of_held (S := fun w' => w' = W.drew.drew) _ _ _ _ ?_
        refine take_read 0 22 (ptv g o c x) rfl rfl (by kernel_rfl) (by kernel_rfl) (by kernel_rfl) (fun _ _ _ h => h) rfl (fun w hw => by subst hw; go_simp) rfl ?_
        refine take_read 1 23 (.pointer (some ⟨g, o + x.1.1 * 6, none⟩)) rfl rfl (by kernel_rfl) (by kernel_rfl) (by kernel_rfl) (fun _ _ _ h => h) rfl (fun w hw => by subst hw; go_simp) rfl ?_
        refine take_read 2 24 (.pointer (some ⟨g, o + x.1.1 * 6 + 2, none⟩)) rfl rfl (by kernel_rfl) (by kernel_rfl) (by kernel_rfl) (fun _ _ _ h => h) rfl (fun w hw => by subst hw; go_simp) rfl ?_
        refine take_read 3 25 (.string ⟨xn.toArray⟩) rfl rfl (by kernel_rfl) (by kernel_rfl) (by kernel_rfl) (fun _ _ _ h => h) rfl (fun w hw => by subst hw; go_simp) rfl ?_
        refine take_read 4 26 (.string ⟨nm.toArray⟩) rfl rfl (by kernel_rfl) (by kernel_rfl) (by kernel_rfl) (fun _ _ _ h => h) rfl (fun w hw => by subst hw; go_simp) rfl ?_
        refine take_read 5 27 (.bool false) rfl rfl (by kernel_rfl) (by kernel_rfl) (by kernel_rfl) (fun _ _ _ h => h) rfl (fun w hw => by subst hw; go_simp) rfl ?_
        refine wpAnyH_done (by kernel_rfl) ?_ _
        simp only [List.set_cons_succ, List.set_cons_zero]
        refine wpIn_cond_false rfl ?_
        refine wpIn_skip ?_
        have hw : IntKind.i64.wrap (1 + (lenP pre : Int) + ((flat x.1.2).length : Int)) = 1 + (lenP pre : Int) + ((flat x.1.2).length : Int) := IntWalk.i64_in _ (by omega)
        show Code.wpIn _ _ _ _ _ _ _
        gi_wp2_with fail
        have y3 := n3.set (.int .i64 (1 + lenP pre + (flat x.1.2).length : Nat))
        have hk : KeepsOthers W ((W.setCell ⟨w.heap.size + 1 + 1 + 1, 0, none⟩ (.int .i64 (1 + lenP pre + (flat x.1.2).length : Nat))).drew.drew) := ((KeepsOthers.setCell _ _ _).trans (KeepsOthers.drew _)).trans (KeepsOthers.drew _)
        have hlow : Below w.heap.size W ((W.setCell ⟨w.heap.size + 1 + 1 + 1, 0, none⟩ (.int .i64 (1 + lenP pre + (flat x.1.2).length : Nat))).drew.drew) := (((Below.refl _ _).setCell (p := ⟨w.heap.size + 1 + 1 + 1, 0, none⟩) (by simp; omega) _).drew).drew
        refine ⟨hk.from _, hlow, ⟨?_, n0.other (by omega) _, n1.other (by omega) _, n2.other (by omega) _, ?_⟩, hB.trans hlow⟩
        · intro y hy
          rcases List.mem_append.1 hy with hy | hy
          · exact hp y hy
          · simp at hy; subst hy; exact HPS.out
        · rw [lenP_snoc, ← Nat.add_assoc]
          exact y3
  case done =>
    rintro D ys W hD rfl ⟨⟨hp, n0, n1, n2, n3⟩, hB⟩ hK
    have hmx : Tryd.prog.follows .mixedOrders = true := by kernel_rfl
    have hc1 := n1.cell
    have hc2 := n2.cell
    have hc3 := n3.cell
    have hf1 := n1.frozen
    have hf2 := n2.frozen
    have HV : Hid (findK nm 1 t.ks = (1 + lenP ys, 1 + lenP ys)) := Lib.hid (by
      rw [← HTR.out, lenP]
      exact findK_all (fun u hu => by obtain ⟨z, hz, rfl⟩ := List.mem_map.1 hu; exact hp z hz))
    gi_wp2_with fail
    gi_region_with_o (fail)
    all_goals gi_wp2_with fail
    all_goals
      have V1 : Boxed (((W.setCell ⟨w.heap.size + 1, 0, none⟩ (.int .i64 (1 + lenP ys : Nat))).setCell ⟨w.heap.size + 1 + 1, 0, none⟩ (.int .i64 (1 + lenP ys : Nat))).drew) (w.heap.size + 1) 3 (.int .i64 (1 + lenP ys : Nat)) := (n1.set _).other (by omega) _
      have V2 : Boxed (((W.setCell ⟨w.heap.size + 1, 0, none⟩ (.int .i64 (1 + lenP ys : Nat))).setCell ⟨w.heap.size + 1 + 1, 0, none⟩ (.int .i64 (1 + lenP ys : Nat))).drew) (w.heap.size + 1 + 1) 3 (.int .i64 (1 + lenP ys : Nat)) := (n2.other (by omega) _).set _
      have hKO : KeepsOthers W (((W.setCell ⟨w.heap.size + 1, 0, none⟩ (.int .i64 (1 + lenP ys : Nat))).setCell ⟨w.heap.size + 1 + 1, 0, none⟩ (.int .i64 (1 + lenP ys : Nat))).drew) := ((KeepsOthers.setCell _ _ _).trans (KeepsOthers.setCell _ _ _)).trans (KeepsOthers.drew _)
      have hbb : Below w.heap.size w (((W.setCell ⟨w.heap.size + 1, 0, none⟩ (.int .i64 (1 + lenP ys : Nat))).setCell ⟨w.heap.size + 1 + 1, 0, none⟩ (.int .i64 (1 + lenP ys : Nat))).drew) := ((hB.setCell (p := ⟨w.heap.size + 1, 0, none⟩) (by simp) _).setCell (p := ⟨w.heap.size + 1 + 1, 0, none⟩) (by simp; omega) _).drew
      have hK' := hKO.same D _ hK rfl
      refine ⟨by simp, .inl ⟨_, _, rfl, run_takeDeferred hK', ?_⟩⟩
      have hr : ∀ r, some D = some r → ∃ o : Obj, (((W.setCell ⟨w.heap.size + 1, 0, none⟩ (.int .i64 (1 + lenP ys : Nat))).setCell ⟨w.heap.size + 1 + 1, 0, none⟩ (.int .i64 (1 + lenP ys : Nat))).drew).heap[r]? = some o ∧ o.isCells = false := fun r e => by cases e; exact ⟨_, hK', rfl⟩
      have z1 := (boxed_turned V1 (grownBy_putObj' _ D (.deferred none)) hr).cell
      have z2 := (boxed_turned V2 (grownBy_putObj' _ D (.deferred none)) hr).cell
      refine ⟨.tuple #[.int .i64 (1 + lenP ys : Nat), .int .i64 (1 + lenP ys : Nat)], ?_, by rw [HV.out], hbb.trans (belowK_b (w := w) (Nat.le_refl _) _ D _ _ (by simp at hD; omega) hK' rfl rfl)⟩
      simp only [Int.natCast_add, Int.cast_ofNat_Int] at z1 z2
      simp [results, Tryd.f54, go_sem, z1, z2]
  case stop =>
    rintro D c pre W hD hpre ⟨hx, hB⟩ hK
    obtain ⟨suf, hsuf⟩ := hpre
    rcases hx with ⟨rfl, p, y, rfl, hp, hy, n1, n2⟩ | ⟨rfl, p, y, rfl, hp, hy, n1, n2, n3⟩
    · have HV : Hid (findK nm 1 t.ks = (1 + lenP p, 1 + lenP p + (flat y.1.2).length)) := Lib.hid (by
        rw [← HTR.out, ← hsuf, lenP, List.map_append, List.map_append, List.append_assoc]
        exact findK_hit (fun u hu => by obtain ⟨z, hz, rfl⟩ := List.mem_map.1 hu; exact hp z hz) hy)
      gi_wp2_with fail
      refine ⟨by simp, .inl ⟨_, _, rfl, run_takeDeferred hK, ?_⟩⟩
      have hr : ∀ r, some D = some r → ∃ o : Obj, W.heap[r]? = some o ∧ o.isCells = false := fun r e => by cases e; exact ⟨_, hK, rfl⟩
      have z1 := (boxed_turned n1 (grownBy_putObj' _ D (.deferred none)) hr).cell
      have z2 := (boxed_turned n2 (grownBy_putObj' _ D (.deferred none)) hr).cell
      refine ⟨.tuple #[.int .i64 (1 + lenP p : Nat), .int .i64 (1 + lenP p + (flat y.1.2).length : Nat)], ?_, by rw [HV.out], hB.trans (belowK_b (w := w) (Nat.le_refl _) W D _ _ (by simp at hD; omega) hK rfl rfl)⟩
      simp only [Int.natCast_add, Int.cast_ofNat_Int] at z1 z2
      simp [results, Tryd.f54, go_sem, z1, z2]
    · have hmx : Tryd.prog.follows .mixedOrders = true := by kernel_rfl
      have hc1 := n1.cell
      have hc2 := n2.cell
      have hc3 := n3.cell
      have hf1 := n1.frozen
      have hf2 := n2.frozen
      have HV : Hid (findK nm 1 t.ks = (1 + lenP p, 1 + lenP p)) := Lib.hid (by
        rw [← HTR.out, ← hsuf, lenP, List.map_append, List.map_append, List.append_assoc]
        exact findK_over (fun u hu => by obtain ⟨z, hz, rfl⟩ := List.mem_map.1 hu; exact hp z hz) hy)
      gi_wp2_with fail
      gi_region_with_o (fail)
      all_goals gi_wp2_with fail
      all_goals
        have V1 : Boxed (((W.setCell ⟨w.heap.size + 1, 0, none⟩ (.int .i64 (1 + lenP p : Nat))).setCell ⟨w.heap.size + 1 + 1, 0, none⟩ (.int .i64 (1 + lenP p : Nat))).drew) (w.heap.size + 1) 3 (.int .i64 (1 + lenP p : Nat)) := (n1.set _).other (by omega) _
        have V2 : Boxed (((W.setCell ⟨w.heap.size + 1, 0, none⟩ (.int .i64 (1 + lenP p : Nat))).setCell ⟨w.heap.size + 1 + 1, 0, none⟩ (.int .i64 (1 + lenP p : Nat))).drew) (w.heap.size + 1 + 1) 3 (.int .i64 (1 + lenP p : Nat)) := (n2.other (by omega) _).set _
        have hKO : KeepsOthers W (((W.setCell ⟨w.heap.size + 1, 0, none⟩ (.int .i64 (1 + lenP p : Nat))).setCell ⟨w.heap.size + 1 + 1, 0, none⟩ (.int .i64 (1 + lenP p : Nat))).drew) := ((KeepsOthers.setCell _ _ _).trans (KeepsOthers.setCell _ _ _)).trans (KeepsOthers.drew _)
        have hbb : Below w.heap.size w (((W.setCell ⟨w.heap.size + 1, 0, none⟩ (.int .i64 (1 + lenP p : Nat))).setCell ⟨w.heap.size + 1 + 1, 0, none⟩ (.int .i64 (1 + lenP p : Nat))).drew) := ((hB.setCell (p := ⟨w.heap.size + 1, 0, none⟩) (by simp) _).setCell (p := ⟨w.heap.size + 1 + 1, 0, none⟩) (by simp; omega) _).drew
        have hK' := hKO.same D _ hK rfl
        refine ⟨by simp, .inl ⟨_, _, rfl, run_takeDeferred hK', ?_⟩⟩
        have hr : ∀ r, some D = some r → ∃ o : Obj, (((W.setCell ⟨w.heap.size + 1, 0, none⟩ (.int .i64 (1 + lenP p : Nat))).setCell ⟨w.heap.size + 1 + 1, 0, none⟩ (.int .i64 (1 + lenP p : Nat))).drew).heap[r]? = some o ∧ o.isCells = false := fun r e => by cases e; exact ⟨_, hK', rfl⟩
        have z1 := (boxed_turned V1 (grownBy_putObj' _ D (.deferred none)) hr).cell
        have z2 := (boxed_turned V2 (grownBy_putObj' _ D (.deferred none)) hr).cell
        refine ⟨.tuple #[.int .i64 (1 + lenP p : Nat), .int .i64 (1 + lenP p : Nat)], ?_, by rw [HV.out], hbb.trans (belowK_b (w := w) (Nat.le_refl _) _ D _ _ (by simp at hD; omega) hK' rfl rfl)⟩
        simp only [Int.natCast_add, Int.cast_ofNat_Int] at z1 z2
        simp [results, Tryd.f54, go_sem, z1, z2]
end Go.Proofs.YtoomgpbfcpnefaaDoor
