/-
  Joined: AtL7.
-/
import Derived.Test.YtbhgmfddjnkglaaGreatDoorAtomTellsJ30

/-
  What Least answers of atoms that compare with the number one.
-/
namespace Go.Proofs.YtbhgmfddjnkglaaGreatDoor
open Go.RowKit Go.Shelf Np Rw Vp Ov Ap
attribute [local go_sem] Oper.semAt_some

set_option maxRecDepth 100000 in
/-- What atom.candidates hands back: the atoms are boxed; the function value captures the box. -/
theorem cands_in (n : Nat) (A : Option Addr) (m c : Nat) (w : World) :
    CallsIn Fence.wide n Tryz.prog 29 #[.slice A m c] w fun e w' => e = .returned (.func (.func 47) #[] #[.pointer (some ⟨w.heap.size, 0, none⟩)]) ∧ w' = w.alloc (.cells #[.slice A m c] 22) := by
  refine callsIn_of_wp Tryz.func29 rfl trivial ?_ rfl
  simp only [Tryz.ntmps29, List.size_toArray, List.length_cons, List.length_nil, Nat.reduceAdd, Nat.reduceSub, Array.replicate_succ, Array.replicate_zero, List.push_toArray, List.append_toArray, List.nil_append, List.cons_append]
  gi_wp2
  go_ret
  exact ⟨rfl, rfl⟩
theorem cands_stops (n Bn : Nat) (lv : Value) (L : List Atm) (hones : ∀ a ∈ L, a.c = oneN) (hlen : L.length ≤ 100) (w : World) (hc : w.cell? ⟨Bn, 0, none⟩ = some lv) (hL : Ats w lv L) :
    SeqStopsK Fence.wide n Tryz.prog 47 #[.pointer (some ⟨Bn, 0, none⟩)] (fun x : Cnd => #[nda x.1]) Kc (fun ys => ys = candC L.length) (fun pre => pre <+: candC L.length) (candC L.length).length w := fun l J Jx W hW hJ _ hY h0 =>
  cands1_in n l Bn lv L J Jx hones hlen W hJ (fun m' => Rnd.any (m := n - 1) hY m') ((hW.cell (p := ⟨Bn, 0, none⟩) (World.block_lt_of_cell? _ _ hc)).trans hc) (hL.below hW) h0
/-- Does a candidate pass? -/
def tst (mask : Nat) (L : List Atm) (c : Cnd) : Bool := letsK mask c.1.kind.toNat && L.all (holdsA c.1)
/-- The first candidate that is a member. -/
def leastP (mask : Nat) (L : List Atm) : Nd × Bool := match (candC L.length).find? (tst mask L) with
  | some c => (c.1, true)
  | none => (kindN 0, false)
theorem least_none {mask : Nat} {L : List Atm} (h : ∀ c ∈ candC L.length, tst mask L c = false) : leastP mask L = (kindN 0, false) := by
  unfold leastP
  rw [List.find?_eq_none.2 (fun c hc => by rw [h c hc]; decide)]
theorem least_some {mask : Nat} {L : List Atm} {pre : List Cnd} {x : Cnd} (h : ∀ c ∈ pre, tst mask L c = false) (hx : tst mask L x = true) (hp : pre ++ [x] <+: candC L.length) : leastP mask L = (x.1, true) := by
  obtain ⟨suf, he⟩ := hp
  unfold leastP
  rw [← he, List.append_assoc, List.find?_append, List.find?_eq_none.2 (fun c hc => by rw [h c hc]; decide)]
  simp [hx]
/-- Between two rounds of Least. -/
structure LI (mask : Nat) (L : List Atm) (V : Value) (b fb : Nat) (w : World) (pre : List Cnd) (W : World) : Prop where
  nope : ∀ c ∈ pre, tst mask L c = false
  mkc : Boxed W b 3 (.int .i64 mask)
  nd : W.heap[b + 1]? = some (.cells (nds (kindN 0)) 24 (0, 0))
  ok : Boxed W (b + 1 + 1) 4 (.bool false)
  few : G2 W fb V (.slice none 0 0)
  row : Ats W V L
  below : Below b w W
theorem LI.stay {mask : Nat} {L : List Atm} {V : Value} {b fb : Nat} {w : World} {pre : List Cnd} {W W' : World} (h : LI mask L V b fb w pre W) (hb : Below W.heap.size W W') (hbw : b ≤ W.heap.size) : LI mask L V b fb w pre W' :=
  ⟨h.nope, (hb.block _ h.mkc.lt).trans h.mkc, (hb.block _ (Array.getElem?_eq_some_iff.1 h.nd).1).trans h.nd, (hb.block _ h.ok.lt).trans h.ok, h.few.below hb, h.row.below hb, h.below.trans (hb.mono hbw)⟩
theorem LI.own (mask : Nat) (L : List Atm) (V : Value) (b fb : Nat) (w : World) (B : Nat) (hb : b ≤ w.heap.size) (hB : b ≤ B) : OwnFrom B (LI mask L V b fb w) := by
  intro s W W' row hs hg hr
  have hr' : ∀ r, row = some r → ∃ o : Obj, W.heap[r]? = some o ∧ o.isCells = false := fun r e => (hr r e).2
  exact ⟨hs.nope, (grownBy_keeps_cells hg hr' hs.mkc rfl).trans hs.mkc, (grownBy_keeps_cells hg hr' hs.nd rfl).trans hs.nd, (grownBy_keeps_cells hg hr' hs.ok rfl).trans hs.ok, (grownBy_keeps_cells hg hr' hs.few rfl).trans hs.few, hs.row.turned hg hr', ownFrom_below (β := Unit) hb hB () W W' row hs.below hg hr⟩
/-- A round of Least has told what it found. -/
structure LX (mask : Nat) (L : List Atm) (b : Nat) (w : World) (pre : List Cnd) (W : World) : Prop where
  told : ∃ pre' x, pre = pre' ++ [x] ∧ (∀ c ∈ pre', tst mask L c = false) ∧ tst mask L x = true ∧ Nd6 W (b + 1) 0 x.1
  ok : W.cell? ⟨b + 1 + 1, 0, none⟩ = some (.bool true)
  below : Below b w W
theorem LX.own (mask : Nat) (L : List Atm) (b : Nat) (w : World) (B : Nat) (hb : b ≤ w.heap.size) (hB : b ≤ B) : OwnFrom B (LX mask L b w) := by
  intro s W W' row hs hg hr
  have hr' : ∀ r, row = some r → ∃ o : Obj, W.heap[r]? = some o ∧ o.isCells = false := fun r e => (hr r e).2
  obtain ⟨⟨pre', x, h1, h2, h3, h4⟩, h5, h6⟩ := hs
  exact ⟨⟨pre', x, h1, h2, h3, ⟨cell_kept h4.c0 hg hr', cell_kept h4.c1 hg hr', cell_kept h4.c2 hg hr', cell_kept h4.c3 hg hr', cell_kept h4.c4 hg hr', cell_kept h4.c5 hg hr'⟩⟩, cell_kept h5 hg hr', ownFrom_below (β := Unit) hb hB () W W' row h6 hg hr⟩
set_option maxRecDepth 100000 in
set_option maxHeartbeats 4000000 in
theorem least_any (mask : Nat) (lv : Value) (L : List Atm) (w : World) (hL : Ats w lv L) (hones : ∀ a ∈ L, a.c = oneN) (hways : Ways L) (hr : ∀ a ∈ L, rightA a = true) (hlen : L.length ≤ 100) (hT : Tabs w) (hLt : Lts w) (hm : mask ≤ 31) :
    Calls Tryz.prog 16 #[.int .i64 mask, lv] w fun e w' => e = .returned (.tuple #[nda (leastP mask L).1, .bool (leastP mask L).2]) ∧ Below w.heap.size w w' := by
  have HL := Lib.hid hL
  obtain ⟨P, pc, rfl, -⟩ := hL
  have HG := Lib.hid (fun (W : World) (hW : Below w.heap.size w W) => gistOf_any _ L W (HL.out.below hW) hlen hways)
  have HT := Lib.hid hT
  have HLT := Lib.hid hLt
  have HRA := Lib.hid hr
  clear hT hLt hr
  refine (callsIn_wide (n := 9)).1 ?_
  refine callsIn_of_wp_marks Tryz.func16 rfl trivial ?_ rfl
  simp only [Tryz.ntmps16, List.size_toArray, List.length_cons, List.length_nil, Nat.reduceAdd, Nat.reduceSub, Array.replicate_succ, Array.replicate_zero, List.push_toArray, List.append_toArray, List.nil_append, List.cons_append]
  gi_wp2_with fail
  have hB0 : Below w.heap.size w (((w.alloc (.cells #[.int .i64 mask] 3)).alloc (.cells (nds (kindN 0)) 24)).alloc (.cells #[.bool false] 4)) := (((Below.refl _ _).alloc (Nat.le_refl _) _).alloc (by simp) _).alloc (by simp; omega) _
  have hm0 : Boxed (((w.alloc (.cells #[.int .i64 mask] 3)).alloc (.cells (nds (kindN 0)) 24)).alloc (.cells #[.bool false] 4)) w.heap.size 3 (.int .i64 mask) := ((Boxed.new w _ _).alloc _).alloc _
  have hn0 : (((w.alloc (.cells #[.int .i64 mask] 3)).alloc (.cells (nds (kindN 0)) 24)).alloc (.cells #[.bool false] 4)).heap[w.heap.size + 1]? = some (.cells (nds (kindN 0)) 24 (0, 0)) := by
    have h1 := heap_alloc_new (w.alloc (.cells #[.int .i64 mask] 3)) (.cells (nds (kindN 0)) 24)
    rw [World.size_alloc] at h1
    exact (Below.heap_alloc _ _ _ (by simp)).trans h1
  have hb0 : Boxed (((w.alloc (.cells #[.int .i64 mask] 3)).alloc (.cells (nds (kindN 0)) 24)).alloc (.cells #[.bool false] 4)) (w.heap.size + 1 + 1) 4 (.bool false) := by
    have := Boxed.new ((w.alloc (.cells #[.int .i64 mask] 3)).alloc (.cells (nds (kindN 0)) 24)) 4 (.bool false)
    rwa [World.size_alloc, World.size_alloc] at this
  simp only [kindN] at hB0 hm0 hn0 hb0
  generalize ((w.alloc _).alloc _).alloc _ = W0 at hB0 hm0 hn0 hb0 ⊢
  refine ⟨trivial, (callsIn_wide.2 (HG.out W0 hB0)).mono ?_⟩
  rintro e W1 ⟨v, rfl, hv1, hb1⟩
  have hB1 := hB0.trans (hb1.mono hB0.size)
  have hm1 : Boxed W1 w.heap.size 3 (.int .i64 mask) := (hb1.block _ hm0.lt).trans hm0
  have hb1' : Boxed W1 (w.heap.size + 1 + 1) 4 (.bool false) := (hb1.block _ hb0.lt).trans hb0
  have hn1 := (hb1.block _ (Array.getElem?_eq_some_iff.1 hn0).1).trans hn0
  obtain ⟨A, c, rfl, -⟩ := id hv1
  clear hb1 hm0 hb0 hn0 hB0
  gi_wp2_with (refine ⟨trivial, ?_⟩; gi_at_call 29; refine (cands_in _ _ _ _ _).mono ?_; rintro e w' ⟨rfl, rfl⟩)
  have hb2 : Below W1.heap.size W1 ((W1.alloc (.cells #[.slice A L.length c, .slice none 0 0] 53)).alloc (.cells #[.slice P L.length pc] 22)) := ((Below.refl _ _).alloc (Nat.le_refl _) _).alloc (by simp) _
  have hf2 : G2 ((W1.alloc (.cells #[.slice A L.length c, .slice none 0 0] 53)).alloc (.cells #[.slice P L.length pc] 22)) W1.heap.size (.slice A L.length c) (.slice none 0 0) := G2.below (heap_alloc_new W1 _) ((Below.refl _ _).alloc (Nat.le_refl _) _)
  have hx2 : Boxed ((W1.alloc (.cells #[.slice A L.length c, .slice none 0 0] 53)).alloc (.cells #[.slice P L.length pc] 22)) (W1.heap.size + 1) 22 (.slice P L.length pc) := by
    have := Boxed.new (W1.alloc (.cells #[.slice A L.length c, .slice none 0 0] 53)) 22 (.slice P L.length pc)
    rwa [World.size_alloc] at this
  have hbw1 : w.heap.size ≤ W1.heap.size := hB1.size
  have hI0 : LI mask L (.slice A L.length c) w.heap.size W1.heap.size w [] ((W1.alloc (.cells #[.slice A L.length c, .slice none 0 0] 53)).alloc (.cells #[.slice P L.length pc] 22)) :=
    ⟨by simp, (hb2.block _ hm1.lt).trans hm1, (hb2.block _ (Array.getElem?_eq_some_iff.1 hn1).1).trans hn1, (hb2.block _ hb1'.lt).trans hb1', hf2, hv1.below hb2, hB1.trans (hb2.mono hbw1)⟩
  have hL2 := HL.out.below (hB1.trans (hb2.mono hbw1))
  have hs2 : W1.heap.size ≤ ((W1.alloc (.cells #[.slice A L.length c, .slice none 0 0] 53)).alloc (.cells #[.slice P L.length pc] 22)).heap.size := hb2.size
  have hlb : w.heap.size + 1 + 1 < W1.heap.size := hb1'.lt
  clear hb2 hf2 hm1 hn1 hb1' hv1
  generalize (W1.alloc _).alloc _ = W2 at hx2 hI0 hL2 hs2 ⊢
  generalize hfb : W1.heap.size = fb at *
  clear hfb
  refine wpIn_rangeFunc_ownH rfl (by omega) (gf := 47) (lb := #[.pointer (some ⟨fb + 1, 0, none⟩)]) rfl trivial (enters_of Tryz.func47 (by kernel_rfl) rfl)
    (cands_stops _ (fb + 1) _ L hones hlen W2 hx2.cell hL2) Kc.trans (fun W l o o' _ h hc _ => Kc.put W l o o' h hc) (Below.refl _ _) (fun _ => rfl)
    (LI mask L (.slice A L.length c) w.heap.size fb w) (fun cc pre W => cc = .ret ∧ LX mask L w.heap.size w pre W)
    (LI.own mask L _ _ _ w _ (Nat.le_refl _) (by omega)) (fun cc s W W' row hs hg hr => ⟨hs.1, LX.own mask L _ w _ (Nat.le_refl _) (by omega) s W W' row hs.2 hg hr⟩)
    hI0
    (fun x a' W => ∃ Bx, fb < Bx ∧ W.heap[Bx]? = some (.cells (nds x.1) 24 (0, 0)) ∧ a' = { tmps := #[.int .i64 mask, .slice P L.length pc, .pointer (some ⟨w.heap.size, 0, none⟩), undef, .pointer (some ⟨w.heap.size + 1, 0, none⟩), .pointer (some ⟨w.heap.size + 1 + 1, 0, none⟩), .pointer (some ⟨fb, 0, none⟩), .pointer (some ⟨Bx, 0, none⟩), .slice P L.length pc, .agg #[.slice A L.length c, .slice none 0 0], .slice P L.length pc, .func (.func 47) #[] #[.pointer (some ⟨fb + 1, 0, none⟩)], nda x.1, undef, undef, undef, undef, undef, undef, undef, undef, undef], defers := [] })
    (fun x a' _ X Y row hs hg hr => by obtain ⟨Bx, h1, h2, h3⟩ := hs; exact ⟨Bx, h1, (grownBy_keeps_cells hg (fun r e => (hr r e).2) h2 rfl).trans h2, h3⟩)
    ?assign ?body ?done ?stop
  case assign =>
    rintro l pre x W K hI hK
    have hal : Below W.heap.size W (W.alloc (.cells (nds x.1) 24)) := (Below.refl _ _).alloc (Nat.le_refl _) _
    have HF := Lib.hid (hK _ (W.alloc (.cells (nds x.1) 24)) ((keeps_below hal).from _) (Kc.of_below hal) (hI.stay hal hI.below.size) ⟨W.heap.size, hI.few.lt, heap_alloc_new W _, rfl⟩)
    clear hK hal
    gi_wp2_with fail
    exact HF.out
  case body =>
    rintro l pre x a' W hl ⟨r, hr⟩ hI ⟨Bx, hBx, hX, rfl⟩ hlt
    have HI := Lib.hid hI
    have hxl : Bx < W.heap.size := (Array.getElem?_eq_some_iff.1 hX).1
    have HXN : Hid (∀ W', Below W.heap.size W W' → W'.cell? ⟨Bx, 0, none⟩ = some (.int .i64 x.1.kind) ∧ W'.cell? ⟨Bx, 1, none⟩ = some (.int .i64 x.1.many) ∧ W'.cell? ⟨Bx, 2, none⟩ = some (.string ⟨x.1.name.toArray⟩) ∧ W'.cell? ⟨Bx, 3, none⟩ = some (.string ⟨x.1.s.toArray⟩) ∧ W'.cell? ⟨Bx, 4, none⟩ = some (.bool x.1.neg) ∧ W'.cell? ⟨Bx, 5, none⟩ = some (.int .i64 x.1.e)) := Lib.hid fun W' hW' => by
      have h := (hW'.block Bx hxl).trans hX
      refine ⟨?_, ?_, ?_, ?_, ?_, ?_⟩ <;> (rw [Lib.cell_of_heap h]; rfl)
    have HIL : Hid (∀ W', Below W.heap.size W W' → Calls Tryz.prog 24 #[.int .i64 mask, nda x.1] W' fun e w' => e = .returned (.bool (letsK mask x.1.kind.toNat)) ∧ Below W'.heap.size W' w') := Lib.hid fun W' hW' => by
      have := isLet_any mask x.1 W' x.2.2 (HT.out.below (hI.below.trans (hW'.mono hI.below.size))) hm
      rwa [x.2.1, Bool.true_and] at this
    have HHO : Hid (∀ W', Below W.heap.size W W' → Calls Tryz.prog 30 #[.pointer (some ⟨fb, 0, none⟩), nda x.1] W' fun e w' => e = .returned (.bool (L.all (holdsA x.1))) ∧ Below W'.heap.size W' w') := Lib.hid fun W' hW' => by
      have h1 := hI.few.below hW'
      exact gistHolds_any fb _ L x.1 W' h1.cell h1.cell1 (hI.row.below hW') HRA.out x.2.1 (HLT.out.below (hI.below.trans (hW'.mono hI.below.size)))
    have cm := hI.mkc.cell
    obtain ⟨z0, z1, z2, z3, z4, z5⟩ := HXN.out W (Below.refl _ _)
    have HTS : Hid (tst mask L x = (letsK mask x.1.kind.toNat && L.all (holdsA x.1))) := Lib.hid rfl
    clear hI hr hX
    gi_wp2_with fail
    refine ⟨trivial, (CallsIn.inRound l (callsIn_wide.2 (HIL.out W (Below.refl _ _)))).mono ?_⟩
    rintro e W3 ⟨rfl, hb3⟩
    have hI3 := HI.out.stay hb3 HI.out.below.size
    have HB3 := Lib.hid hb3
    obtain ⟨y0, y1, y2, y3, y4, y5⟩ := HXN.out W3 hb3
    clear z0 z1 z2 z3 z4 z5 cm hb3 HIL
    cases hle : letsK mask x.1.kind.toNat with
    | false =>
      have HT2 : Hid (tst mask L x = false) := Lib.hid (by rw [HTS.out, hle]; rfl)
      have HI3 := Lib.hid hI3
      clear HTS hle hI3
      gi_wp2_with fail
      refine ⟨trivial, ?_⟩
      gi_wp2_with fail
      exact ⟨(keeps_below HB3.out).from _, Kc.of_below HB3.out, ⟨fun c hc => by
        rcases List.mem_append.1 hc with h | h
        · exact HI3.out.nope c h
        · simp at h; subst h; exact HT2.out, HI3.out.mkc, HI3.out.nd, HI3.out.ok, HI3.out.few, HI3.out.row, HI3.out.below⟩⟩
    | true =>
      have HTS2 : Hid (tst mask L x = L.all (holdsA x.1)) := Lib.hid (by rw [HTS.out, hle]; rfl)
      have HI3 := Lib.hid hI3
      clear HTS hle hI3
      gi_wp2_with fail
      refine ⟨trivial, (CallsIn.inRound l (callsIn_wide.2 (HHO.out W3 HB3.out))).mono ?_⟩
      rintro e W4 ⟨rfl, hb4⟩
      have hI4 := HI3.out.stay hb4 HI3.out.below.size
      have HB4 := Lib.hid (Below.after HB3.out hb4)
      obtain ⟨u0, u1, u2, u3, u4, u5⟩ := HXN.out W4 HB4.out
      clear y0 y1 y2 y3 y4 y5 hb4 HHO HB3 HI3
      cases hal : L.all (holdsA x.1) with
      | false =>
        have HT2 : Hid (tst mask L x = false) := Lib.hid (by rw [HTS2.out, hal])
        have HI4 := Lib.hid hI4
        clear HTS2 hal hI4
        gi_wp2_with fail
        exact ⟨(keeps_below HB4.out).from _, Kc.of_below HB4.out, ⟨fun c hc => by
          rcases List.mem_append.1 hc with h | h
          · exact HI4.out.nope c h
          · simp at h; subst h; exact HT2.out, HI4.out.mkc, HI4.out.nd, HI4.out.ok, HI4.out.few, HI4.out.row, HI4.out.below⟩⟩
      | true =>
        have HT2 : Hid (tst mask L x = true) := Lib.hid (by rw [HTS2.out, hal])
        have HI4 := Lib.hid hI4
        have hnd := hI4.nd
        have r0 : W4.cell? ⟨w.heap.size + 1, 0, none⟩ = some (.int .i64 0) := by rw [Lib.cell_of_heap hnd]; rfl
        have r1 : W4.cell? ⟨w.heap.size + 1, 1, none⟩ = some (.int .i64 0) := by rw [Lib.cell_of_heap hnd]; rfl
        have r2 : W4.cell? ⟨w.heap.size + 1, 2, none⟩ = some (.string ⟨#[]⟩) := by rw [Lib.cell_of_heap hnd]; rfl
        have r3 : W4.cell? ⟨w.heap.size + 1, 3, none⟩ = some (.string ⟨#[]⟩) := by rw [Lib.cell_of_heap hnd]; rfl
        have r4 : W4.cell? ⟨w.heap.size + 1, 4, none⟩ = some (.bool false) := by rw [Lib.cell_of_heap hnd]; rfl
        have r5 : W4.cell? ⟨w.heap.size + 1, 5, none⟩ = some (.int .i64 0) := by rw [Lib.cell_of_heap hnd]; rfl
        have fr : ∀ i, W4.frozen? ⟨w.heap.size + 1, i, none⟩ = false := fun i => by simp [World.frozen?, hnd]
        have ro := hI4.ok.cell
        have rof := hI4.ok.frozen
        have hb1 : w.heap.size ≤ w.heap.size + 1 := Nat.le_succ _
        have hb2 : w.heap.size ≤ w.heap.size + 1 + 1 := by omega
        clear HTS2 hal hI4 hnd
        gi_wp2_with fail
        refine ⟨(((((((((keeps_below HB4.out).trans (KeepsOthers.setCell _ _ _)).trans (KeepsOthers.setCell _ _ _)).trans (KeepsOthers.setCell _ _ _)).trans (KeepsOthers.setCell _ _ _)).trans (KeepsOthers.setCell _ _ _)).trans (KeepsOthers.setCell _ _ _)).trans (KeepsOthers.setCell _ _ _))).from _, rfl, ⟨⟨pre, x, rfl, HI4.out.nope, HT2.out, ?_⟩, ?_, ?_⟩⟩
        · refine ⟨?_, ?_, ?_, ?_, ?_, ?_⟩ <;> simp [go_sem, r0, r1, r2, r3, r4, r5]
        · simp [go_sem, ro]
        · exact ((((((HI4.out.below.setCell hb1 _).setCell hb1 _).setCell hb1 _).setCell hb1 _).setCell hb1 _).setCell hb1 _).setCell hb2 _
  case done =>
    rintro D ys W hD rfl hI hK
    have hans := least_none (mask := mask) hI.nope
    have hnd := hI.nd
    have r0 : W.cell? ⟨w.heap.size + 1, 0, none⟩ = some (.int .i64 0) := by rw [Lib.cell_of_heap hnd]; rfl
    have r1 : W.cell? ⟨w.heap.size + 1, 1, none⟩ = some (.int .i64 0) := by rw [Lib.cell_of_heap hnd]; rfl
    have r2 : W.cell? ⟨w.heap.size + 1, 2, none⟩ = some (.string ⟨#[]⟩) := by rw [Lib.cell_of_heap hnd]; rfl
    have r3 : W.cell? ⟨w.heap.size + 1, 3, none⟩ = some (.string ⟨#[]⟩) := by rw [Lib.cell_of_heap hnd]; rfl
    have r4 : W.cell? ⟨w.heap.size + 1, 4, none⟩ = some (.bool false) := by rw [Lib.cell_of_heap hnd]; rfl
    have r5 : W.cell? ⟨w.heap.size + 1, 5, none⟩ = some (.int .i64 0) := by rw [Lib.cell_of_heap hnd]; rfl
    have fr : ∀ i, W.frozen? ⟨w.heap.size + 1, i, none⟩ = false := fun i => by simp [World.frozen?, hnd]
    have ro := hI.ok.cell
    have rof := hI.ok.frozen
    have HBW := Lib.hid hI.below
    have HD := Lib.hid hK
    have hDl : w.heap.size ≤ D := Nat.le_trans (by omega) hD
    have HAN := Lib.hid hans
    have hb1 : w.heap.size ≤ w.heap.size + 1 := Nat.le_succ _
    have hb2 : w.heap.size ≤ w.heap.size + 1 + 1 := by omega
    clear hnd hI hK hans
    have hne : D ≠ w.heap.size + 1 := by omega
    have hne2 : D ≠ w.heap.size + 1 + 1 := by omega
    gi_wp2_with fail
    have HBF := Lib.hid (((((((HBW.out.setCell (p := ⟨w.heap.size + 1, 0, none⟩) hb1 (.int .i64 0)).setCell (p := ⟨w.heap.size + 1, 1, none⟩) hb1 (.int .i64 0)).setCell (p := ⟨w.heap.size + 1, 2, none⟩) hb1 (.string ⟨#[]⟩)).setCell (p := ⟨w.heap.size + 1, 3, none⟩) hb1 (.string ⟨#[]⟩)).setCell (p := ⟨w.heap.size + 1, 4, none⟩) hb1 (.bool false)).setCell (p := ⟨w.heap.size + 1, 5, none⟩) hb1 (.int .i64 0)).setCell (p := ⟨w.heap.size + 1 + 1, 0, none⟩) hb2 (.bool false))
    have hs : ∀ (X : World) (q : Addr) (u : Value), q.block ≠ D → X.heap[D]? = some (.deferred (some [])) → (X.setCell q u).heap[D]? = some (.deferred (some [])) := fun X q u hq hX => by
      rw [Below.heap_setCell X q u D (fun e => hq e.symm)]; exact hX
    have hK' := hs _ ⟨w.heap.size + 1 + 1, 0, none⟩ (.bool false) hne2.symm (hs _ ⟨w.heap.size + 1, 5, none⟩ (.int .i64 0) hne.symm (hs _ ⟨w.heap.size + 1, 4, none⟩ (.bool false) hne.symm (hs _ ⟨w.heap.size + 1, 3, none⟩ (.string ⟨#[]⟩) hne.symm (hs _ ⟨w.heap.size + 1, 2, none⟩ (.string ⟨#[]⟩) hne.symm (hs _ ⟨w.heap.size + 1, 1, none⟩ (.int .i64 0) hne.symm (hs _ ⟨w.heap.size + 1, 0, none⟩ (.int .i64 0) hne.symm HD.out))))))
    have gn0 : (((((((W.setCell ⟨w.heap.size + 1, 0, none⟩ (.int .i64 0)).setCell ⟨w.heap.size + 1, 1, none⟩ (.int .i64 0)).setCell ⟨w.heap.size + 1, 2, none⟩ (.string ⟨#[]⟩)).setCell ⟨w.heap.size + 1, 3, none⟩ (.string ⟨#[]⟩)).setCell ⟨w.heap.size + 1, 4, none⟩ (.bool false)).setCell ⟨w.heap.size + 1, 5, none⟩ (.int .i64 0)).setCell ⟨w.heap.size + 1 + 1, 0, none⟩ (.bool false)).cell? ⟨w.heap.size + 1, 0, none⟩ = some (.int .i64 0) := by simp [go_sem, r0]
    have gn1 : (((((((W.setCell ⟨w.heap.size + 1, 0, none⟩ (.int .i64 0)).setCell ⟨w.heap.size + 1, 1, none⟩ (.int .i64 0)).setCell ⟨w.heap.size + 1, 2, none⟩ (.string ⟨#[]⟩)).setCell ⟨w.heap.size + 1, 3, none⟩ (.string ⟨#[]⟩)).setCell ⟨w.heap.size + 1, 4, none⟩ (.bool false)).setCell ⟨w.heap.size + 1, 5, none⟩ (.int .i64 0)).setCell ⟨w.heap.size + 1 + 1, 0, none⟩ (.bool false)).cell? ⟨w.heap.size + 1, 1, none⟩ = some (.int .i64 0) := by simp [go_sem, r1]
    have gn2 : (((((((W.setCell ⟨w.heap.size + 1, 0, none⟩ (.int .i64 0)).setCell ⟨w.heap.size + 1, 1, none⟩ (.int .i64 0)).setCell ⟨w.heap.size + 1, 2, none⟩ (.string ⟨#[]⟩)).setCell ⟨w.heap.size + 1, 3, none⟩ (.string ⟨#[]⟩)).setCell ⟨w.heap.size + 1, 4, none⟩ (.bool false)).setCell ⟨w.heap.size + 1, 5, none⟩ (.int .i64 0)).setCell ⟨w.heap.size + 1 + 1, 0, none⟩ (.bool false)).cell? ⟨w.heap.size + 1, 2, none⟩ = some (.string ⟨#[]⟩) := by simp [go_sem, r2]
    have gn3 : (((((((W.setCell ⟨w.heap.size + 1, 0, none⟩ (.int .i64 0)).setCell ⟨w.heap.size + 1, 1, none⟩ (.int .i64 0)).setCell ⟨w.heap.size + 1, 2, none⟩ (.string ⟨#[]⟩)).setCell ⟨w.heap.size + 1, 3, none⟩ (.string ⟨#[]⟩)).setCell ⟨w.heap.size + 1, 4, none⟩ (.bool false)).setCell ⟨w.heap.size + 1, 5, none⟩ (.int .i64 0)).setCell ⟨w.heap.size + 1 + 1, 0, none⟩ (.bool false)).cell? ⟨w.heap.size + 1, 3, none⟩ = some (.string ⟨#[]⟩) := by simp [go_sem, r3]
    have gn4 : (((((((W.setCell ⟨w.heap.size + 1, 0, none⟩ (.int .i64 0)).setCell ⟨w.heap.size + 1, 1, none⟩ (.int .i64 0)).setCell ⟨w.heap.size + 1, 2, none⟩ (.string ⟨#[]⟩)).setCell ⟨w.heap.size + 1, 3, none⟩ (.string ⟨#[]⟩)).setCell ⟨w.heap.size + 1, 4, none⟩ (.bool false)).setCell ⟨w.heap.size + 1, 5, none⟩ (.int .i64 0)).setCell ⟨w.heap.size + 1 + 1, 0, none⟩ (.bool false)).cell? ⟨w.heap.size + 1, 4, none⟩ = some (.bool false) := by simp [go_sem, r4]
    have gn5 : (((((((W.setCell ⟨w.heap.size + 1, 0, none⟩ (.int .i64 0)).setCell ⟨w.heap.size + 1, 1, none⟩ (.int .i64 0)).setCell ⟨w.heap.size + 1, 2, none⟩ (.string ⟨#[]⟩)).setCell ⟨w.heap.size + 1, 3, none⟩ (.string ⟨#[]⟩)).setCell ⟨w.heap.size + 1, 4, none⟩ (.bool false)).setCell ⟨w.heap.size + 1, 5, none⟩ (.int .i64 0)).setCell ⟨w.heap.size + 1 + 1, 0, none⟩ (.bool false)).cell? ⟨w.heap.size + 1, 5, none⟩ = some (.int .i64 0) := by simp [go_sem, r5]
    have go0 : (((((((W.setCell ⟨w.heap.size + 1, 0, none⟩ (.int .i64 0)).setCell ⟨w.heap.size + 1, 1, none⟩ (.int .i64 0)).setCell ⟨w.heap.size + 1, 2, none⟩ (.string ⟨#[]⟩)).setCell ⟨w.heap.size + 1, 3, none⟩ (.string ⟨#[]⟩)).setCell ⟨w.heap.size + 1, 4, none⟩ (.bool false)).setCell ⟨w.heap.size + 1, 5, none⟩ (.int .i64 0)).setCell ⟨w.heap.size + 1 + 1, 0, none⟩ (.bool false)).cell? ⟨w.heap.size + 1 + 1, 0, none⟩ = some (.bool false) := by simp [go_sem, ro]
    refine ⟨by simp, .inl ⟨_, _, rfl, run_takeDeferred hK', ?_⟩⟩
    have HBF' := HBF.out
    clear r0 r1 r2 r3 r4 r5 ro rof fr HBF hs
    generalize ((((((W.setCell ⟨w.heap.size + 1, 0, none⟩ (.int .i64 0)).setCell ⟨w.heap.size + 1, 1, none⟩ (.int .i64 0)).setCell ⟨w.heap.size + 1, 2, none⟩ (.string ⟨#[]⟩)).setCell ⟨w.heap.size + 1, 3, none⟩ (.string ⟨#[]⟩)).setCell ⟨w.heap.size + 1, 4, none⟩ (.bool false)).setCell ⟨w.heap.size + 1, 5, none⟩ (.int .i64 0)).setCell ⟨w.heap.size + 1 + 1, 0, none⟩ (.bool false) = Wf at *
    have hgr := grownBy_putObj' Wf D (.deferred none)
    have hro : ∀ r, some D = some r → ∃ o : Obj, Wf.heap[r]? = some o ∧ o.isCells = false := fun r e => by cases e; exact ⟨_, hK', rfl⟩
    have k0 := cell_kept gn0 hgr hro
    have k1 := cell_kept gn1 hgr hro
    have k2 := cell_kept gn2 hgr hro
    have k3 := cell_kept gn3 hgr hro
    have k4 := cell_kept gn4 hgr hro
    have k5 := cell_kept gn5 hgr hro
    have k6 := cell_kept go0 hgr hro
    refine ⟨.tuple #[nda (kindN 0), .bool false], ?_, by rw [HAN.out], HBF'.trans (belowK_b (w := w) (Nat.le_refl _) Wf D _ _ hDl hK' rfl rfl)⟩
    simp [results, Tryz.results16, go_sem, k0, k1, k2, k3, k4, k5, k6, kindN]
  case stop =>
    rintro D cc pre W hD hSp ⟨rfl, hX⟩ hK
    obtain ⟨⟨pre', x, rfl, h2, h3, h4⟩, h5, h6⟩ := hX
    have HAN := Lib.hid (least_some h2 h3 hSp)
    obtain ⟨r0, r1, r2, r3, r4, r5⟩ := h4
    simp only [Nat.zero_add] at r1 r2 r3 r4 r5
    have HD := Lib.hid hK
    have HB := Lib.hid h6
    clear h2 h3 hSp hK h6
    gi_wp2_with fail
    refine ⟨by simp, .inl ⟨_, _, rfl, run_takeDeferred HD.out, ?_⟩⟩
    have hDl : w.heap.size ≤ D := Nat.le_trans (by omega) hD
    have hgr := grownBy_putObj' W D (.deferred none)
    have hro : ∀ r, some D = some r → ∃ o : Obj, W.heap[r]? = some o ∧ o.isCells = false := fun r e => by cases e; exact ⟨_, HD.out, rfl⟩
    have k0 := cell_kept r0 hgr hro
    have k1 := cell_kept r1 hgr hro
    have k2 := cell_kept r2 hgr hro
    have k3 := cell_kept r3 hgr hro
    have k4 := cell_kept r4 hgr hro
    have k5 := cell_kept r5 hgr hro
    have k6 := cell_kept h5 hgr hro
    refine ⟨.tuple #[nda x.1, .bool true], ?_, by rw [HAN.out], HB.out.trans (belowK_b (w := w) (Nat.le_refl _) W D _ _ hDl HD.out rfl rfl)⟩
    simp [results, Tryz.results16, go_sem, k0, k1, k2, k3, k4, k5, k6]
end Go.Proofs.YtbhgmfddjnkglaaGreatDoor
