/-
  Joined: AtB1.
-/
import Derived.Test.YtbhgmfddjnkglaaGreatDoorAtomTellsJ5
import Derived.Test.YtbhgmfddjnkglaaGreatDoorAtomTellsJ28
import Derived.Test.YtbhgmfddjnkglaaGreatDoorAtomTellsJ8
import Derived.Deep.RegionHeld3

/-
  The numbers beside one: what Beside answers of the number one, above and below.
-/
namespace Go.Proofs.YtbhgmfddjnkglaaGreatDoor
open Go.RowKit Np Rw Vp Ov Ap

def oneN : Nd := ⟨3, 0, [], [49], false, 0⟩
def upF : List UInt8 := 49 :: (List.replicate 98 48 ++ [49])
def dnF : List UInt8 := List.replicate 100 57
def upN : Nd := ⟨3, 0, [], upF, false, -99⟩
def dnN : Nd := ⟨3, 0, [], dnF, false, -100⟩
def sF : List UInt8 := 48 :: 49 :: List.replicate 99 48
theorem sF_sum : (ByteArray.mk #[48, 49]) ++ ⟨(Lib.repeatL [48] 99).toArray⟩ = ⟨sF.toArray⟩ := by decide +kernel
theorem rep_len : (Lib.repeatL [48] 99).length = 99 := by decide +kernel
theorem sF_trim : Lib.trimRightB sF 57 = sF := by decide +kernel
theorem sF_last : sF = (48 :: 49 :: List.replicate 98 48) ++ [48] := by decide +kernel
theorem sF_up : (48 :: 49 :: List.replicate 98 48) ++ [49] = 48 :: upF := by decide +kernel
theorem sF_len : sF.length = 101 := by decide +kernel
theorem dF_sum : (ByteArray.mk #[48]) ++ ⟨(Lib.repeatL [57] 100).toArray⟩ = ⟨(48 :: dnF).toArray⟩ := by decide +kernel
theorem rep_len9 : (Lib.repeatL [57] 100).length = 100 := by decide +kernel
theorem mk_up : mk false (48 :: upF) (-99) = (upN, 0) := by decide +kernel
theorem mk_dn : mk false (48 :: dnF) (-100) = (dnN, 0) := by decide +kernel
theorem oneN_right : right oneN = true := by decide +kernel
theorem oneN_pln : pln oneN = true := by decide +kernel
theorem upN_pln : pln upN = true := by decide +kernel
theorem dnN_pln : pln dnN = true := by decide +kernel

theorem enc_ascii (d : UInt8) (h : d.toNat < 128) : Utf8.encode (d.toNat : Int) = ⟨#[d]⟩ := by
  have hv : Utf8.valid (d.toNat : Int) = true := by simp [Utf8.valid]; omega
  simp only [Utf8.encode, hv, if_true, Int.toNat_natCast]
  rw [if_pos h]
  simp
set_option maxRecDepth 100000 in
theorem finest_any (p : Int) (w : World) (h0 : -900 ≤ p) (h1 : p ≤ 1000) : Calls Tryz.prog 64 #[.int .i64 p] w fun e w' => e = .returned (.int .i64 (p - 100)) ∧ Below w.heap.size w w' := by
  have hB : Below w.heap.size w w := Below.refl _ _
  go_enter Tryz.func64, Tryz.ntmps64
  go_wp2_with fail
  go_ret
  exact ⟨ret_i64 (by omega), hB⟩
set_option maxRecDepth 100000 in
/-- Figures with the last one so much greater. -/
theorem moved_any (pre : List UInt8) (c d : UInt8) (by_ : Int) (w : World) (hl : pre.length ≤ 1000000) (h0 : 0 ≤ (c.toNat : Int) + by_) (h1 : (c.toNat : Int) + by_ < 128) (hd : (d.toNat : Int) = c.toNat + by_) :
    Calls Tryz.prog 65 #[.string ⟨(pre ++ [c]).toArray⟩, .int .i64 by_] w fun e w' => e = .returned (.string ⟨(pre ++ [d]).toArray⟩) ∧ Below w.heap.size w w' := by
  obtain ⟨p, hp⟩ : ∃ p, p = pre.length := ⟨_, rfl⟩
  obtain ⟨S, hS⟩ : ∃ S : ByteArray, S = ⟨(pre ++ [c]).toArray⟩ := ⟨_, rfl⟩
  have hsz : S.size = p + 1 := by rw [hS]; show (pre ++ [c]).length = _; simp [hp]
  have hx : S[p]'(by omega) = c := by
    have : S.data.toList[p]'(by rw [size_toList]; omega) = c := by subst hS; simp [hp]
    exact this
  have he : S.extract 0 p = ⟨pre.toArray⟩ := by
    subst hS
    apply ByteArray.ext
    rw [ByteArray.data_extract]
    apply Array.ext'
    simp [hp]
  rw [← hS]
  have HS := Lib.hid hS
  have HP := Lib.hid hp
  clear hS
  rw [← hp] at hl
  have hen : Utf8.encode (IntKind.i32.wrap (IntKind.i64.wrap (IntKind.i64.wrap (c.toNat : Int) + by_))) = ⟨#[d]⟩ := by
    have h2 := c.toNat_lt
    have e1 : IntKind.i64.wrap (c.toNat : Int) = c.toNat := by rw [IntKind.wrap_i64]; omega
    have e2 : IntKind.i64.wrap ((c.toNat : Int) + by_) = d.toNat := by rw [IntKind.wrap_i64, hd]; omega
    have e3 : IntKind.i32.wrap (d.toNat : Int) = d.toNat := by rw [IntKind.wrap_i32]; omega
    rw [e1, e2, e3]
    exact enc_ascii d (by omega)
  have hsd : (ByteArray.mk #[d]).size = 1 := rfl
  have hbig : ¬ 9223372036854775807 < pre.length + 1 := by omega
  have hle : (p : Int) ≤ (p : Int) + 1 := by omega
  have hle2 : (p : Int) < (p : Int) + 1 := by omega
  clear hp
  go_enter Tryz.func65, Tryz.ntmps65
  go_wp2_with fail
  refine wp_region_quiet_lit (by kernel_rfl) (by kernel_rfl) ?_
  repeat (quiet_step (fail))
  refine wpQuiet_nil ?_
  rintro _ ⟨nq, rfl⟩
  go_wp2_with fail
  go_ret
  exact ⟨ret_str (ByteArray.ext (by simp)), drewN_below (Below.refl _ _) nq⟩
/-- A node in memory, and one behind it for what is answered. -/
structure TwoB (b : Nat) (n : Nd) (w : World) : Prop where
  n0 : w.cell? ⟨b, 0, none⟩ = some (.int .i64 n.kind)
  n1 : w.cell? ⟨b, 1, none⟩ = some (.int .i64 n.many)
  n2 : w.cell? ⟨b, 2, none⟩ = some (.string ⟨n.name.toArray⟩)
  n3 : w.cell? ⟨b, 3, none⟩ = some (.string ⟨n.s.toArray⟩)
  n4 : w.cell? ⟨b, 4, none⟩ = some (.bool n.neg)
  n5 : w.cell? ⟨b, 5, none⟩ = some (.int .i64 n.e)
  r0 : w.cell? ⟨b + 1, 0, none⟩ = some (.int .i64 0)
  r1 : w.cell? ⟨b + 1, 1, none⟩ = some (.int .i64 0)
  r2 : w.cell? ⟨b + 1, 2, none⟩ = some (.string ⟨#[]⟩)
  r3 : w.cell? ⟨b + 1, 3, none⟩ = some (.string ⟨#[]⟩)
  r4 : w.cell? ⟨b + 1, 4, none⟩ = some (.bool false)
  r5 : w.cell? ⟨b + 1, 5, none⟩ = some (.int .i64 0)
  fz : ∀ i, i < 6 → w.frozen? ⟨b + 1, i, none⟩ = false
theorem TwoB.below {b : Nat} {n : Nd} {w w' : World} (h : TwoB b n w) (hb : Below w.heap.size w w') : TwoB b n w' := by
  have h0 := World.block_lt_of_cell? _ _ h.n0
  have h1 := World.block_lt_of_cell? _ _ h.r0
  exact ⟨(hb.cell (p := ⟨b, 0, none⟩) h0).trans h.n0, (hb.cell (p := ⟨b, 1, none⟩) h0).trans h.n1, (hb.cell (p := ⟨b, 2, none⟩) h0).trans h.n2, (hb.cell (p := ⟨b, 3, none⟩) h0).trans h.n3, (hb.cell (p := ⟨b, 4, none⟩) h0).trans h.n4, (hb.cell (p := ⟨b, 5, none⟩) h0).trans h.n5, (hb.cell (p := ⟨b + 1, 0, none⟩) h1).trans h.r0, (hb.cell (p := ⟨b + 1, 1, none⟩) h1).trans h.r1, (hb.cell (p := ⟨b + 1, 2, none⟩) h1).trans h.r2, (hb.cell (p := ⟨b + 1, 3, none⟩) h1).trans h.r3, (hb.cell (p := ⟨b + 1, 4, none⟩) h1).trans h.r4, (hb.cell (p := ⟨b + 1, 5, none⟩) h1).trans h.r5, fun i hi => (hb.frozen (p := ⟨b + 1, i, none⟩) h1).trans (h.fz i hi)⟩
theorem TwoB.new (w : World) (n : Nd) : TwoB w.heap.size n ((w.alloc (.cells #[.int .i64 n.kind, .int .i64 n.many, .string ⟨n.name.toArray⟩, .string ⟨n.s.toArray⟩, .bool n.neg, .int .i64 n.e] 24)).alloc (.cells #[.int .i64 0, .int .i64 0, .string ⟨#[]⟩, .string ⟨#[]⟩, .bool false, .int .i64 0] 24)) := by
  refine ⟨?_, ?_, ?_, ?_, ?_, ?_, ?_, ?_, ?_, ?_, ?_, ?_, fun i hi => ?_⟩
  all_goals simp
set_option maxRecDepth 100000 in
theorem farther_one (w : World) : Calls Tryz.prog 44 #[nda oneN] w fun e w' => e = .returned (.tuple #[nda upN, .int .i64 0]) ∧ Below w.heap.size w w' := by
  have hN := TwoB.new w oneN
  have hB : Below w.heap.size w ((w.alloc (.cells (nds oneN) 24)).alloc (.cells (nds ⟨0, 0, [], [], false, 0⟩) 24)) := ((Below.refl _ _).alloc (Nat.le_refl _) _).alloc (by simp) _
  unfold oneN at *
  go_enter Tryz.func44, Tryz.ntmps44
  go_wp2_with fail
  generalize ((w.alloc _).alloc _) = W0 at hN hB ⊢
  refine (finest_any _ _ (by omega) (by omega)).mono ?_
  rintro e w1 ⟨rfl, hb1⟩
  have hN1 := Lib.hid (hN.below hb1)
  have hB1 : Below w.heap.size w w1 := hB.trans (hb1.mono hB.size)
  clear hN hb1 hB
  go_wp2_with fail
  have HT : Hid (∀ w', Below w1.heap.size w1 w' → TwoB w.heap.size ⟨3, 0, [], [49], false, 0⟩ w') := Lib.hid fun w' hw => hN1.out.below hw
  refine wp_region_held_drew (S := fun w' => Below w1.heap.size w1 w') (by kernel_rfl) ((Below.refl _ _).drew) (fun hH => ?_)
  generalize w1.drew = Wd at hH ⊢
  refine rtk 0 (.pointer (some ⟨w.heap.size, 3, none⟩)) ?_ ?_
  · intro w' hSw; go_simp
  try simp only [List.set_cons_succ, List.set_cons_zero]
  refine rtk 1 (.string ⟨#[49]⟩) ?_ ?_
  · intro w' hSw; obtain ⟨z0, -, -, z3, z4, z5, -⟩ := HT.out w' hSw; go_simp
  try simp only [List.set_cons_succ, List.set_cons_zero]
  refine rtk 2 (.string ⟨#[48, 49]⟩) ?_ ?_
  · intro w' hSw; go_simp; try rfl
  try simp only [List.set_cons_succ, List.set_cons_zero]
  refine rtk 3 (.pointer (some ⟨w.heap.size, 5, none⟩)) ?_ ?_
  · intro w' hSw; go_simp
  try simp only [List.set_cons_succ, List.set_cons_zero]
  refine rtk 4 (.int .i64 0) ?_ ?_
  · intro w' hSw; obtain ⟨z0, -, -, z3, z4, z5, -⟩ := HT.out w' hSw; go_simp
  try simp only [List.set_cons_succ, List.set_cons_zero]
  refine rtk 5 (.int .i64 (-99)) ?_ ?_
  · intro w' hSw; go_simp
  try simp only [List.set_cons_succ, List.set_cons_zero]
  refine rtk 6 (.int .i64 99) ?_ ?_
  · intro w' hSw; go_simp; try rfl
  try simp only [List.set_cons_succ, List.set_cons_zero]
  refine wpAnyH_ready (rs := [7]) (by kernel_rfl) (by simp) ?_
  refine AllReadyH.cons rfl (fun K7 hK7 => ?_) AllReadyH.nil
  go_simp
  refine (Tryz.strings_Repeat ⟨#[48]⟩ 99 Wd (by omega) (by show 1 * 99 ≤ _; omega)).mono ?_
  rintro e w2 ⟨rfl, hb2⟩
  go_wp2_with fail
  refine hK7.out _ _ (hH.trans (hb2.mono hH.size)) (fun hH2 => ?_)
  clear hK7 K7
  try simp only [List.set_cons_succ, List.set_cons_zero]
  have h8 := sF_sum
  have h8l := rep_len
  refine rtk 8 (.string ⟨sF.toArray⟩) ?_ ?_
  · intro w' hSw; go_simp
  try simp only [List.set_cons_succ, List.set_cons_zero]
  refine rtk 9 (.string ⟨sF.toArray⟩) ?_ ?_
  · intro w' hSw; go_simp
  try simp only [List.set_cons_succ, List.set_cons_zero]
  refine wpAnyH_done (by kernel_rfl) ?_ _
  clear h8 h8l
  go_wp2_with fail
  refine (Tryz.strings_TrimRight_one _ 57 (by decide) _ (by show sF.length ≤ _; rw [sF_len]; decide)).mono ?_
  rintro e w3 ⟨rfl, rfl⟩
  rw [show (ByteArray.mk sF.toArray).data.toList = sF from rfl, sF_trim]
  have hB2 := Lib.hid (hB1.trans (hH2.mono hB1.size))
  have hT2 := HT.out _ hH2
  clear HT hH hH2 hb2 hN1
  obtain ⟨z0, -, -, z3, z4, z5, -⟩ := id hT2
  go_wp2_with fail
  clear z0 z3 z4 z5
  have hsl : (ByteArray.mk sF.toArray).size = 101 := sF_len
  have hsl2 : sF.length = 101 := sF_len
  refine wp_region_held_drew (S := fun w' => Below w.heap.size w w' ∧ w'.cell? ⟨w.heap.size, 4, none⟩ = some (.bool false)) (by kernel_rfl) (⟨hB2.out.drew, hT2.n4⟩) (fun hH => ?_)
  have hD : Below w3.heap.size w3 w3.drew := (Below.refl _ _).drew
  generalize w3.drew = Wd at hH hD ⊢
  refine rtk 0 (.pointer (some ⟨w.heap.size, 4, none⟩)) ?_ ?_
  · intro w' hSw; go_simp; try decide
  try simp only [List.set_cons_succ, List.set_cons_zero]
  refine rtk 1 (.bool false) ?_ ?_
  · intro w' hSw; have z4 := hSw.2; go_simp; try decide
  try simp only [List.set_cons_succ, List.set_cons_zero]
  refine rtk 2 (.string ⟨sF.toArray⟩) ?_ ?_
  · intro w' hSw; go_simp; try decide
  try simp only [List.set_cons_succ, List.set_cons_zero]
  refine rtk 4 (.int .i64 (-99)) ?_ ?_
  · intro w' hSw; go_simp; try decide
  try simp only [List.set_cons_succ, List.set_cons_zero]
  refine rtk 5 (.string ⟨sF.toArray⟩) ?_ ?_
  · intro w' hSw; go_simp; try decide
  try simp only [List.set_cons_succ, List.set_cons_zero]
  refine rtk 6 (.int .i64 101) ?_ ?_
  · intro w' hSw; go_simp; try decide
  try simp only [List.set_cons_succ, List.set_cons_zero]
  refine rtk 7 (.int .i64 2) ?_ ?_
  · intro w' hSw; go_simp; try decide
  try simp only [List.set_cons_succ, List.set_cons_zero]
  refine rtk 8 (.string ⟨sF.toArray⟩) ?_ ?_
  · intro w' hSw; go_simp; try decide
  try simp only [List.set_cons_succ, List.set_cons_zero]
  refine rtk 9 (.int .i64 101) ?_ ?_
  · intro w' hSw; go_simp; try decide
  try simp only [List.set_cons_succ, List.set_cons_zero]
  refine rtk 10 (.int .i64 (-99)) ?_ ?_
  · intro w' hSw; go_simp; try decide
  try simp only [List.set_cons_succ, List.set_cons_zero]
  clear hsl hsl2
  refine wpAnyH_ready (rs := [3]) (by kernel_rfl) (by simp) ?_
  refine AllReadyH.cons rfl (fun K3 hK3 => ?_) AllReadyH.nil
  go_simp
  go_at_call 65
  have HM := moved_any (48 :: 49 :: List.replicate 98 48) 48 49 1 Wd (by decide) (by decide) (by decide) (by decide)
  rw [← sF_last, sF_up] at HM
  refine HM.mono ?_
  rintro e w4 ⟨rfl, hb4⟩
  have hT4 := (hT2.below hD).below hb4
  have hB4 := hH.1.trans (hb4.mono hH.1.size)
  clear hT2 hD hH hb4
  go_wp2_with fail
  refine hK3.out _ _ ⟨hB4, hT4.n4⟩ (fun hH4 => ?_)
  clear hK3 K3 HM
  try simp only [List.set_cons_succ, List.set_cons_zero]
  refine wpAnyH_ready (rs := [11]) (by kernel_rfl) (by simp) ?_
  refine AllReadyH.cons rfl (fun K11 hK11 => ?_) AllReadyH.nil
  go_simp
  go_at_call 42
  have HM := make_any false ⟨(48 :: upF).toArray⟩ (-99) w4 (by decide)
  rw [show (ByteArray.mk (48 :: upF).toArray).data.toList = 48 :: upF from rfl, mk_up, show ndv upN = nda upN from rfl] at HM
  refine HM.mono ?_
  rintro e w5 ⟨rfl, hb5⟩
  have hT5 := hT4.below hb5
  have hB5 := hB4.trans (hb5.mono hB4.size)
  clear hT4 hB4 hb5 hH4
  go_wp2_with fail
  refine hK11.out _ _ ⟨hB5, hT5.n4⟩ (fun hH5 => ?_)
  clear hK11 K11 HM
  try simp only [List.set_cons_succ, List.set_cons_zero]
  refine rtk 12 (nda upN) ?_ ?_
  · intro w' hSw; go_simp; try decide
  try simp only [List.set_cons_succ, List.set_cons_zero]
  refine rtk 13 (.int .i64 0) ?_ ?_
  · intro w' hSw; go_simp; try decide
  try simp only [List.set_cons_succ, List.set_cons_zero]
  refine wpAnyH_ready (rs := [14]) (by kernel_rfl) (by simp) ?_
  refine AllReadyH.cons rfl (fun K14 hK14 => ?_) AllReadyH.nil
  obtain ⟨n0, n1, n2, n3, n4, n5, r0, r1, r2, r3, r4, r5, fz⟩ := hT5
  have f0 := fz 0 (by omega)
  have f1 := fz 1 (by omega)
  have f2 := fz 2 (by omega)
  have f3 := fz 3 (by omega)
  have f4 := fz 4 (by omega)
  have f5 := fz 5 (by omega)
  clear fz
  go_simp
  refine hK14.out _ _ ⟨(((((hB5.setCell (Nat.le_succ _) _).setCell (Nat.le_succ _) _).setCell (Nat.le_succ _) _).setCell (Nat.le_succ _) _).setCell (Nat.le_succ _) _).setCell (Nat.le_succ _) _, ?_⟩ (fun hH6 => ?_)
  · go_simp
  clear hK14 K14
  try simp only [List.set_cons_succ, List.set_cons_zero]
  refine rtk 15 (.int .i64 0) ?_ ?_
  · intro w' hSw; go_simp; try decide
  try simp only [List.set_cons_succ, List.set_cons_zero]
  refine wpAnyH_done (by kernel_rfl) ?_ _
  go_wp2_with fail
  refine bodyPost_ret (v := .tuple #[nda upN, .int .i64 0]) ?_ rfl ⟨rfl, hH6.1⟩
  simp [results, Tryz.results44, go_sem, r0, r1, r2, r3, r4, r5]
set_option maxRecDepth 100000 in
theorem nearer_one (w : World) : Calls Tryz.prog 43 #[nda oneN] w fun e w' => e = .returned (.tuple #[nda dnN, .int .i64 0]) ∧ Below w.heap.size w w' := by
  have hN := TwoB.new w oneN
  have hB : Below w.heap.size w ((w.alloc (.cells (nds oneN) 24)).alloc (.cells (nds ⟨0, 0, [], [], false, 0⟩) 24)) := ((Below.refl _ _).alloc (Nat.le_refl _) _).alloc (by simp) _
  unfold oneN at *
  go_enter Tryz.func43, Tryz.ntmps43
  go_wp2_with fail
  generalize ((w.alloc _).alloc _) = W0 at hN hB ⊢
  refine (finest_any _ _ (by omega) (by omega)).mono ?_
  rintro e w1 ⟨rfl, hb1⟩
  have hT1 := hN.below hb1
  have hB1 : Below w.heap.size w w1 := hB.trans (hb1.mono hB.size)
  clear hN hb1 hB
  go_wp2_with fail
  refine wp_region_held_drew (S := fun w' => Below w.heap.size w w' ∧ (w'.cell? ⟨w.heap.size, 3, none⟩ = some (.string ⟨#[49]⟩) ∧ w'.cell? ⟨w.heap.size, 4, none⟩ = some (.bool false) ∧ w'.cell? ⟨w.heap.size, 5, none⟩ = some (.int .i64 0))) (by kernel_rfl) (⟨hB1.drew, hT1.n3, hT1.n4, hT1.n5⟩) (fun hH => ?_)
  have hD : Below w1.heap.size w1 w1.drew := (Below.refl _ _).drew
  generalize w1.drew = Wd at hH hD ⊢
  refine rtk 0 (.pointer (some ⟨w.heap.size, 4, none⟩)) ?_ ?_
  · intro w' hSw; go_simp; try decide
  try simp only [List.set_cons_succ, List.set_cons_zero]
  refine rtk 1 (.bool false) ?_ ?_
  · intro w' hSw; obtain ⟨-, z3, z4, z5⟩ := hSw; go_simp; try decide
  try simp only [List.set_cons_succ, List.set_cons_zero]
  refine rtk 2 (.pointer (some ⟨w.heap.size, 3, none⟩)) ?_ ?_
  · intro w' hSw; go_simp; try decide
  try simp only [List.set_cons_succ, List.set_cons_zero]
  refine rtk 3 (.string ⟨#[49]⟩) ?_ ?_
  · intro w' hSw; obtain ⟨-, z3, z4, z5⟩ := hSw; go_simp; try decide
  try simp only [List.set_cons_succ, List.set_cons_zero]
  refine rtk 5 (.pointer (some ⟨w.heap.size, 5, none⟩)) ?_ ?_
  · intro w' hSw; go_simp; try decide
  try simp only [List.set_cons_succ, List.set_cons_zero]
  refine rtk 6 (.int .i64 0) ?_ ?_
  · intro w' hSw; obtain ⟨-, z3, z4, z5⟩ := hSw; go_simp; try decide
  try simp only [List.set_cons_succ, List.set_cons_zero]
  refine rtk 7 (.int .i64 (-100)) ?_ ?_
  · intro w' hSw; go_simp; try decide
  try simp only [List.set_cons_succ, List.set_cons_zero]
  refine rtk 8 (.int .i64 100) ?_ ?_
  · intro w' hSw; go_simp; try decide
  try simp only [List.set_cons_succ, List.set_cons_zero]
  refine rtk 11 (.int .i64 (-100)) ?_ ?_
  · intro w' hSw; go_simp; try decide
  try simp only [List.set_cons_succ, List.set_cons_zero]
  refine wpAnyH_ready (rs := [4]) (by kernel_rfl) (by simp) ?_
  refine AllReadyH.cons rfl (fun K3 hK3 => ?_) AllReadyH.nil
  go_simp
  go_at_call 65
  refine (moved_any [] 49 48 (-1) Wd (by decide) (by decide) (by decide) (by decide)).mono ?_
  rintro e w4 ⟨rfl, hb4⟩
  have hT4 := (hT1.below hD).below hb4
  have hB4 := hH.1.trans (hb4.mono hH.1.size)
  clear hT1 hD hH hb4
  go_wp2_with fail
  refine hK3.out _ _ ⟨hB4, hT4.n3, hT4.n4, hT4.n5⟩ (fun hH4 => ?_)
  clear hK3 K3
  try simp only [List.set_cons_succ, List.set_cons_zero]
  refine wpAnyH_ready (rs := [9]) (by kernel_rfl) (by simp) ?_
  refine AllReadyH.cons rfl (fun K9 hK9 => ?_) AllReadyH.nil
  go_simp
  refine (Tryz.strings_Repeat ⟨#[57]⟩ 100 w4 (by omega) (by show 1 * 100 ≤ _; omega)).mono ?_
  rintro e w6 ⟨rfl, hb6⟩
  have hT6 := hT4.below hb6
  have hB6 := hB4.trans (hb6.mono hB4.size)
  clear hT4 hB4 hb6 hH4
  go_wp2_with fail
  refine hK9.out _ _ ⟨hB6, hT6.n3, hT6.n4, hT6.n5⟩ (fun hH6 => ?_)
  clear hK9 K9
  try simp only [List.set_cons_succ, List.set_cons_zero]
  have h10 := dF_sum
  have h10l := rep_len9
  refine rtk 10 (.string ⟨(48 :: dnF).toArray⟩) ?_ ?_
  · intro w' hSw; go_simp; try decide
  try simp only [List.set_cons_succ, List.set_cons_zero]
  clear h10 h10l
  refine wpAnyH_ready (rs := [12]) (by kernel_rfl) (by simp) ?_
  refine AllReadyH.cons rfl (fun K11 hK11 => ?_) AllReadyH.nil
  go_simp
  go_at_call 42
  have HM := make_any false ⟨(48 :: dnF).toArray⟩ (-100) w6 (by decide)
  rw [show (ByteArray.mk (48 :: dnF).toArray).data.toList = 48 :: dnF from rfl, mk_dn, show ndv dnN = nda dnN from rfl] at HM
  refine HM.mono ?_
  rintro e w5 ⟨rfl, hb5⟩
  have hT5 := hT6.below hb5
  have hB5 := hB6.trans (hb5.mono hB6.size)
  clear hT6 hB6 hb5 hH6
  go_wp2_with fail
  refine hK11.out _ _ ⟨hB5, hT5.n3, hT5.n4, hT5.n5⟩ (fun hH5 => ?_)
  clear hK11 K11 HM
  try simp only [List.set_cons_succ, List.set_cons_zero]
  refine rtk 13 (nda dnN) ?_ ?_
  · intro w' hSw; go_simp; try decide
  try simp only [List.set_cons_succ, List.set_cons_zero]
  refine rtk 14 (.int .i64 0) ?_ ?_
  · intro w' hSw; go_simp; try decide
  try simp only [List.set_cons_succ, List.set_cons_zero]
  refine wpAnyH_ready (rs := [15]) (by kernel_rfl) (by simp) ?_
  refine AllReadyH.cons rfl (fun K14 hK14 => ?_) AllReadyH.nil
  obtain ⟨n0, n1, n2, n3, n4, n5, r0, r1, r2, r3, r4, r5, fz⟩ := hT5
  have f0 := fz 0 (by omega)
  have f1 := fz 1 (by omega)
  have f2 := fz 2 (by omega)
  have f3 := fz 3 (by omega)
  have f4 := fz 4 (by omega)
  have f5 := fz 5 (by omega)
  clear fz
  go_simp
  refine hK14.out _ _ ⟨(((((hB5.setCell (Nat.le_succ _) _).setCell (Nat.le_succ _) _).setCell (Nat.le_succ _) _).setCell (Nat.le_succ _) _).setCell (Nat.le_succ _) _).setCell (Nat.le_succ _) _, ?_⟩ (fun hH6 => ?_)
  · go_simp
    first | done | exact ⟨trivial, trivial, trivial⟩ | (refine ⟨?_, ?_, ?_⟩ <;> assumption)
  clear hK14 K14
  try simp only [List.set_cons_succ, List.set_cons_zero]
  refine rtk 16 (.int .i64 0) ?_ ?_
  · intro w' hSw; go_simp; try decide
  try simp only [List.set_cons_succ, List.set_cons_zero]
  refine wpAnyH_done (by kernel_rfl) ?_ _
  go_wp2_with fail
  refine bodyPost_ret (v := .tuple #[nda dnN, .int .i64 0]) ?_ rfl ⟨rfl, hH6.1⟩
  simp [results, Tryz.results43, go_sem, r0, r1, r2, r3, r4, r5]
end Go.Proofs.YtbhgmfddjnkglaaGreatDoor
