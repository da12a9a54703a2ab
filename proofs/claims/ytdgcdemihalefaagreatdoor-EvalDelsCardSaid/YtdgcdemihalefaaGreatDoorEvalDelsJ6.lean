/-
  Joined: Ev9, EvA, EvB, EvC, EvD, EvE.
-/
import Derived.Test.YtdgcdemihalefaaGreatDoorEvalDelsJ3
import Derived.Test.YtdgcdemihalefaaGreatDoorEvalDelsJ1
import Derived.Test.YtdgcdemihalefaaGreatDoorEvalDelsJ5
import Derived.Maps.OwnIn
import Derived.Test.YtdgcdemihalefaaGreatDoorEvalDelsJ7

/-
  The value that a row begins with: grown, grow.
-/
namespace Go.Proofs.YtdgcdemihalefaaGreatDoor
open Go.RowKit Go.Shelf Np Rw Vp Pw Ev

theorem frozen_of_heap {W : World} {g o : Nat} {cs : Array Value} {T : TypeId} (h : W.heap[g]? = some (.cells cs T)) : W.frozen? ⟨g, o, none⟩ = false := by simp [World.frozen?, h]
/-- While a tree grows: its block, the row of its parts, the parts. -/
structure Grw (w : World) (n : Nd) (ks : List (Tr Nd)) (k : Nat) (wr : World) : Prop where
  gr : ∃ (vk : Value) (ps : List (Option Addr)), wr.heap[w.heap.size]? = some (treeO n n.many vk) ∧ Own ptc 1 122 (w.heap.size + 1) wr vk ps ∧ TrsS (fun b => w.heap.size < b ∧ vk.ownBlock ≠ some b) wr (ks.take k) (ps.map Value.pointer)
  bl : Below w.heap.size w wr
  sz : w.heap.size < wr.heap.size
theorem heap_setCell_tree {W : World} {g : Nat} {n : Nd} {m : Int} {v v' : Value} (h : W.heap[g]? = some (treeO n m v)) : (W.setCell ⟨g, 6, none⟩ v').heap[g]? = some (treeO n m v') := by
  simp [World.setCell, Array.getElem?_modify, h]
theorem Own.other {α : Type} {enc : α → List Value} {sz E base : Nat} {w : World} {v u : Value} {l : List α} {a : Addr} (h : Own enc sz E base w v l) (ha : a.block < base) : Own enc sz E base (w.setCell a u) v l := ownsRow_setCell_below h ha u
/-- One part more. -/
theorem Grw.step {w wr w1 w2 : World} {n : Nd} {ks : List (Tr Nd)} {k : Nat} {u : Tr Nd} {vk v2 : Value} {ps : List (Option Addr)} {g1 : Nat} (hu : ks[k]? = some u) (hsz : w.heap.size < wr.heap.size)
    (hown : Own ptc 1 122 (w.heap.size + 1) wr vk ps) (hb1 : Below wr.heap.size wr w1) (hbl : Below w.heap.size w w1) (hblk : w1.heap[w.heap.size]? = some (treeO n n.many vk))
    (htrs : TrsS (fun b => w.heap.size < b ∧ vk.ownBlock ≠ some b) w1 (ks.take k) (ps.map Value.pointer)) (ht : TrS (fun b => wr.heap.size ≤ b) w1 u (.pointer (some ⟨g1, 0, none⟩)))
    (hown2 : Own ptc 1 122 (w.heap.size + 1) w2 v2 (ps ++ [some ⟨g1, 0, none⟩])) (cs : Array Value) (E : TypeId) (hg2 : (w1.alloc (.cells cs E)).grownBy w2 vk.ownBlock) (hat : v2.ownBlock = vk.ownBlock ∨ v2.ownBlock = some (w1.alloc (.cells cs E)).heap.size) :
    Grw w n ks (k + 1) (w2.setCell ⟨w.heap.size, 6, none⟩ v2) := by
  have hs1 : w.heap.size < w1.heap.size := Nat.lt_of_lt_of_le hsz hb1.size
  have hs2 : (w1.alloc (.cells cs E)).heap.size ≤ w2.heap.size := hg2.size
  have hsa : (w1.alloc (.cells cs E)).heap.size = w1.heap.size + 1 := by simp
  have hne : vk.ownBlock ≠ some w.heap.size := fun e => by have := (World.ownsRow.lt hown _ e).1; omega
  have hblk2 : w2.heap[w.heap.size]? = some (treeO n n.many vk) := by
    rw [hg2.block _ (by omega) (fun e => hne e.symm), Below.heap_alloc _ _ _ hs1]; exact hblk
  have hkeep : ∀ b, w.heap.size < b → vk.ownBlock ≠ some b → b < w1.heap.size → (w2.setCell ⟨w.heap.size, 6, none⟩ v2).heap[b]? = w1.heap[b]? := fun b h1 h2 h3 => by
    rw [Below.heap_setCell _ _ _ _ (by show b ≠ w.heap.size; omega), hg2.block b (by omega) (fun e => h2 e.symm), Below.heap_alloc _ _ _ h3]
  have hnew : ∀ b, vk.ownBlock ≠ some b → b < w1.heap.size → v2.ownBlock ≠ some b := fun b h1 h2 e => by
    rcases hat with h | h
    · exact h1 (h ▸ e)
    · rw [h] at e; injection e with e; omega
  have hszs : w1.heap.size ≤ (w2.setCell ⟨w.heap.size, 6, none⟩ v2).heap.size := by simp [World.setCell]; omega
  refine ⟨⟨v2, ps ++ [some ⟨g1, 0, none⟩], heap_setCell_tree hblk2, hown2.other (by show w.heap.size < _; omega), ?_⟩, ?_, by simp [World.setCell]; omega⟩
  · rw [List.take_add_one, hu, List.map_append]
    refine TrsS_append (TrsS.mono (fun b hb h => h) ((TrsS.same hszs (fun b h hb => hkeep b h.1 h.2 hb) (TrsS.mono (S' := fun b => (w.heap.size < b ∧ vk.ownBlock ≠ some b) ∧ b < w1.heap.size) (fun b hb h => ⟨h, hb⟩) htrs |> TrsS.mono (fun b _ h => h.1))) |> fun h => ?_)) ?_
    · exact TrsS.same hszs (fun b h hb => hkeep b h.1.1 h.1.2 hb) (TrsS.mono (S' := fun b => (w.heap.size < b ∧ vk.ownBlock ≠ some b) ∧ v2.ownBlock ≠ some b) (fun b hb h => ⟨h, hnew b h.2 hb⟩) htrs) |> TrsS.mono (fun b _ h => ⟨h.1.1, h.2⟩)
    · refine TrsS_cons.2 ⟨?_, TrsS_nil⟩
      have h5 : ∀ b, wr.heap.size ≤ b → vk.ownBlock ≠ some b := fun b h e => by have := (World.ownsRow.lt hown _ e).2; omega
      exact TrS.same hszs (fun b h hb => hkeep b (by have := h.1; omega) (h5 b h.1) hb) (TrS.mono (S' := fun b => wr.heap.size ≤ b ∧ v2.ownBlock ≠ some b) (fun b hb h => ⟨h, hnew b (h5 b h) hb⟩) ht) |> TrS.mono (fun b _ h => ⟨by have := h.1; omega, h.2⟩)
  · refine hbl.trans ?_
    have h6 : Below w.heap.size w1 w2 := ((Below.refl w.heap.size w1).alloc (by omega) (.cells cs E)).trans ((Below.refl _ _).grown hg2 (by omega) (fun j e => by have := (World.ownsRow.lt hown _ e).1; omega))
    exact h6.setCell (p := ⟨w.heap.size, 6, none⟩) (Nat.le_refl _) _
set_option maxRecDepth 100000 in
set_option maxHeartbeats 4000000 in
theorem evGrown_any : ∀ (N : Nat) (t : Tr Nd) (r : List Nd) (v : Value) (w : World), (flat t).length ≤ N → okT many t → Nds w v (flat t ++ r) → (flat t ++ r).length ≤ 1000000 →
    Calls Tryz.prog 125 #[v] w fun e w' => ∃ (g : Nat) (A : Option Addr) (c : Nat), e = .returned (.tuple #[.pointer (some ⟨g, 0, none⟩), .slice A r.length c]) ∧ (∀ W, Nds W v (flat t ++ r) → Nds W (.slice A r.length c) r) ∧ TrS (fun b => w.heap.size ≤ b) w' t (.pointer (some ⟨g, 0, none⟩)) ∧ Below w.heap.size w w'
  | 0, t, r, v, w, hN, _, _, _ => absurd (flat_pos t) (by omega)
  | N + 1, .mk n ks, r, v, w, hN, ho, hv, hl => by
    obtain ⟨h1, h2⟩ := okT_mk.1 ho
    have h1' : n.many = ks.length := h1
    rw [flat_mk, List.cons_append] at hv hl ⊢
    obtain ⟨g, o, c, rfl, hc, hcm, hg, hx⟩ := hv.opened (by simp)
    have HV := Lib.hid hv
    obtain ⟨a0, a1, a2, a3, a4, a5⟩ := (hx 0 n rfl).nd
    simp only [Nat.zero_mul, Nat.add_zero] at a0 a1 a2 a3 a4 a5
    have HKS := Lib.hid h2
    have HM := Lib.hid h1'
    clear hv hx h1 h2 ho h1'
    rw [List.length_cons] at hc ⊢
    rw [List.length_cons] at hl
    generalize hq : (flats ks ++ r).length = q at *
    have HQ := Lib.hid hq
    clear hq
    have hne : ¬ ((q : Int) + 1 = 0) := by omega
    go_enter Tryz.func125, Tryz.ntmps125
    have HG0 : Hid (Grw w n ks 0 (w.alloc (treeO n n.many (.slice none 0 0))).drew) := Lib.hid
      ⟨⟨.slice none 0 0, [], heap_alloc_new w _, Own.nil _, TrsS_nil⟩, ((Below.refl _ _).alloc (Nat.le_refl _) _).drew, by simp⟩
    have HR0 : Hid (∃ A d, (∀ W, Nds W (.slice (some ⟨g, o, none⟩) (q + 1) c) (n :: (flats ks ++ r)) → Nds W (.slice A q d) (flats ks ++ r)) ∧ (if c = 1 then A = some ⟨g, o, none⟩ ∧ d = 0 else A = some ⟨g, o + 6, none⟩ ∧ d = c - 1)) := Lib.hid (by
      by_cases hc1 : c = 1
      · have hq0 : q = 0 := by omega
        have hnil : flats ks ++ r = [] := List.eq_nil_of_length_eq_zero (by rw [HQ.out]; exact hq0)
        refine ⟨some ⟨g, o, none⟩, 0, fun W _ => ?_, by simp [hc1]⟩
        rw [hnil, hq0]
        exact Row.empty _ _ 0 (Nat.zero_le _)
      · refine ⟨some ⟨g, o + 6, none⟩, c - 1, fun W hW => ?_, by simp [hc1]⟩
        have hW2 : Nds W (.slice (some ⟨g, o, none⟩) (n :: (flats ks ++ r)).length c) (n :: (flats ks ++ r)) := by rw [List.length_cons, HQ.out]; exact hW
        have := Row.pc hW2 1 q (c - 1) (by rw [List.length_cons, HQ.out]; omega) (by omega) (by omega)
        simpa [HQ.out, List.take_of_length_le] using this)
    obtain ⟨AR, dR, hR0, hif⟩ := HR0.out
    have HRR := Lib.hid hR0
    clear hR0 HR0
    have z1 : (1 : Int) ≤ (q : Int) + 1 := by omega
    have z2 : (0 : Int) ≤ (q : Int) := by omega
    go_upto_region 3 with fail
    go_cut [4, 5] (fun p x wx => p = .pointer (some ⟨w.heap.size, 0, none⟩) ∧ x = .slice AR q dR ∧ Hid (Grw w n ks 0 wx))
    case first =>
      by_cases hc1 : c = 1
      · rw [if_pos hc1] at hif
        obtain ⟨rfl, rfl⟩ := hif
        subst hc1
        have hq0 : q = 0 := by omega
        subst hq0
        go_region
        all_goals go_wp2_with fail
        all_goals go_meet
        all_goals exact ⟨rfl, rfl, HG0⟩
      · rw [if_neg hc1] at hif
        obtain ⟨rfl, rfl⟩ := hif
        have z3 : 1 ≤ c := by omega
        have z4 : ¬ (1 = c) := by omega
        go_region
        all_goals go_wp2_with fail
        all_goals go_meet
        all_goals exact ⟨rfl, rfl, HG0⟩
    case rest =>
      obtain ⟨rfl, rfl, HG1⟩ := hcut
      have hN2 : (flats ks).length ≤ N := by rw [flat_mk, List.length_cons] at hN; omega
      generalize hK : ks.length = K at *
      have HK := Lib.hid hK
      clear hK hif HG0
      clear hc z1 z2 a0 a1 a2 a3 a4 a5 hne
      have hKb : K ≤ 1000000 := by
        have h1 := flats_len ks
        have h2 := congrArg id HQ.out
        simp at h2
        rw [HK.out] at h1; omega
      go_wp2_with fail
      go_loopw [5, 6] (fun rv iv wr => ∃ (k m d : Nat) (A : Option Addr), k ≤ K ∧ iv = .int .i64 k ∧ rv = .slice A m d ∧ Hid (m = (flats (ks.drop k) ++ r).length) ∧ Hid (∀ W, Nds W (.slice (some ⟨g, o, none⟩) (q + 1) c) (n :: (flats ks ++ r)) → Nds W (.slice A m d) (flats (ks.drop k) ++ r)) ∧ Hid (Grw w n ks k wr)) (fun _ iv _ => K - (intOf iv).toNat)
      case atStart => exact ⟨0, q, dR, AR, Nat.zero_le _, rfl, rfl, Lib.hid HQ.out.symm, HRR, HG1⟩
      case round =>
        obtain ⟨k, m, d, A, hk, rfl, rfl, HML, HRW, HGR⟩ := hrel
        obtain ⟨⟨vk, ps, hblk, hown, htrs⟩, hbl, hsz⟩ := HGR.out
        have c1 : wr.cell? ⟨w.heap.size, 1, none⟩ = some (.int .i64 (K : Nat)) := by
          have h9 : n.many = (K : Int) := HM.out
          rw [Lib.cell_of_heap hblk, ← h9]; rfl
        have c6 : wr.cell? ⟨w.heap.size, 6, none⟩ = some vk := by rw [Lib.cell_of_heap hblk]; rfl
        by_cases hlt : k < K
        · obtain ⟨u, hu⟩ : ∃ u, ks[k]? = some u := ⟨_, List.getElem?_eq_getElem (by rw [HK.out]; exact hlt)⟩
          have hd : ks.drop k = u :: ks.drop (k + 1) := by
            obtain ⟨h1, h2⟩ := List.getElem?_eq_some_iff.1 hu
            rw [← h2, List.getElem_cons_drop]
          have hsp : flats (ks.drop k) ++ r = flat u ++ (flats (ks.drop (k + 1)) ++ r) := by rw [hd, flats_cons, List.append_assoc]
          have hm0 : 0 < m := by rw [HML.out, hsp, List.length_append]; have := flat_pos u; omega
          have hum : u ∈ ks := List.mem_of_getElem? hu
          have hul : (flat u).length ≤ (flats ks).length := by
            have : ∀ l : List (Tr Nd), u ∈ l → (flat u).length ≤ (flats l).length := by
              intro l
              induction l with
              | nil => intro h; simp at h
              | cons x l ih =>
                intro h
                rw [flats_cons, List.length_append]
                rcases List.mem_cons.1 h with rfl | h
                · omega
                · have := ih h; omega
            exact this ks hum
          have hmb : m ≤ 1000000 := by
            have h0 : (flats (ks.drop k)).length ≤ (flats ks).length := by
              conv => rhs; rw [← List.take_append_drop k ks, flats_append, List.length_append]
              omega
            have h2 := congrArg id HQ.out
            simp at h2
            rw [HML.out, List.length_append]; omega
          have HIH := Lib.hid (evGrown_any N u (flats (ks.drop (k + 1)) ++ r) (.slice A m d) wr (by omega) (okTs_all.1 HKS.out u hum) (by have h := HV.out.below hbl; rw [List.length_cons, HQ.out] at h; rw [← hsp]; exact HRW.out _ h) (by rw [← hsp, ← HML.out]; exact hmb))
          have HU := Lib.hid hu
          have HSP := Lib.hid hsp
          clear hd hsp hum hul hu
          go_wp2_with fail
          refine HIH.out.mono ?_
          rintro e w1 ⟨g1, A1, d1, rfl, hr1, ht1, hb1⟩
          generalize hm1 : (flats (ks.drop (k + 1)) ++ r).length = m1 at *
          have HM1 := Lib.hid hm1
          clear hm1
          have HR1 := Lib.hid hr1
          have HT1 := Lib.hid ht1
          have HB1 := Lib.hid hb1
          have hblk1 : w1.heap[w.heap.size]? = some (treeO n n.many vk) := (hb1.block _ hsz).trans hblk
          have e6 : w1.cell? ⟨w.heap.size, 6, none⟩ = some vk := by rw [Lib.cell_of_heap hblk1]; rfl
          have f6 := frozen_of_heap (o := 6) hblk1
          have HOW := Lib.hid hown
          have HO1 := Lib.hid (hown.below hb1)
          have HTS1 := Lib.hid (htrs.below hb1)
          have HBK1 := Lib.hid hblk1
          have HBL1 := Lib.hid (hbl.trans (hb1.mono hbl.size))
          obtain ⟨Av, dv, rfl, -, -, -⟩ := hown.form
          clear hr1 ht1 hb1 hblk hblk1 hown htrs hbl c1 c6
          have HOA := Lib.hid (HO1.out.alloc (.cells #[.pointer (some ⟨g1, 0, none⟩)] 122))
          have HRL : Hid (Row ptc 1 (w1.alloc (.cells #[.pointer (some ⟨g1, 0, none⟩)] 122)) (.slice (some ⟨w1.heap.size, 0, none⟩) 1 1) [some ⟨g1, 0, none⟩]) := Lib.hid (Row.lit ptc_len w1 122 #[.pointer (some ⟨g1, 0, none⟩)] [some ⟨g1, 0, none⟩] (by show 1 ≤ maxLen; decide) rfl)
          have HPS : Hid (ps.length ≤ 1000000) := Lib.hid (by have := TrsS_len HTS1.out; simp at this; omega)
          have HSZ1 : Hid (w.heap.size < w1.heap.size) := Lib.hid (Nat.lt_of_lt_of_le hsz HB1.out.size)
          go_wp2_with (at_builtin; refine wpList_append_row (base := w.heap.size + 1) elTree rfl _ _ rfl rfl HOA.out rfl HRL.out ?_ ?_ ?_ ?_)
          · have := HPS.out; unfold maxLen; simp only [List.length_singleton]; omega
          · have := HPS.out; simp only [List.length_singleton]; omega
          · have := HSZ1.out; simp; omega
          intro A2 c2 w2 hown2 hg2 hat2
          have HST := Lib.hid (Grw.step HU.out hsz HOW.out HB1.out HBL1.out HBK1.out HTS1.out HT1.out hown2 _ _ hg2 (hat2.imp id (fun h => h.trans (by simp))))
          have hs1 := HSZ1.out
          have hnv : (Value.slice Av ps.length dv).ownBlock ≠ some w.heap.size := fun e => by have := (World.ownsRow.lt HOW.out _ e).1; omega
          have hblk2 : w2.heap[w.heap.size]? = some (treeO n n.many (.slice Av ps.length dv)) := by
            rw [hg2.block _ (by simp; omega) (fun e => hnv e.symm), Below.heap_alloc _ _ _ hs1]; exact HBK1.out
          have e62 : w2.cell? ⟨w.heap.size, 6, none⟩ = some (.slice Av ps.length dv) := by rw [Lib.cell_of_heap hblk2]; rfl
          have f62 := frozen_of_heap (o := 6) hblk2
          have HRF : Hid (∀ W, Nds W (.slice (some ⟨g, o, none⟩) (q + 1) c) (n :: (flats ks ++ r)) → Nds W (.slice A1 m1 d1) (flats (ks.drop (k + 1)) ++ r)) := Lib.hid (fun W hW => HR1.out W (by rw [← HSP.out]; exact HRW.out W hW))
          clear hown2 hg2 hat2 hblk2 hnv
          go_wp2_with fail
          go_wp2_with fail
          go_roundw
          · exact ⟨k + 1, _, d1, A1, hlt, by push_cast; rfl, rfl, Lib.hid HM1.out.symm, HRF, HST⟩
          · simp [intOf]; omega
        · have hkK : k = K := by omega
          have HE : Hid (m = r.length) := Lib.hid (by rw [HML.out, List.drop_of_length_le (by rw [HK.out]; omega)]; simp)
          obtain ⟨Av, dv, rfl, -, -, -⟩ := hown.form
          go_wp2_with fail
          go_ret2
          refine ⟨w.heap.size, A, d, by rw [HE.out]; rfl, fun W hW => ?_, TrS_mk.2 ⟨w.heap.size, n.many, .slice Av ps.length dv, ps.map Value.pointer, rfl, Nat.le_refl _, hsz, ?_, c6, own_rowS hown ?_, ?_⟩, hbl⟩
          · have := HRW.out W hW
            rwa [List.drop_of_length_le (by rw [HK.out]; omega), flats_nil, List.nil_append, HE.out] at this
          · exact ⟨by rw [Lib.cell_of_heap hblk]; rfl, by rw [Lib.cell_of_heap hblk]; rfl, by rw [Lib.cell_of_heap hblk]; rfl, by rw [Lib.cell_of_heap hblk]; rfl, by rw [Lib.cell_of_heap hblk]; rfl, by rw [Lib.cell_of_heap hblk]; rfl⟩
          · intro b hb
            have := (World.ownsRow.lt hown b hb).1
            omega
          · have h5 := htrs.mono (S' := fun b => w.heap.size ≤ b) (fun b _ h => Nat.le_of_lt h.1)
            rwa [List.take_of_length_le (by rw [HK.out]; omega)] at h5
end Go.Proofs.YtdgcdemihalefaaGreatDoor

/-
  A row's value.
-/
namespace Go.Proofs.YtdgcdemihalefaaGreatDoor
open Go.RowKit Go.Shelf Np Rw Vp Pw Ev

set_option maxRecDepth 100000 in
theorem evGrow_any (t : Tr Nd) (v : Value) (w : World) (ho : okT many t) (hv : Nds w v (flat t)) (hl : (flat t).length ≤ 1000000) :
    Calls Tryz.prog 78 #[v] w fun e w' => ∃ g : Nat, e = .returned (.pointer (some ⟨g, 0, none⟩)) ∧ TrS (fun b => w.heap.size ≤ b) w' t (.pointer (some ⟨g, 0, none⟩)) ∧ Below w.heap.size w w' := by
  have HC := Lib.hid (evGrown_any (flat t).length t [] v w (Nat.le_refl _) ho (by rw [List.append_nil]; exact hv) (by rw [List.append_nil]; exact hl))
  clear hv ho
  go_enter Tryz.func78, Tryz.ntmps78
  go_wp2_with fail
  refine HC.out.mono ?_
  rintro e w1 ⟨g, A, c, rfl, -, ht, hb⟩
  have HT := Lib.hid ht
  have HB := Lib.hid hb
  clear ht hb HC
  go_wp2_with fail
  go_ret
  exact ⟨g, rfl, HT.out, HB.out⟩
end Go.Proofs.YtdgcdemihalefaaGreatDoor

/-
  A row of pointers from its end.
-/
namespace Go.Proofs.YtdgcdemihalefaaGreatDoor
open Go.RowKit Go.Shelf Np Rw Vp Pw Ev
attribute [local go_sem] Oper.semAt_some

/-- What is told: each pointer with its place, from the end. -/
def bwds : List (Option Addr) → List (Nat × Option Addr)
  | ps => (List.range ps.length).reverse.map fun i => (i, (ps[i]?).join)
theorem bwds_len (ps : List (Option Addr)) : (bwds ps).length = ps.length := by simp [bwds]
theorem bwds_at {ps : List (Option Addr)} {pre post : List (Nat × Option Addr)} {x : Nat × Option Addr} (h : bwds ps = pre ++ x :: post) : x.1 = post.length ∧ (ps.map Value.pointer)[post.length]? = some (.pointer x.2) := by
  have hl : pre.length + (post.length + 1) = ps.length := by have := congrArg List.length h; rw [bwds_len] at this; simpa using this.symm
  have hx : (bwds ps)[pre.length]? = some x := by rw [h]; simp
  simp only [bwds, List.getElem?_map] at hx
  rw [List.getElem?_reverse (by rw [List.length_range]; omega), List.length_range, List.getElem?_range (by omega)] at hx
  have e1 : ps.length - 1 - pre.length = post.length := by omega
  rw [e1] at hx
  have h2 : ps[post.length]? = some ps[post.length] := List.getElem?_eq_getElem (by omega)
  simp only [Option.map_some, Option.some.injEq, h2, Option.join_some] at hx
  rw [← hx]
  refine ⟨rfl, ?_⟩
  rw [List.getElem?_map, h2]; rfl
theorem bwds_snd (ps : List (Option Addr)) : (bwds ps).map (·.2) = ps.reverse := by
  apply List.ext_getElem?
  intro i
  simp only [bwds, List.map_map, List.getElem?_map]
  by_cases h : i < ps.length
  · rw [List.getElem?_reverse (by rw [List.length_range]; exact h), List.length_range, List.getElem?_range (by omega), List.getElem?_reverse h]
    simp only [Option.map_some, Function.comp]
    rw [List.getElem?_eq_getElem (by omega)]; rfl
  · rw [List.getElem?_eq_none (by simp; omega), List.getElem?_eq_none (by simp; omega)]; rfl
set_option maxRecDepth 100000 in
set_option maxHeartbeats 2000000 in
theorem bwd1_in (n : Nat) (hn : 1 ≤ n) (l Bn n₀ : Nat) (v : Value) (ps : List (Option Addr)) (J Jx : List (Nat × Option Addr) → World → Prop) (hlen : ps.length ≤ 1000000)
    (hY : ∀ pre x W, J pre W → pre.length < ps.length → YieldAt Fence.wide (n - 1) Tryz.prog l #[.int .i64 (x.1 : Nat), .pointer x.2] W fun e W' =>
      (e = .returned (.bool true) ∧ J (pre ++ [x]) W' ∧ Kq n₀ Bn W W') ∨ (e = .returned (.bool false) ∧ Jx (pre ++ [x]) W'))
    (W : World) (hJ : AbidesFrom W.heap.size J) (hBx : Boxed W Bn 155 v) (hL : RowS (fun b => b < n₀) W v (ps.map .pointer)) (h0 : J [] W) :
    CallsIn Fence.wide n Tryz.prog 181 #[.func (.yield l) #[] #[], .pointer (some ⟨Bn, 0, none⟩)] W fun e W' => (∃ v, e = .returned v) ∧
      ((∃ ys, ys = bwds ps ∧ J ys W') ∨ (∃ pre, pre <+: bwds ps ∧ Jx pre W')) := by
  obtain ⟨A, c, rfl, hc, hcm, hA, hx⟩ := hL
  rw [List.length_map] at hc hx hBx
  have hBn := hBx.cell
  have HX := Lib.hid hx
  have HJ := Lib.hid hJ
  have HY := Lib.hid hY
  have HBW := Lib.hid hBx
  clear hx hJ hY hBx
  generalize hN : ps.length = N at *
  have HN := Lib.hid hN; clear hN
  refine callsIn_of_wp Tryz.func181 rfl trivial ?_ rfl
  simp only [Tryz.ntmps181, List.size_toArray, List.length_cons, List.length_nil, Nat.reduceAdd, Nat.reduceSub, Array.replicate_succ, Array.replicate_zero, List.push_toArray, List.append_toArray, List.nil_append, List.cons_append]
  gi_wp2_with fail
  gi_loopw [3] (fun s3 wr => ∃ (pre post : List (Nat × Option Addr)), bwds ps = pre ++ post ∧ s3 = .int .i64 ((post.length : Int) - 1) ∧ J pre wr ∧ Kq n₀ Bn W wr)
    (fun s3 _ => (intOf s3 + 1).toNat)
  case atStart =>
    exact ⟨[], bwds ps, rfl, by rw [bwds_len, HN.out], h0, Kq.refl _ _ _⟩
  case round =>
    obtain ⟨pre, post, hxs, rfl, hJs, hbw⟩ := hrel
    have HXS := Lib.hid hxs
    have HJS := Lib.hid hJs
    have hcell := box_same HBW.out hbw.2
    have hpx : pre.length + post.length = N := by have := congrArg List.length hxs; rw [bwds_len, HN.out] at this; simpa using this.symm
    cases post with
    | nil =>
      have HE : Hid (bwds ps = pre) := Lib.hid (by simpa using hxs)
      clear hxs hJs hpx
      rw [show (((([] : List (Nat × Option Addr)).length : Nat) : Int) - 1) = -1 from rfl]
      gi_wp2_with fail
      go_end0
      exact ⟨⟨_, rfl⟩, .inl ⟨pre, HE.out.symm, HJS.out⟩⟩
    | cons x post' =>
      rw [List.length_cons] at hpx ⊢
      obtain ⟨hx1, hx2⟩ := bwds_at hxs
      obtain ⟨g, o, rfl, hgn, hgW, hcx⟩ := HX.out (by omega)
      have hcl : wr.cell? ⟨g, o + post'.length, none⟩ = some (.pointer x.2) := (World.cell?_of_block (w := W) (a := ⟨g, o + post'.length, none⟩) (hbw.1.block g hgn)).trans (hcx _ _ hx2)
      have e1 : ((post'.length + 1 : Nat) : Int) - 1 = (post'.length : Int) := by omega
      rw [e1]
      have HPL : Hid (pre.length < ps.length) := Lib.hid (by rw [HN.out]; omega)
      obtain ⟨fn, tmps, assign, body, hy, hR⟩ := HY.out pre x wr HJS.out (HN.out ▸ HPL.out)
      rw [hx1] at hy
      have HR := Lib.hid hR
      have HBWr := Lib.hid hbw
      have hlt : post'.length < N := by omega
      clear hR hbw hcx hx2 hx1 hxs hJs
      generalize hQ : post'.length = q at *
      have HQ := Lib.hid hQ
      clear hQ
      gi_wp2_with fail
      refine HR.out.mono ?_
      rintro e W3 (⟨rfl, hJ3, hk3⟩ | ⟨rfl, hJx3⟩)
      · have HJ3 := Lib.hid hJ3
        have HB3 := Lib.hid (HBWr.out.trans hk3)
        clear hJ3 hk3 hy
        gi_wp2_with fail
        all_goals
          go_roundw
          case rel => exact ⟨pre ++ [x], post', by rw [HXS.out]; simp, by rw [HQ.out], HJ3.out, HB3.out⟩
          case measure => simp [intOf]
      · have HJX := Lib.hid hJx3
        clear hJx3 hy
        gi_wp2_with fail
        refine bodyPost_ret (results_none rfl _ _ _) rfl ?_
        exact ⟨⟨_, rfl⟩, .inr ⟨pre ++ [x], ⟨post', by rw [HXS.out]; simp⟩, HJX.out⟩⟩

/-- What slices.Backward hands back: the row is boxed; the function value captures the box. -/
theorem bwd_in (n : Nat) (A : Option Addr) (m c : Nat) (w : World) :
    CallsIn Fence.wide n Tryz.prog 126 #[.slice A m c] w fun e w' => e = .returned (.func (.func 181) #[] #[.pointer (some ⟨w.heap.size, 0, none⟩)]) ∧ w' = w.alloc (.cells #[.slice A m c] 155) := by
  refine callsIn_of_wp Tryz.func126 rfl trivial ?_ rfl
  simp only [Tryz.ntmps126, List.size_toArray, List.length_cons, List.length_nil, Nat.reduceAdd, Nat.reduceSub, Array.replicate_succ, Array.replicate_zero, List.push_toArray, List.append_toArray, List.nil_append, List.cons_append]
  gi_wp2
  go_ret
  exact ⟨rfl, rfl⟩

theorem bwd_stops (n : Nat) (hn : 1 ≤ n) (Bn n₀ : Nat) (v : Value) (ps : List (Option Addr)) (hlen : ps.length ≤ 1000000) (w : World) (hc : Boxed w Bn 155 v) (_hg : n₀ ≤ w.heap.size) (hL : RowS (fun b => b < n₀) w v (ps.map .pointer)) :
    SeqStopsK Fence.wide n Tryz.prog 181 #[.pointer (some ⟨Bn, 0, none⟩)] (fun x : Nat × Option Addr => #[.int .i64 (x.1 : Nat), .pointer x.2]) (Kq n₀ Bn) (fun ys => ys = bwds ps) (fun pre => pre <+: bwds ps) ps.length w := fun l J Jx W hW hJ _ hY h0 =>
  bwd1_in n hn l Bn n₀ v ps J Jx hlen hY W hJ ((hW.block Bn hc.lt).trans hc) (hL.same hW.size fun b _ hb => hW.block b hb) h0
end Go.Proofs.YtdgcdemihalefaaGreatDoor

/-
  A value's row.
-/
namespace Go.Proofs.YtdgcdemihalefaaGreatDoor
open Go.RowKit Go.Shelf Np Rw Vp Pw Ev
attribute [local go_sem] Oper.semAt_some

section
variable {α : Type} {P : Program} {enc : α → List Value} {T E sz bys base : Nat} {w : World}
/-- At the operation 'append(v, x...)' in a fence: v is the call's own, x any slice that is not empty. -/
theorem wpListIn_append_row {F : Fence} {n : Nat} (el : Elem P T E enc sz bys) {ops : Array Oper} {rest : List Oper} {o : Oper} {a : Act} {Q : Exit → Act → World → Prop} (hgd : o.guard = none) (s x : Operand)
    (ho : o.op = .call { callee := .builtin .append, args := #[s, x], argTypes := #[T, T] }) {v r : Value} {l l2 : List α} (hs : a.eval s = v) (hown : Own enc sz E base w v l) (hx : a.eval x = r) (hr : Row enc sz w r l2)
    (h0 : 0 < l2.length) (h63 : l.length + l2.length ≤ maxLen) (hby : (l.length + l2.length) * bys ≤ 140737488355328) (hbase : base ≤ w.heap.size)
    (h : ∀ (A : Option Addr) (c : Nat) (w' : World), Own enc sz E base w' (.slice A (l ++ l2).length c) (l ++ l2) → w.grownBy w' v.ownBlock → ((Value.slice A (l ++ l2).length c).ownBlock = v.ownBlock ∨ (Value.slice A (l ++ l2).length c).ownBlock = some w.heap.size) →
      wpListIn F n P ops Q rest (a.put o.dst (.slice A (l ++ l2).length c)) w') : wpListIn F n P ops Q (o :: rest) a w := by
  obtain ⟨i, z, hi, hz, hsize, hbytes, hzs⟩ := el.inf
  obtain ⟨A, c, rfl, hc, hcm, hnil, hcell⟩ := hr
  cases A with
  | none => have := hnil rfl; omega
  | some ad =>
    refine wpListIn_append_own_at w hgd s x T ho base E i z sz bys el.und hi hz hsize hbytes hzs el.pos v l.length _ hs hown ad l2.length c (l2.flatMap enc) hx (flat_len el.len l2) ?_ ?_ h63 hby hbase ?_
    · intro j u hu
      obtain ⟨y, hy, hyu⟩ := flat_split el.len el.pos l2 j u hu
      obtain ⟨g, q, hA, _, hx'⟩ := hcell h0
      injection hA with hA
      subst hA
      have := hx' _ y hy _ u hyu
      rw [Nat.add_assoc, Nat.div_add_mod' j sz] at this
      unfold Addr.add
      split
      · rename_i h; subst h; exact this
      · exact this
    · intro u hu
      obtain ⟨y, _, hyu⟩ := List.mem_flatMap.1 hu
      exact el.one y u hyu
    · intro v' w' h1 h2 _ h4
      have h5 : Own enc sz E base w' v' (l ++ l2) := by unfold Own; rw [List.length_append, List.flatMap_append]; exact h1
      obtain ⟨B, d, hv, -, -, -⟩ := h5.form
      subst hv
      exact h B d w' h5 h2 h4
end
/-- The head of an own row is an own row. -/
theorem Own.cut {α : Type} {enc : α → List Value} {sz E base : Nat} {w : World} {g c : Nat} {l r : List α} (hlen : ∀ x, (enc x).length = sz) (h : Own enc sz E base w (.slice (some ⟨g, 0, none⟩) (l ++ r).length c) (l ++ r)) : Own enc sz E base w (.slice (some ⟨g, 0, none⟩) l.length c) l := by
  obtain ⟨h1, h2⟩ := h
  have hfl : ∀ l : List α, (l.flatMap enc).length = l.length * sz := by
    intro l
    induction l with
    | nil => simp
    | cons x l ih => rw [List.flatMap_cons, List.length_append, ih, hlen, List.length_cons, Nat.succ_mul]; omega
  rcases h2 with ⟨hv, -⟩ | ⟨g', cap, cur, hv, hb, hg, hn, hc, hs, ht⟩
  · cases hv
  · injection hv with e1 e2 e3
    injection e1 with e1
    injection e1 with e1
    subst e1 e3
    refine ⟨hfl l, .inr ⟨g, c, cur, rfl, hb, hg, ?_, hc, hs, ?_⟩⟩
    · rw [List.length_append] at hn; omega
    · have h3 : l.length * sz ≤ (l ++ r).length * sz := Nat.mul_le_mul_right _ (by simp)
      have h4 := congrArg (List.take (l.length * sz)) ht
      rw [List.take_take, Nat.min_eq_left h3, List.flatMap_append, List.take_append_of_le_length (Nat.le_of_eq (hfl l).symm), List.take_of_length_le (Nat.le_of_eq (hfl l))] at h4
      exact h4
/-- What row keeps between two rounds. -/
structure RwI (w : World) (N : List Nd) (W : World) (v : Value) (L : List Nd) (u : Value) (ps : List (Option Addr)) (ts : List (Tr Nd)) : Prop where
  bx : Boxed W (w.heap.size + 1) 155 u
  st : Own ptc 1 122 w.heap.size W u ps
  ow : Own ndc 6 43 w.heap.size W v L
  tr : TrsS (fun b => b < w.heap.size) W ts (ps.map .pointer)
  ok : okTs many ts
  bl : Below w.heap.size w W
  all : L ++ flats ts.reverse = N
/-- Behind a loop that ranges over a function in each round: every round has left a deferred block. -/
def Dfs (B : Nat) (ds : List Deferred) (w : World) : Prop := ∀ d, d ∈ ds → ∃ D : Nat, B ≤ D ∧ d = { target := .collected D, args := #[] } ∧ w.heap[D]? = some (.deferred (some []))
theorem leavesM_collected {F : Fence} {n : Nat} {P : Program} {fn : Func} {tmps : Array Value} {R : Ending → World → Prop} (B : Nat) (Good : World → Prop) (hG : ∀ (W : World) (D : Nat), B ≤ D → Good W → W.heap[D]? = some (.deferred (some [])) → Good (W.putObj D (.deferred none)))
    (h : ∀ W, Good W → LeavesIn F n P fn tmps R [] .returning W) : ∀ (ds : List Deferred) (w : World), Good w → Dfs B ds w → ds.Nodup → LeavesInM F n P fn tmps R ds .returning w
  | [], w, hg, _, _ => h w hg
  | d :: ds, w, hg, hd, hn => by
    obtain ⟨D, hB, rfl, hD⟩ := hd d (by simp)
    refine ⟨by simp, .inl ⟨D, _, rfl, run_takeDeferred hD, leavesM_collected B Good hG h ds _ (hG _ _ hB hg hD) ?_ (List.nodup_cons.1 hn).2⟩⟩
    intro d' hd'
    obtain ⟨D', hB', rfl, hD'⟩ := hd d' (by simp [hd'])
    refine ⟨D', hB', rfl, ?_⟩
    have hne : D' ≠ D := fun e => (List.nodup_cons.1 hn).1 (e ▸ hd')
    exact (World.putObj_heap_other hne).trans hD'
/-- What stands between two rounds of row's inner range. -/
structure RwJ (w : World) (n2 : Nat) (rv : Value) (v : Value) (L : List Nd) (qs : List (Option Addr)) (ds : List Deferred) (pre : List (Nat × Option Addr)) (W : World) : Prop where
  bx : ∃ u, Boxed W (w.heap.size + 1) 155 u ∧ Own ptc 1 122 w.heap.size W u (qs ++ pre.map (·.2))
  rb : Boxed W n2 155 rv
  ow : Own ndc 6 43 w.heap.size W v L
  bl : Below w.heap.size w W
  df : ∀ d, d ∈ ds → ∃ D : Nat, w.heap.size ≤ D ∧ D < n2 ∧ d = { target := .collected D, args := #[] } ∧ W.heap[D]? = some (.deferred (some []))
theorem RwJ.own (w : World) (n2 B : Nat) (rv v : Value) (L : List Nd) (qs : List (Option Addr)) (ds : List Deferred) (hB : w.heap.size ≤ B) (hn : n2 ≤ B) : OwnFrom B (RwJ w n2 rv v L qs ds) := by
  intro s W W' row hs hg hr
  obtain ⟨⟨u, h1, h2⟩, h3, h4, h5, h6⟩ := hs
  have hr' : ∀ r, row = some r → ∃ o : Obj, W.heap[r]? = some o ∧ o.isCells = false := fun r e => (hr r e).2
  refine ⟨⟨u, boxed_turned h1 hg hr', h2.turned hg hr'⟩, boxed_turned h3 hg hr', h4.turned hg hr', ?_, fun d hd => ?_⟩
  · exact ownFrom_below (β := Unit) (Nat.le_refl _) hB () W W' row h5 hg hr
  · obtain ⟨D, a1, a2, a3, a4⟩ := h6 d hd
    have hlt : D < W.heap.size := (Array.getElem?_eq_some_iff.1 a4).1
    exact ⟨D, a1, a2, a3, (hg.block D hlt (fun e => by have := (hr D e.symm).1; omega)).trans a4⟩
/-- One more part is laid on the heap of what is left. -/
theorem RwJ.step {w W W3 : World} {n2 : Nat} {rv v u0 v3 : Value} {L : List Nd} {qs : List (Option Addr)} {ds : List Deferred} {pre : List (Nat × Option Addr)} {x : Nat × Option Addr} (hJ : RwJ w n2 rv v L qs ds pre W) (hn : w.heap.size + 1 < n2)
    (hb0 : Boxed W (w.heap.size + 1) 155 u0) (hown : Own ptc 1 122 w.heap.size W u0 (qs ++ pre.map (·.2))) (h3 : Own ptc 1 122 w.heap.size W3 v3 ((qs ++ pre.map (·.2)) ++ [x.2])) (hg : (W.alloc (.cells #[.pointer x.2] 122)).grownBy W3 u0.ownBlock) :
    Boxed W3 (w.heap.size + 1) 155 u0 ∧ KeepsOthers W (W3.setCell ⟨w.heap.size + 1, 0, none⟩ v3) ∧ Kq w.heap.size n2 W (W3.setCell ⟨w.heap.size + 1, 0, none⟩ v3) ∧ RwJ w n2 rv v L qs ds (pre ++ [x]) (W3.setCell ⟨w.heap.size + 1, 0, none⟩ v3) := by
  obtain ⟨-, hrb, how, hbl, hdf⟩ := hJ
  have hBs := hbl.size
  have h2 : Below W.heap.size W (W.alloc (.cells #[.pointer x.2] 122)) := (Below.refl _ _).alloc (Nat.le_refl _) _
  have hb2 := hb0.alloc (.cells #[.pointer x.2] 122)
  have hr2 := hrb.alloc (.cells #[.pointer x.2] 122)
  have ho2 := hown.alloc (.cells #[.pointer x.2] 122)
  have hw2 := how.alloc (.cells #[.pointer x.2] 122)
  have hne := hb2.not_row (by decide) ho2
  have hne2 := hr2.not_row (by decide) ho2
  have hb3 := hb2.kept hg hne
  have hr3 := hr2.kept hg hne2
  have hne3 : v3.ownBlock ≠ some (w.heap.size + 1) := fun e => (hb3.not_row (by decide) h3) e.symm
  have hw3 : Own ndc 6 43 w.heap.size W3 v L := World.ownsRow.kept hw2 hg (own_apart hw2 ho2 (by decide))
  have hlow : Below w.heap.size W W3 := (h2.mono hBs).trans ((Below.refl _ _).grown hg (by simp; omega) (fun j e => (World.ownsRow.lt ho2 _ e).1))
  have hset0 := hlow.setCell (p := ⟨w.heap.size + 1, 0, none⟩) (by show w.heap.size ≤ w.heap.size + 1; omega) v3
  have hn2 := hrb.lt
  refine ⟨hb3, ?_, ⟨hset0, (Below.heap_setCell W3 ⟨w.heap.size + 1, 0, none⟩ v3 n2 (by show n2 ≠ w.heap.size + 1; omega)).trans (hr3.trans hrb.symm)⟩, ⟨v3, hb3.set v3, ?_⟩, (Below.heap_setCell W3 ⟨w.heap.size + 1, 0, none⟩ v3 n2 (by show n2 ≠ w.heap.size + 1; omega)).trans hr3, ownsRow_setCell_other hw3 (fun e => (hb3.not_row (by decide) hw3) e.symm) v3, hbl.trans hset0, fun d hd => ?_⟩
  · refine ((keeps_below h2).trans (KeepsOthers.of_grownBy hg (fun j o e ho => ?_))).trans (KeepsOthers.setCell _ _ _)
    obtain ⟨g, cap, cur, hv, _, hh, _⟩ := (ho2.2).resolve_left (fun h => by rw [h.1] at e; cases e)
    rw [hv] at e
    cases e
    rw [hh] at ho
    cases ho
    rfl
  · have h4 := ownsRow_setCell_other (a := ⟨w.heap.size + 1, 0, none⟩) h3 hne3 v3
    rw [List.map_append, List.map_singleton, ← List.append_assoc]
    exact h4
  · obtain ⟨D, a1, a2, a3, a4⟩ := hdf d hd
    have hlt : D < W.heap.size := (Array.getElem?_eq_some_iff.1 a4).1
    have a5 : (W.alloc (.cells #[.pointer x.2] 122)).heap[D]? = some (.deferred (some [])) := (h2.block D hlt).trans a4
    have d1 : some D ≠ u0.ownBlock := fun e => by
      obtain ⟨g, cap, cur, hv, _, hh, _⟩ := (ho2.2).resolve_left (fun h => by rw [h.1] at e; cases e)
      rw [hv] at e
      cases e
      rw [hh] at a5
      cases a5
    have d2 : D ≠ w.heap.size + 1 := fun e => by
      subst e
      have h5 := hb2.symm.trans a5
      cases h5
    exact ⟨D, a1, a2, a3, (Below.heap_setCell W3 ⟨w.heap.size + 1, 0, none⟩ v3 D d2).trans ((hg.block D (by simp; omega) d1).trans a5)⟩
/-- The last one is taken off the heap of what is left, and a node is laid: what is left, and what is deferred, lies as it lay. -/
theorem RwI.pop {w wr w2 : World} {N L : List Nd} {v u : Value} {qs : List (Option Addr)} {p : Option Addr} {ts : List (Tr Nd)} {gu cu : Nat} {o1 o2 : Obj} (hI : RwI w N wr v L u (qs ++ [p]) ts) (hu : u = .slice (some ⟨gu, 0, none⟩) (qs ++ [p]).length cu)
    (hg : (((wr.setCell ⟨w.heap.size + 1, 0, none⟩ (.slice (some ⟨gu, 0, none⟩) qs.length cu)).alloc o1).alloc o2).grownBy w2 v.ownBlock) :
    Boxed w2 (w.heap.size + 1) 155 (.slice (some ⟨gu, 0, none⟩) qs.length cu) ∧ Own ptc 1 122 w.heap.size w2 (.slice (some ⟨gu, 0, none⟩) qs.length cu) qs ∧ (∀ ds, Dfs w.heap.size ds wr → ∀ d, d ∈ ds → ∃ D : Nat, w.heap.size ≤ D ∧ D < w2.heap.size ∧ d = { target := .collected D, args := #[] } ∧ w2.heap[D]? = some (.deferred (some []))) := by
  obtain ⟨hbx, hst, how, -, -, hbl, -⟩ := hI
  subst hu
  have hs1 : Own ptc 1 122 w.heap.size (wr.setCell ⟨w.heap.size + 1, 0, none⟩ (.slice (some ⟨gu, 0, none⟩) qs.length cu)) (.slice (some ⟨gu, 0, none⟩) (qs ++ [p]).length cu) (qs ++ [p]) := ownsRow_setCell_other hst (fun e => (hbx.not_row (by decide) hst) e.symm) _
  have hs2 := ((Own.cut ptc_len hs1).alloc o1).alloc o2
  have hb1 := ((hbx.set (.slice (some ⟨gu, 0, none⟩) qs.length cu)).alloc o1).alloc o2
  have hw1 : Own ndc 6 43 w.heap.size (wr.setCell ⟨w.heap.size + 1, 0, none⟩ (.slice (some ⟨gu, 0, none⟩) qs.length cu)) v L := ownsRow_setCell_other how (fun e => (hbx.not_row (by decide) how) e.symm) _
  have hw2 := (hw1.alloc o1).alloc o2
  refine ⟨hb1.kept hg (hb1.not_row (by decide) hw2), World.ownsRow.kept hs2 hg (own_apart hs2 hw2 (by decide)), fun ds hd d hdm => ?_⟩
  obtain ⟨D, a1, a2, a4⟩ := hd d hdm
  have hlt : D < wr.heap.size := (Array.getElem?_eq_some_iff.1 a4).1
  have d2 : D ≠ w.heap.size + 1 := fun e => by
    subst e
    have h5 := hbx.symm.trans a4
    cases h5
  have a5 : (((wr.setCell ⟨w.heap.size + 1, 0, none⟩ (.slice (some ⟨gu, 0, none⟩) qs.length cu)).alloc o1).alloc o2).heap[D]? = some (.deferred (some [])) :=
    ((((Below.refl _ (wr.setCell ⟨w.heap.size + 1, 0, none⟩ (.slice (some ⟨gu, 0, none⟩) qs.length cu))).alloc (Nat.le_refl _) o1).alloc (by simp) o2).block D (by simp; exact hlt)).trans ((Below.heap_setCell wr ⟨w.heap.size + 1, 0, none⟩ _ D d2).trans a4)
  have d1 : some D ≠ v.ownBlock := fun e => by
    obtain ⟨g, cap, cur, hv, _, hh, _⟩ := (hw2.2).resolve_left (fun h => by rw [h.1] at e; cases e)
    rw [hv] at e
    cases e
    rw [hh] at a5
    cases a5
  have a6 := (hg.block D (by simp; omega) d1).trans a5
  exact ⟨D, a1, (Array.getElem?_eq_some_iff.1 a6).1, a2, a6⟩
theorem node_many {n : Nd} {k : Int} (h : n.many = k) : ({ n with many := k } : Nd) = n := by cases n; simp at h; simp [h]
/-- Behind the inner range. -/
theorem RwI.next {w wr W : World} {N L : List Nd} {v v2 u rv : Value} {qs ps2 : List (Option Addr)} {p : Option Addr} {us : List (Tr Nd)} {x : Tr Nd} {n2 D : Nat} {ds : List Deferred} (hI : RwI w N wr v L u (qs ++ [p]) (us ++ [x])) (hks : TrsS (fun b => b < w.heap.size) wr x.ks (ps2.map .pointer)) (hn : wr.heap.size ≤ n2)
    (hJ : RwJ w n2 rv v2 (L ++ [{ x.nd with many := (x.ks.length : Nat) }]) qs ds (bwds ps2) W) (hD : n2 < D) (hK : W.heap[D]? = some (.deferred (some []))) (hnd : ds.Nodup) :
    ∃ u2, RwI w N W v2 (L ++ [{ x.nd with many := (x.ks.length : Nat) }]) u2 (qs ++ ps2.reverse) (us ++ x.ks.reverse) ∧ Dfs w.heap.size ({ target := .collected D, args := #[] } :: ds) W ∧ ({ target := .collected D, args := #[] } :: ds).Nodup := by
  obtain ⟨-, -, -, htr, hok, hbl, hall⟩ := hI
  obtain ⟨⟨u2, h1, h2⟩, h3, h4, h5, h6⟩ := hJ
  rw [bwds_snd] at h2
  have hwn := hbl.size
  have hsz : wr.heap.size ≤ W.heap.size := by have := h3.lt; omega
  have hbk : ∀ b, b < w.heap.size → b < wr.heap.size → W.heap[b]? = wr.heap[b]? := fun b hb _ => (h5.block b hb).trans (hbl.block b hb).symm
  obtain ⟨o1, o2⟩ := okTs_append.1 hok
  have ox := (okTs_cons.1 o2).1
  have hxm : x.nd.many = x.ks.length := (okT_eq.1 ox).1
  have hl0 := TrsS_len htr
  simp only [List.map_append, List.length_append, List.length_map, List.length_singleton] at hl0
  have hql : qs.length = us.length := by simp at hl0; omega
  have hpl : ps2.length = x.ks.length := by have := TrsS_len hks; simpa using this
  refine ⟨u2, ⟨h1, h2, h4, ?_, ?_, h5, ?_⟩, ?_, ?_⟩
  · rw [List.map_append]
    refine TrsS_append ?_ ?_
    · have h := TrsS_take (htr.same hsz hbk) us.length
      rw [List.take_left, List.map_append, List.take_left' (by simp [hql])] at h
      exact h
    · refine TrsS_sub (hks.same hsz hbk) (fun i => x.ks.length - 1 - i) (by simp [hpl]) (fun i hi => ?_) (fun i hi => ?_)
      · rw [List.length_reverse] at hi
        rw [List.getElem?_reverse hi]
      · rw [List.map_reverse, List.getElem?_reverse (by simp at hi ⊢; omega), List.length_map, hpl]
  · refine okTs_append.2 ⟨o1, okTs_all.2 fun k hk => okTs_all.1 (okT_eq.1 ox).2 k (List.mem_reverse.1 hk)⟩
  · rw [node_many hxm, ← hall, List.reverse_append, List.reverse_reverse, List.reverse_append, flats_append, flats_append, List.append_assoc]
    congr 1
    simp [flats_cons, flat_eq x]
  · intro d hd
    rcases List.mem_cons.1 hd with rfl | hd
    · exact ⟨D, by omega, rfl, hK⟩
    · obtain ⟨D', a1, a2, a3, a4⟩ := h6 d hd
      exact ⟨D', a1, a3, a4⟩
  · refine List.nodup_cons.2 ⟨fun hd => ?_, hnd⟩
    obtain ⟨D', a1, a2, a3, a4⟩ := h6 _ hd
    injection a3 with a3
    injection a3 with a3
    omega
def slen : Value → Nat
  | .slice _ n _ => n
  | _ => 0
set_option maxRecDepth 100000 in
set_option maxHeartbeats 2000000 in
theorem evRow_any (t : Tr Nd) (g : Nat) (w : World) (ho : okT many t) (hl : (flat t).length ≤ 250000) (ht : TrS (fun b => b < w.heap.size) w t (.pointer (some ⟨g, 0, none⟩))) :
    Calls Tryz.prog 79 #[.pointer (some ⟨g, 0, none⟩)] w fun e w' => ∃ v', e = .returned v' ∧ Own ndc 6 43 w.heap.size w' v' (flat t) ∧ Below w.heap.size w w' := by
  have HT := Lib.hid ht
  have HO := Lib.hid ho
  clear ht ho
  refine (callsIn_wide (n := 5)).1 ?_
  refine callsIn_of_wp_marks Tryz.func79 rfl trivial ?_ rfl
  simp only [Tryz.ntmps79, List.size_toArray, List.length_cons, List.length_nil, Nat.reduceAdd, Nat.reduceSub, Array.replicate_succ, Array.replicate_zero, List.push_toArray, List.append_toArray, List.nil_append, List.cons_append]
  gi_wp2_with fail
  have HI0 : Hid (RwI w (flat t) ((w.alloc (.cells #[.pointer (some ⟨g, 0, none⟩)] 122)).alloc (.cells #[.slice (some ⟨w.heap.size, 0, none⟩) 1 1] 155)) (.slice none 0 0) [] (.slice (some ⟨w.heap.size, 0, none⟩) 1 1) [some ⟨g, 0, none⟩] [t]) := Lib.hid
    (by
      refine ⟨?_, ?_, Own.nil _, ?_, ?_, ?_, ?_⟩
      · have := Boxed.new (w.alloc (.cells #[.pointer (some ⟨g, 0, none⟩)] 122)) 155 (.slice (some ⟨w.heap.size, 0, none⟩) 1 1)
        rwa [World.size_alloc] at this
      · exact (Own.lit ptc_len w #[.pointer (some ⟨g, 0, none⟩)] [some ⟨g, 0, none⟩] (Nat.le_refl _) (by show 1 ≤ maxLen; decide) rfl).alloc _
      · exact TrsS_cons.2 ⟨HT.out.below (((Below.refl _ _).alloc (Nat.le_refl _) _).alloc (by simp) _), TrsS_nil⟩
      · exact okTs_cons.2 ⟨HO.out, okTs_nil⟩
      · exact ((Below.refl _ _).alloc (Nat.le_refl _) _).alloc (by simp) _
      · simp [flats_cons, flats_nil])
  refine wpIn_loop (fun a wr => ∃ (f : Nat → Value) (v u : Value) (L : List Nd) (ps : List (Option Addr)) (ts : List (Tr Nd)) (ds : List Deferred), a = { tmps := #[.pointer (some ⟨g, 0, none⟩), undef, f 2, v, .pointer (some ⟨w.heap.size + 1, 0, none⟩), f 5, f 6, f 7, undef, f 9, .pointer (some ⟨g, 0, none⟩), .slice (some ⟨w.heap.size, 0, none⟩) 1 1, f 12, f 13, f 14, f 15, f 16, f 17, f 18, f 19, f 20, f 21, f 22, f 23, f 24, f 25, f 26, f 27, f 28, f 29, f 30, f 31, f 32, f 33, f 34, f 35, f 36, f 37, f 38, f 39, f 40, f 41, f 42, f 43, undef, undef, f 46, f 47, f 48, f 49, f 50], defers := ds } ∧ Hid (RwI w (flat t) wr v L u ps ts) ∧ Hid (Dfs w.heap.size ds wr) ∧ Hid ds.Nodup)
    (fun a _ => 250000 - slen (a.tmps.getD 3 undef)) ?_ ?_
  · refine ⟨fun k => if k = 2 then .slice none 0 0 else undef, .slice none 0 0, _, [], _, _, [], rfl, HI0, Lib.hid (fun d hd => absurd hd (by simp)), Lib.hid List.nodup_nil⟩
  · rintro a wr ⟨f, u3, u, L, ps, ts, ds, rfl, HI, HDF, HND⟩
    clear HI0
    have hI := HI.out
    have hcu := hI.bx.cell
    have hfu := hI.bx.frozen
    have hlen : ps.length = ts.length := by have := TrsS_len hI.tr; simpa using this
    obtain ⟨Av, cv, rfl, -, -, -⟩ := hI.ow.form
    obtain ⟨Au, cu, hu3, hcl, -, -⟩ := hI.st.form
    rcases List.eq_nil_or_concat ps with rfl | ⟨qs, p, rfl⟩
    · have hts : ts = [] := List.eq_nil_of_length_eq_zero (by simpa using hlen.symm)
      subst hts
      subst hu3
      have HL : Hid (L = flat t) := Lib.hid (by have := hI.all; simpa [flats_nil] using this)
      clear hI
      gi_wp2_with fail
      refine leavesM_collected w.heap.size (fun W => Own ndc 6 43 w.heap.size W (.slice Av L.length cv) L ∧ Below w.heap.size w W) ?_ ?_ ds wr ⟨HI.out.ow, HI.out.bl⟩ HDF.out HND.out
      · rintro W D hD ⟨hown, hB⟩ hK
        exact ⟨hown.turned (grownBy_putObj' W D (.deferred none)) (fun r e => by cases e; exact ⟨_, hK, rfl⟩), hB.trans (belowK_b (w := w) (Nat.le_refl _) W D _ _ hD hK rfl rfl)⟩
      · rintro W ⟨hown, hB⟩
        exact ⟨_, results_tmp rfl _ _ _, _, rfl, by rw [← HL.out]; exact hown, hB⟩
    · rw [List.concat_eq_append] at *
      rcases List.eq_nil_or_concat ts with rfl | ⟨us, x, rfl⟩
      · simp at hlen
      rw [List.concat_eq_append] at *
      have hlq : qs.length = us.length := by simpa using hlen
      obtain ⟨px, hpx, hTx⟩ := TrsS_at hI.tr (i := us.length) (k := x) (by simp)
      have hpx2 : px = .pointer p := by
        rw [List.map_append, List.getElem?_append_right (by simp [hlq])] at hpx
        simpa [hlq] using hpx.symm
      subst hpx2
      obtain ⟨gx, m, Ax, cx, vs, hp, hgx, hgx2, hnd, hc6, hrow, hks⟩ := hTx.opened
      injection hp with hp
      subst hp
      obtain ⟨gu, ku, hgu⟩ := ownsRow_succ (k := qs.length) (by have := hI.st; rw [hu3] at this; unfold Own at this; rw [List.length_append] at this; exact this)
      rw [hu3] at hcu
      injection hgu with e1 e2 e3
      subst e1 e3
      have hcp : wr.cell? ⟨gu, qs.length, none⟩ = some (.pointer (some ⟨gx, 0, none⟩)) := by
        have h1 := hI.st.row ptc_len
        rw [hu3] at h1
        obtain ⟨A0, c0, hv0, -, -, -, H0⟩ := h1
        injection hv0 with e4
        obtain ⟨g0, o0, hA0, hl0, hx0⟩ := H0 (by simp)
        rw [← e4] at hA0
        injection hA0 with hA0
        injection hA0 with e5 e6
        have := hx0 qs.length (some ⟨gx, 0, none⟩) (by simp) 0 _ rfl
        rw [← e5, ← e6] at this
        simpa using this
      have q0 : (0 : Int) < ((qs ++ [some (⟨gx, 0, none⟩ : Addr)]).length : Nat) := by simp
      have q1 : (((qs ++ [some (⟨gx, 0, none⟩ : Addr)]).length : Nat) : Int) - 1 = (qs.length : Nat) := by simp
      have q2 : us.length ≤ 250000 := by
        have h1 := congrArg List.length hI.all
        have h2 := flats_len (us ++ [x]).reverse
        rw [List.length_append] at h1
        rw [List.length_reverse, List.length_append] at h2
        simp only [List.length_singleton] at h2
        omega
      have q3 : us.length ≤ cu := by simp at hcl; omega
      rw [hlq] at hcp
      obtain ⟨y0, y1, y2, y3, y4, y5⟩ := hnd
      have HXK := Lib.hid hI.ok
      have hbx := hI.bx
      have hlb := hbx.lt
      have h2a := (hbx.set (.slice (some ⟨gu, 0, none⟩) us.length cu))
      have hst := hI.st
      have how := hI.ow
      have hstne : some (w.heap.size + 1) ≠ (Value.slice Av L.length cv).ownBlock := hbx.not_row (by decide) how
      have HOW : Hid (∀ o, Own ndc 6 43 w.heap.size ((wr.setCell ⟨w.heap.size + 1, 0, none⟩ (.slice (some ⟨gu, 0, none⟩) us.length cu)).alloc o) (.slice Av L.length cv) L) := Lib.hid (fun o => by
        have h1 : Own ndc 6 43 w.heap.size (wr.setCell ⟨w.heap.size + 1, 0, none⟩ (.slice (some ⟨gu, 0, none⟩) us.length cu)) (.slice Av L.length cv) L := ownsRow_setCell_other how (fun e => hstne e.symm) _
        exact h1.alloc o)
      have hLl : L.length ≤ 250000 := by have h1 := congrArg List.length hI.all; rw [List.length_append] at h1; omega
      have hws : w.heap.size ≤ wr.heap.size := hI.bl.size
      have hbl := hI.bl
      have hvo : ∀ j, (Value.slice Av L.length cv).ownBlock = some j → w.heap.size ≤ j := fun j e => (World.ownsRow.lt how _ e).1
      clear hI h2a hst how hstne hbx hlb
      gi_wp2_with (gi_at_builtin; refine wpListIn_append_row (base := w.heap.size) (l := L) (l2 := [{ x.nd with many := (x.ks.length : Nat) }]) elNode rfl _ _ rfl rfl ?hown rfl ?hrow (by simp) ?h63 ?hby ?hbase ?hgo)
      case hown => exact (HOW.out _).alloc _
      case hrow =>
        have h1 := Row.lit (enc := ndc) (sz := 6) (fun _ => rfl) ((wr.setCell ⟨w.heap.size + 1, 0, none⟩ (.slice (some ⟨gu, 0, none⟩) us.length cu)).alloc (.cells (ndc { x.nd with many := (x.ks.length : Nat) }).toArray 43)) 43 (ndc { x.nd with many := (x.ks.length : Nat) }).toArray [{ x.nd with many := (x.ks.length : Nat) }] (by show 1 ≤ maxLen; decide) (by simp)
        simpa [ndc] using h1
      case h63 => unfold maxLen; omega
      case hby => omega
      case hbase => omega
      case hgo =>
        intro A2 c2 w2 hown2 hg2 hat2
        have hbb : Below w.heap.size wr w2 := by
          have h1 : Below w.heap.size wr (wr.setCell ⟨w.heap.size + 1, 0, none⟩ (.slice (some ⟨gu, 0, none⟩) us.length cu)) := (Below.refl _ _).setCell (p := ⟨w.heap.size + 1, 0, none⟩) (by show w.heap.size ≤ w.heap.size + 1; omega) _
          have h2 := h1.size
          exact ((h1.alloc (by omega) _).alloc (by simp; omega) _).grown hg2 (by simp; omega) hvo
        have e3 : w2.cell? ⟨gx, 6, none⟩ = some (.slice Ax x.ks.length cx) := (hbb.cell (p := ⟨gx, 6, none⟩) hgx).trans hc6
        have HB2 : Hid (Below w.heap.size w w2) := Lib.hid (hbl.trans hbb)
        have HP2 := Lib.hid (HI.out.pop hu3 (w2 := w2) (by rw [hlq]; exact hg2))
        have HO2 : Hid (Own ndc 6 43 w.heap.size w2 (.slice A2 (L.length + 1) c2) (L ++ [{ x.nd with many := (x.ks.length : Nat) }])) := Lib.hid (by simpa using hown2)
        have HBB := Lib.hid hbb
        have hwl : w.heap.size + 1 < w2.heap.size := by have h1 := HP2.out.1.lt; omega
        clear hown2 hg2 hat2
        gi_wp2_with (refine ⟨trivial, ?_⟩; gi_at_call 126; refine (bwd_in _ _ _ _ _).mono ?_; rintro e w' ⟨rfl, rfl⟩)
        obtain ⟨ps2, rfl⟩ := TrsS_ptrs hks
        have hpl : ps2.length = x.ks.length := by have := TrsS_len hks; simpa using this
        have hLx : L.length + (flat x).length ≤ 250000 := by
          have h1 := congrArg List.length HI.out.all
          rw [List.reverse_append, List.reverse_singleton, List.singleton_append, flats_cons, List.length_append, List.length_append] at h1
          omega
        have hxl : x.ks.length ≤ 250000 := by
          have h1 := flats_len x.ks
          have h2 := congrArg List.length (flat_eq x)
          simp at h2; omega
        have bN := Boxed.new w2 155 (.slice Ax x.ks.length cx)
        have HRW : RowS (fun b => b < w.heap.size) (w2.alloc (.cells #[.slice Ax x.ks.length cx] 155)) (.slice Ax x.ks.length cx) (ps2.map Value.pointer) := hrow.same (by have := hbb.size; simp; omega) (fun b hb _ => (hbb.alloc (by omega) (.cells #[.slice Ax x.ks.length cx] 155)).block b hb)
        have hb0 : Below w.heap.size w (w2.alloc (.cells #[.slice Ax x.ks.length cx] 155)) := HB2.out.alloc (by omega) _
        refine wpIn_rangeFunc_ownG rfl (by omega) (gf := 181) (lb := #[.pointer (some ⟨w2.heap.size, 0, none⟩)]) rfl trivial (enters_of Tryz.func181 (by kernel_rfl) rfl)
          (bwd_stops _ (by omega) w2.heap.size w.heap.size (.slice Ax x.ks.length cx) ps2 (by omega) (w2.alloc (.cells #[.slice Ax x.ks.length cx] 155)) bN (by simp; omega) HRW) Kq.trans (kq_b (by simp; omega) (by simp)) (Below.refl _ _) (fun _ => rfl)
          (RwJ w w2.heap.size (.slice Ax x.ks.length cx) (.slice A2 (L.length + 1) c2) (L ++ [{ x.nd with many := (x.ks.length : Nat) }]) qs ds) (fun _ _ _ => False) (RwJ.own w w2.heap.size _ _ _ _ _ _ (by simp; omega) (by simp)) (fun _ _ _ _ _ hs _ _ => hs)
          ⟨⟨_, HP2.out.1.alloc _, by simpa using HP2.out.2.1.alloc _⟩, bN, HO2.out.alloc _, hb0, fun d hd => by
            obtain ⟨D, a1, a2, a3, a4⟩ := HP2.out.2.2 ds HDF.out d hd
            exact ⟨D, a1, a2, a3, (((Below.refl _ w2).alloc (Nat.le_refl _) _).block D a2).trans a4⟩⟩
          (fun y => { tmps := #[Value.pointer (some ⟨g, 0, none⟩), undef, f 2, Value.slice A2 (L.length + 1) c2, Value.pointer (some ⟨w.heap.size + 1, 0, none⟩), Value.int IntKind.i64 ((us.length : Nat) : Int), Value.pointer (some ⟨gx, 0, none⟩), Value.pointer (some ⟨wr.heap.size, 0, none⟩), undef, Value.pointer y.2, Value.pointer (some ⟨g, 0, none⟩), Value.slice (some ⟨w.heap.size, 0, none⟩) 1 1, Value.slice (some ⟨gu, 0, none⟩) (us.length + 1) cu, Value.int IntKind.i64 (((us.length : Nat) : Int) + 1), Value.bool true, Value.slice (some ⟨gu, 0, none⟩) (us.length + 1) cu, Value.int IntKind.i64 (((us.length : Nat) : Int) + 1), Value.int IntKind.i64 ((us.length : Nat) : Int), Value.slice (some ⟨gu, 0, none⟩) (us.length + 1) cu, Value.int IntKind.i64 ((us.length : Nat) : Int), Value.pointer (some ⟨gu, us.length, none⟩), Value.pointer (some ⟨gx, 0, none⟩), Value.slice (some ⟨gu, 0, none⟩) (us.length + 1) cu, Value.int IntKind.i64 ((us.length : Nat) : Int), Value.slice (some ⟨gu, 0, none⟩) us.length cu, Value.pointer (some ⟨gx, 0, none⟩), Value.pointer (some ⟨gx, 0, none⟩), Value.pointer (some ⟨gx, 0, none⟩), Value.agg #[Value.int IntKind.i64 x.nd.kind, Value.int IntKind.i64 m, Value.string ⟨x.nd.name.toArray⟩, Value.string ⟨x.nd.s.toArray⟩, Value.bool x.nd.neg, Value.int IntKind.i64 x.nd.e], Value.pointer (some ⟨gx, 0, none⟩), Value.pointer (some ⟨gx, 0, none⟩), Value.pointer (some ⟨gx, 6, none⟩), Value.slice Ax x.ks.length cx, Value.int IntKind.i64 ((x.ks.length : Nat) : Int), Value.pointer (some ⟨wr.heap.size, 1, none⟩), Value.slice Av L.length cv, Value.agg #[Value.int IntKind.i64 x.nd.kind, Value.int IntKind.i64 ((x.ks.length : Nat) : Int), Value.string ⟨x.nd.name.toArray⟩, Value.string ⟨x.nd.s.toArray⟩, Value.bool x.nd.neg, Value.int IntKind.i64 x.nd.e], Value.slice (some ⟨wr.heap.size + 1, 0, none⟩) 1 1, Value.slice A2 (L.length + 1) c2, Value.pointer (some ⟨gx, 0, none⟩), Value.pointer (some ⟨gx, 0, none⟩), Value.pointer (some ⟨gx, 6, none⟩), Value.slice Ax x.ks.length cx, Value.func (Fn.func 181) #[] #[Value.pointer (some ⟨w2.heap.size, 0, none⟩)], Value.int IntKind.i64 (y.1 : Nat), Value.pointer y.2, f 46, f 47, f 48, f 49, f 50], defers := [] }) ?assign ?body ?done ?stop
        case assign =>
          intro l y W K hK
          gi_wp2
          exact hK
        case body =>
          rintro l pre y W hJ hlt
          obtain ⟨⟨u0, hb0, hown⟩, -, -, hJb, -⟩ := id hJ
          have hql : qs.length ≤ 250000 := by omega
          rw [hpl] at hlt
          have hzl : (qs ++ pre.map (·.2)).length ≤ 500000 := by simp; omega
          generalize hZ : qs ++ pre.map (·.2) = Z at *
          have HZ := Lib.hid hZ
          obtain ⟨A0, c0, rfl, hc0, hcm0, -⟩ := hown.form
          have HJ := Lib.hid hJ
          have HOW0 := Lib.hid hown
          have HB0 := Lib.hid hb0
          have hcell := hb0.cell
          have hfrz := hb0.frozen
          have hbs := hJb.size
          have HA1 := Lib.hid (hown.alloc (.cells #[.pointer y.2] 122))
          have HR1 := Lib.hid (Row.lit ptc_len W 122 #[.pointer y.2] [y.2] (by show 1 ≤ maxLen; decide) rfl)
          have H63 : Hid (Z.length + [y.2].length ≤ maxLen) := Lib.hid (by simp only [List.length_singleton]; unfold maxLen; omega)
          have HBY : Hid ((Z.length + [y.2].length) * 8 ≤ 140737488355328) := Lib.hid (by simp only [List.length_singleton]; omega)
          have HBA : Hid (w.heap.size ≤ (W.alloc (.cells #[.pointer y.2] 122)).heap.size) := Lib.hid (by simp; omega)
          clear hJ hown hb0 hZ
          refine wpIn_block ?_
          gi_wp2_with (gi_at_builtin; refine wpListIn_append_row (base := w.heap.size) (l := Z) (l2 := [y.2]) elTree rfl _ _ rfl rfl HA1.out rfl HR1.out (by simp) H63.out HBY.out HBA.out ?_; intro A3 c3 w3 hown3 hg3 hat3; obtain ⟨hb3, hk3, hkq, hJ3⟩ := RwJ.step (x := y) HJ.out hwl HB0.out (by rw [HZ.out]; exact HOW0.out) (by rw [HZ.out]; exact hown3) hg3; have hc3 := hb3.cell; have hf3 := hb3.frozen; have HF := Lib.hid (And.intro (hk3.from (w2.alloc (.cells #[.slice Ax x.ks.length cx] 155)).heap.size) (And.intro hkq hJ3)); clear hb3 hk3 hkq hJ3 hown3 hg3 hat3)
          have h := HF.out
          simp only [World.size_alloc, List.length_append, List.length_singleton] at h
          exact h
        case done =>
          rintro D ys W hD rfl hJ hK
          obtain ⟨u2, hn1, hn2, hn3⟩ := RwI.next HI.out hks (by have := hbb.size; omega) hJ (by simp at hD; omega) hK HND.out
          refine ⟨⟨fun k => ([Value.pointer (some ⟨g, 0, none⟩), undef, f 2, Value.slice A2 (L.length + 1) c2, Value.pointer (some ⟨w.heap.size + 1, 0, none⟩), Value.int IntKind.i64 ((us.length : Nat) : Int), Value.pointer (some ⟨gx, 0, none⟩), Value.pointer (some ⟨wr.heap.size, 0, none⟩), undef, f 9, Value.pointer (some ⟨g, 0, none⟩), Value.slice (some ⟨w.heap.size, 0, none⟩) 1 1, Value.slice (some ⟨gu, 0, none⟩) (us.length + 1) cu, Value.int IntKind.i64 (((us.length : Nat) : Int) + 1), Value.bool true, Value.slice (some ⟨gu, 0, none⟩) (us.length + 1) cu, Value.int IntKind.i64 (((us.length : Nat) : Int) + 1), Value.int IntKind.i64 ((us.length : Nat) : Int), Value.slice (some ⟨gu, 0, none⟩) (us.length + 1) cu, Value.int IntKind.i64 ((us.length : Nat) : Int), Value.pointer (some ⟨gu, us.length, none⟩), Value.pointer (some ⟨gx, 0, none⟩), Value.slice (some ⟨gu, 0, none⟩) (us.length + 1) cu, Value.int IntKind.i64 ((us.length : Nat) : Int), Value.slice (some ⟨gu, 0, none⟩) us.length cu, Value.pointer (some ⟨gx, 0, none⟩), Value.pointer (some ⟨gx, 0, none⟩), Value.pointer (some ⟨gx, 0, none⟩), Value.agg #[Value.int IntKind.i64 x.nd.kind, Value.int IntKind.i64 m, Value.string ⟨x.nd.name.toArray⟩, Value.string ⟨x.nd.s.toArray⟩, Value.bool x.nd.neg, Value.int IntKind.i64 x.nd.e], Value.pointer (some ⟨gx, 0, none⟩), Value.pointer (some ⟨gx, 0, none⟩), Value.pointer (some ⟨gx, 6, none⟩), Value.slice Ax x.ks.length cx, Value.int IntKind.i64 ((x.ks.length : Nat) : Int), Value.pointer (some ⟨wr.heap.size, 1, none⟩), Value.slice Av L.length cv, Value.agg #[Value.int IntKind.i64 x.nd.kind, Value.int IntKind.i64 ((x.ks.length : Nat) : Int), Value.string ⟨x.nd.name.toArray⟩, Value.string ⟨x.nd.s.toArray⟩, Value.bool x.nd.neg, Value.int IntKind.i64 x.nd.e], Value.slice (some ⟨wr.heap.size + 1, 0, none⟩) 1 1, Value.slice A2 (L.length + 1) c2, Value.pointer (some ⟨gx, 0, none⟩), Value.pointer (some ⟨gx, 0, none⟩), Value.pointer (some ⟨gx, 6, none⟩), Value.slice Ax x.ks.length cx, Value.func (Fn.func 181) #[] #[Value.pointer (some ⟨w2.heap.size, 0, none⟩)], undef, undef, f 46, f 47, f 48, f 49, f 50] : List Value).getD k undef, _, u2, _, _, _, _, rfl, Lib.hid hn1, Lib.hid hn2, Lib.hid hn3⟩, ?_⟩
          have := flat_pos x
          show 250000 - (L.length + 1) < 250000 - L.length
          omega
        case stop =>
          rintro D c pre W _ _ h _
          exact h.elim
end Go.Proofs.YtdgcdemihalefaaGreatDoor

/-
  What a filter gives of a row, as a row: given; Follow; Delete.
-/
namespace Go.Proofs.YtdgcdemihalefaaGreatDoor
open Go.RowKit Go.Shelf Np Rw Vp Pw Ev

/-- What comes out: a value, or nothing, and an error. -/
def OutV (w : World) (r : Rz) (e : Ending) (w' : World) : Prop := match r with
  | .ok t => ∃ v', e = .returned (.tuple #[v', .int .i64 0]) ∧ Nds w' v' (flat t) ∧ Below w.heap.size w w'
  | .bad k => e = .returned (.tuple #[.slice none 0 0, .int .i64 k]) ∧ Below w.heap.size w w'
set_option maxRecDepth 100000 in
set_option maxHeartbeats 2000000 in
theorem evGiven_any (B : Nat) (t : Tr Nd) (v fv : Value) (F : Tr Nd → Rz) (w : World) (hF : Gives B w fv F) (hv : Nds w v (flat t)) (ht : Val t) (hl : (flat t).length ≤ B) (hl2 : (flat t).length ≤ 1000000)
    (hok : ∀ u, F t = .ok u → okT many u ∧ (flat u).length ≤ 250000) (hbad : ∀ k, F t = .bad k → k ≠ 0) :
    Calls Tryz.prog 47 #[fv, v] w (OutV w (F t)) := by
  obtain ⟨K, cap, rfl, eK, hC⟩ := hF
  have HG := Lib.hid (evGrow_any t v w ht.ok hv hl2)
  have HC := Lib.hid (fun (W : World) (x : Value) (hW : Below w.heap.size w W) (h : TrS (fun b => w.heap.size ≤ b) W t x) => hC W _ t x hW h ht hl)
  have HOK := Lib.hid hok
  have HBAD := Lib.hid hbad
  obtain ⟨A, c, rfl, -⟩ := hv
  clear hC hok hbad ht
  generalize F t = R at *
  go_enter Tryz.func47, Tryz.ntmps47
  go_wp2_with fail
  refine HG.out.mono ?_
  rintro e w1 ⟨g, rfl, htr, hb1⟩
  have HC1 := Lib.hid (HC.out w1 _ hb1 htr)
  have HB1 := Lib.hid hb1
  clear htr hb1 HC HG
  cases R with
  | bad k =>
    have hk := HBAD.out k rfl
    have hk2 : (k == 0) = false := by simpa using hk
    clear hk HBAD HOK
    go_wp2_with fail
    refine HC1.out.mono ?_
    rintro e w2 ⟨rfl, hb2⟩
    go_wp2_with fail
    go_ret2
    exact ⟨rfl, Below.after HB1.out hb2⟩
  | ok u =>
    obtain ⟨hu1, hu2⟩ := HOK.out u rfl
    clear HOK HBAD
    go_wp2_with fail
    refine HC1.out.mono ?_
    rintro e w2 ⟨gu, rfl, htu, hb2⟩
    have HB2 := Lib.hid (Below.after HB1.out hb2)
    have HTU : Hid (TrS (fun b => b < w2.heap.size) w2 u (.pointer (some ⟨gu, 0, none⟩))) := Lib.hid (htu.mono (fun b hb _ => hb))
    have HR := Lib.hid (evRow_any u gu w2 hu1 hu2 HTU.out)
    clear htu hb2 HC1 hu1 hu2
    go_wp2_with fail
    refine HR.out.mono ?_
    rintro e w3 ⟨v3, rfl, ho3, hb3⟩
    have HO3 := Lib.hid (ho3.row ndc_len)
    obtain ⟨A3, c3, rfl, -, -, -⟩ := ho3.form
    clear ho3
    go_wp2_with fail
    go_ret2
    exact ⟨_, rfl, HO3.out, Below.after HB2.out hb3⟩
theorem flats_erase_le : ∀ (ts : List (Tr Nd)) (k : Nat), (flats (ts.eraseIdx k)).length ≤ (flats ts).length
  | [], k => by simp
  | a :: ts, 0 => by simp [flats_cons]
  | a :: ts, k + 1 => by
    have := flats_erase_le ts k
    simp [flats_cons]; omega
theorem flats_set_le : ∀ (ts : List (Tr Nd)) (k : Nat) (u y : Tr Nd), ts[k]? = some u → (flat y).length ≤ (flat u).length → (flats (ts.set k y)).length ≤ (flats ts).length
  | [], k, u, y, h, _ => by simp at h
  | a :: ts, 0, u, y, h, hl => by
    simp at h
    subst h
    simp [flats_cons]; omega
  | a :: ts, k + 1, u, y, h, hl => by
    have := flats_set_le ts k u y (by simpa using h) hl
    simp [flats_cons]; omega
theorem withK_len (t : Tr Nd) (ks : List (Tr Nd)) : (flat (withK t ks)).length = 1 + (flats ks).length := by
  unfold withK
  rw [flat_mk]; simp; omega
theorem flat_len1 (t : Tr Nd) : (flat t).length = 1 + (flats t.ks).length := by rw [flat_eq]; simp; omega
theorem nullT_len : (flat nullT).length = 1 := by unfold nullT; rw [flat_mk]; simp
theorem mem_len : ∀ {ts : List (Tr Nd)} {k : Tr Nd}, k ∈ ts → (flat k).length ≤ (flats ts).length
  | a :: ts, k, h => by
    rw [flats_cons, List.length_append]
    rcases List.mem_cons.1 h with e | h
    · subst e; omega
    · have := mem_len h; omega
theorem step_len {s : St} {t u : Tr Nd} (h : stepE s t = some u) : (flat u).length ≤ (flat t).length := by
  unfold stepE at h
  split at h
  · injection h with h
    have hp := flat_pos t
    cases hk : kid s t with
    | none => rw [hk] at h; subst h; rw [nullT_len]; omega
    | some k =>
      rw [hk] at h
      obtain ⟨y, h1, h2, h3, -⟩ := kid_at hk
      simp only at h
      rw [h2] at h
      subst h
      have := mem_len h3
      rw [flat_len1 t, flat_nmd_len]
      omega
  · cases h
theorem along_len : ∀ (p : List St) {t u : Tr Nd}, alongE p t = some u → (flat u).length ≤ (flat t).length
  | [], t, u, h => by rw [alongE] at h; injection h with h; subst h; exact Nat.le_refl _
  | s :: p, t, u, h => by
    rw [alongE] at h
    cases hs : stepE s t with
    | none => rw [hs] at h; cases h
    | some y =>
      rw [hs] at h
      exact Nat.le_trans (along_len p h) (step_len hs)
theorem cut_len : ∀ (p : List St) {t u : Tr Nd}, cutE p t = some u → (flat u).length ≤ (flat t).length
  | [], t, u, h => by
    rw [cutE] at h; injection h with h; subst h
    have := flat_pos t
    rw [nullT_len]; omega
  | s :: p, t, u, h => by
    rw [cutE_cons] at h
    split at h
    · cases hk : kid s t with
      | none => rw [hk] at h; injection h with h; subst h; exact Nat.le_refl _
      | some k =>
        rw [hk] at h
        simp only at h
        obtain ⟨y, h1, h2, h3, -⟩ := kid_at hk
        split at h
        · injection h with h
          subst h
          rw [withK_len, flat_len1 t]
          have := flats_erase_le t.ks k
          omega
        · rw [h2] at h
          cases hc : cutE p y with
          | none => rw [hc] at h; cases h
          | some z =>
            rw [hc] at h
            injection h with h
            subst h
            rw [withK_len, flat_len1 t]
            have := flats_set_le t.ks k y z h1 (cut_len p hc)
            omega
    · cases h
set_option maxRecDepth 100000 in
set_option maxHeartbeats 2000000 in
theorem evFollow_any (pv v : Value) (p : List St) (t : Tr Nd) (w : World) (hp : Sps w pv p) (hps : ∀ s ∈ p, rightS s = true) (hv : Nds w v (flat t)) (ht : Val t) (hl : (flat t).length ≤ 60000) :
    Calls Tryz.prog 20 #[pv, v] w (OutV w (ofO (alongE p t))) := by
  have HA := Lib.hid (evAlong_any 60000 pv p w hp hps)
  have HG : Hid (∀ (W : World) (fv : Value), Below w.heap.size w W → Gives 60000 W fv (fun t => ofO (alongE p t)) → Calls Tryz.prog 47 #[fv, v] W (OutV W (ofO (alongE p t)))) := Lib.hid (fun W fv hW hF => evGiven_any 60000 t v fv _ W hF (hv.below hW) ht hl (by omega) (fun u hu => by
    cases hc : alongE p t with
    | none => rw [hc] at hu; cases hu
    | some y =>
      rw [hc] at hu; injection hu with hu; subst hu
      exact ⟨(along_val p ht hc).ok, by have := along_len p hc; omega⟩) (fun k hk => by
    cases hc : alongE p t with
    | none => rw [hc] at hk; injection hk with hk; subst hk; decide
    | some y => rw [hc] at hk; cases hk))
  obtain ⟨A, c, rfl, -⟩ := hp
  obtain ⟨A2, c2, rfl, -⟩ := hv
  clear hps ht
  generalize hR : ofO (alongE p t) = R at *
  clear hR
  go_enter Tryz.func20, Tryz.ntmps20
  go_wp2_with fail
  refine HA.out.mono ?_
  rintro e w1 ⟨K, cap, rfl, hg1, hb1⟩
  have HC := Lib.hid (HG.out w1 _ hb1 hg1)
  have HB1 := Lib.hid hb1
  clear hg1 hb1 HG HA
  go_wp2_with fail
  refine HC.out.mono ?_
  intro e w2 h2
  cases R with
  | bad k =>
    obtain ⟨rfl, hb2⟩ := h2
    go_wp2_with fail
    go_ret2
    exact ⟨rfl, Below.after HB1.out hb2⟩
  | ok u =>
    obtain ⟨v', rfl, hv', hb2⟩ := h2
    have HV := Lib.hid hv'
    obtain ⟨A3, c3, rfl, -⟩ := hv'
    go_wp2_with fail
    go_ret2
    exact ⟨_, rfl, HV.out, Below.after HB1.out hb2⟩
set_option maxRecDepth 100000 in
set_option maxHeartbeats 2000000 in
theorem evDelete_any (pv v : Value) (p : List St) (t : Tr Nd) (w : World) (hp : Sps w pv p) (hps : ∀ s ∈ p, rightS s = true) (hv : Nds w v (flat t)) (ht : Val t) (hl : (flat t).length ≤ 60000) :
    Calls Tryz.prog 19 #[pv, v] w (OutV w (ofO (cutE p t))) := by
  have HA := Lib.hid (evWithout_any pv p w hp hps)
  have HG : Hid (∀ (W : World) (fv : Value), Below w.heap.size w W → Gives 60000 W fv (fun t => ofO (cutE p t)) → Calls Tryz.prog 47 #[fv, v] W (OutV W (ofO (cutE p t)))) := Lib.hid (fun W fv hW hF => evGiven_any 60000 t v fv _ W hF (hv.below hW) ht hl (by omega) (fun u hu => by
    cases hc : cutE p t with
    | none => rw [hc] at hu; cases hu
    | some y =>
      rw [hc] at hu; injection hu with hu; subst hu
      exact ⟨(cut_val ht hc).ok, by have := cut_len p hc; omega⟩) (fun k hk => by
    cases hc : cutE p t with
    | none => rw [hc] at hk; injection hk with hk; subst hk; decide
    | some y => rw [hc] at hk; cases hk))
  obtain ⟨A, c, rfl, -⟩ := hp
  obtain ⟨A2, c2, rfl, -⟩ := hv
  clear hps ht
  generalize hR : ofO (cutE p t) = R at *
  clear hR
  go_enter Tryz.func19, Tryz.ntmps19
  go_wp2_with fail
  refine HA.out.mono ?_
  rintro e w1 ⟨K, cap, rfl, hg1, hb1⟩
  have HC := Lib.hid (HG.out w1 _ hb1 hg1)
  have HB1 := Lib.hid hb1
  clear hg1 hb1 HG HA
  go_wp2_with fail
  refine HC.out.mono ?_
  intro e w2 h2
  cases R with
  | bad k =>
    obtain ⟨rfl, hb2⟩ := h2
    go_wp2_with fail
    go_ret2
    exact ⟨rfl, Below.after HB1.out hb2⟩
  | ok u =>
    obtain ⟨v', rfl, hv', hb2⟩ := h2
    have HV := Lib.hid hv'
    obtain ⟨A3, c3, rfl, -⟩ := hv'
    go_wp2_with fail
    go_ret2
    exact ⟨_, rfl, HV.out, Below.after HB1.out hb2⟩
end Go.Proofs.YtdgcdemihalefaaGreatDoor

/-
  What a filter of one field gives: the reader's take and filter; Eval.
-/
namespace Go.Proofs.YtdgcdemihalefaaGreatDoor
open Go.RowKit Go.Shelf Np Rw Vp Pw Fw Ev

/-- A reader that holds a row of one term. -/
structure Rdr (w : World) (rb : Nat) (t : Tm) : Prop where
  c : ∃ g o : Nat, g < w.heap.size ∧ w.cell? ⟨rb, 0, none⟩ = some (.slice (some ⟨g, o, none⟩) 1 1) ∧ Tm11 w g o t
  f : w.frozen? ⟨rb, 0, none⟩ = false
  l : rb < w.heap.size
set_option maxRecDepth 100000 in
set_option maxHeartbeats 2000000 in
theorem evTake_any (rb : Nat) (t : Tm) (w : World) (h : Rdr w rb t) :
    Calls Tryz.prog 105 #[.pointer (some ⟨rb, 0, none⟩)] w fun e w' => e = .returned (tma t) ∧ Below rb w w' := by
  obtain ⟨⟨g, o, hg, h0, ht⟩, hf, hl⟩ := h
  obtain ⟨y0, y1, y2, y3, y4, y5, y6, y7, y8, y9, y10⟩ := ht
  go_enter Tryz.func105, Tryz.ntmps105
  go_wp2_with fail
  refine bodyPost_ret (v := tma t) (by simp [results, Tryz.results105, go_sem]) rfl ?_
  exact ⟨rfl, (((Below.refl rb w).setCell (p := ⟨rb, 0, none⟩) (Nat.le_refl _) _).alloc (by simp; omega) _).alloc (by simp; omega) _⟩
set_option maxRecDepth 100000 in
set_option maxHeartbeats 2000000 in
theorem evFilter_field (rb : Nat) (t : Tm) (w : World) (h : Rdr w rb t) (h1 : t.op = 1) (hs : rightS ⟨false, t.s, 0⟩ = true) :
    Calls Tryz.prog 76 #[.pointer (some ⟨rb, 0, none⟩)] w fun e w' => ∃ K cap, e = .returned (.func (.func K) #[] cap) ∧ Gives 60000 w' (.func (.func K) #[] cap) (fun u => ofO (alongE [⟨false, t.s, 0⟩] u)) ∧ Below rb w w' := by
  have HTK := Lib.hid (evTake_any rb t w h)
  have hl := h.l
  have HAL : Hid (∀ (W : World) (B : Nat), B = W.heap.size → Calls Tryz.prog 49 #[.slice (some ⟨B, 0, none⟩) 1 1] (W.alloc (.cells #[.bool false, .string ⟨t.s.toArray⟩, .int .i64 0] 71)) fun e w' => ∃ K cap, e = .returned (.func (.func K) #[] cap) ∧ Gives 60000 w' (.func (.func K) #[] cap) (fun u => ofO (alongE [⟨false, t.s, 0⟩] u)) ∧ Below W.heap.size W w') := Lib.hid (fun W B hB => by
    subst hB
    have hp : Sps (W.alloc (.cells #[.bool false, .string ⟨t.s.toArray⟩, .int .i64 0] 71)) (.slice (some ⟨W.heap.size, 0, none⟩) 1 1) [⟨false, t.s, 0⟩] := Row.lit spc_len W 71 _ [⟨false, t.s, 0⟩] (by show 1 ≤ maxLen; decide) rfl
    refine (evAlong_any 60000 _ _ _ hp (fun s hs' => by simp at hs'; subst hs'; exact hs)).mono ?_
    rintro e w' ⟨K, cap, rfl, hg, hb⟩
    exact ⟨K, cap, rfl, hg, ((Below.refl _ W).alloc (Nat.le_refl _) _).trans (hb.mono (by simp))⟩)
  clear h hs
  obtain ⟨op, many, name, s, n, c⟩ := t
  simp only at *
  subst h1
  go_enter Tryz.func76, Tryz.ntmps76
  go_wp2_with fail
  refine HTK.out.mono ?_
  rintro e w1 ⟨rfl, hb1⟩
  have HB1 := Lib.hid hb1
  have hl1 : rb < w1.heap.size := Nat.lt_of_lt_of_le hl hb1.size
  clear hb1 HTK
  go_wp2_with fail
  refine (HAL.out _ _ (by simp)).mono ?_
  rintro e w2 ⟨K, cap, rfl, hg2, hb2⟩
  have HG := Lib.hid hg2
  have HB2 : Hid (Below rb w w2) := Lib.hid ((HB1.out.alloc (by omega) _).trans (hb2.mono (by simp; omega)))
  clear hg2 hb2
  go_wp2_with fail
  go_ret
  exact ⟨K, cap, rfl, HG.out, HB2.out⟩
set_option maxRecDepth 100000 in
set_option maxHeartbeats 2000000 in
theorem evEval_field (fv v : Value) (t : Tm) (u : Tr Nd) (w : World) (hf : ∃ g o : Nat, g < w.heap.size ∧ fv = .slice (some ⟨g, o, none⟩) 1 1 ∧ Tm11 w g o t) (h1 : t.op = 1) (hs : rightS ⟨false, t.s, 0⟩ = true) (hv : Nds w v (flat u)) (hu : Val u) (hl : (flat u).length ≤ 60000) :
    Calls Tryz.prog 45 #[fv, v] w (OutV w (ofO (alongE [⟨false, t.s, 0⟩] u))) := by
  obtain ⟨g, o, hg, rfl, ht⟩ := hf
  have HB0 : Hid (Below w.heap.size w (w.alloc (.cells #[.slice (some ⟨g, o, none⟩) 1 1] 117))) := Lib.hid ((Below.refl _ w).alloc (Nat.le_refl _) _)
  have HFI := Lib.hid (evFilter_field w.heap.size t (w.alloc (.cells #[.slice (some ⟨g, o, none⟩) 1 1] 117)) ⟨⟨g, o, by simp; omega, by simp [World.cell?_alloc_new], ht.below hg HB0.out⟩, by simp [World.frozen?_alloc_new], by simp⟩ h1 hs)
  have HG : Hid (∀ (W : World) (fv : Value), Below w.heap.size w W → Gives 60000 W fv (fun t' => ofO (alongE [⟨false, t.s, 0⟩] t')) → Calls Tryz.prog 47 #[fv, v] W (OutV W (ofO (alongE [⟨false, t.s, 0⟩] u)))) := Lib.hid (fun W fv hW hF => evGiven_any 60000 u v fv _ W hF (hv.below hW) hu hl (by omega) (fun y hy => by
    cases hc : alongE [⟨false, t.s, 0⟩] u with
    | none => rw [hc] at hy; cases hy
    | some z =>
      rw [hc] at hy; injection hy with hy; subst hy
      exact ⟨(along_val _ hu hc).ok, by have := along_len _ hc; omega⟩) (fun k hk => by
    cases hc : alongE [⟨false, t.s, 0⟩] u with
    | none => rw [hc] at hk; injection hk with hk; subst hk; decide
    | some z => rw [hc] at hk; cases hk))
  obtain ⟨A2, c2, rfl, -⟩ := hv
  clear hu ht hs
  generalize hR : ofO (alongE [⟨false, t.s, 0⟩] u) = R at *
  clear hR
  go_enter Tryz.func45, Tryz.ntmps45
  go_wp2_with fail
  refine HFI.out.mono ?_
  rintro e w1 ⟨K, cap, rfl, hg1, hb1⟩
  have hb1' : Below w.heap.size w w1 := HB0.out.trans hb1
  have HC := Lib.hid (HG.out w1 _ hb1' hg1)
  have HB1 := Lib.hid hb1'
  clear hg1 hb1 hb1' HG HFI
  go_wp2_with fail
  refine HC.out.mono ?_
  intro e w2 h2
  cases R with
  | bad k =>
    obtain ⟨rfl, hb2⟩ := h2
    go_wp2_with fail
    go_ret2
    exact ⟨rfl, Below.after HB1.out hb2⟩
  | ok y =>
    obtain ⟨v', rfl, hv', hb2⟩ := h2
    have HV := Lib.hid hv'
    obtain ⟨A3, c3, rfl, -⟩ := hv'
    go_wp2_with fail
    go_ret2
    exact ⟨_, rfl, HV.out, Below.after HB1.out hb2⟩
end Go.Proofs.YtdgcdemihalefaaGreatDoor
