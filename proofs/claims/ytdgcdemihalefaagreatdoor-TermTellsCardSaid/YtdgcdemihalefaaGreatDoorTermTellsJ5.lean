/-
  Joined: Kb, TxM, Tx2, Tx3, TxB, TxH, TxI, TxJ, FwL, PT5c, TxM2.
-/
import Derived.Test.YtdgcdemihalefaaGreatDoorBase
import Derived.Laws.Pointers
import Derived.Test.YtdgcdemihalefaaGreatDoorTermTellsJ3
import Derived.Test.YtdgcdemihalefaaGreatDoorMem
import Derived.Lib.FrozenHead
import Derived.Recover
import Derived.Test.YtdgcdemihalefaaGreatDoorTermTellsJ2
import Derived.Shelf.Strings.SlTrimAscii
import Derived.StillTailTactics
import Derived.Deep.RegionHeld3
import Derived.LoopN
import Derived.Test.YtdgcdemihalefaaGreatDoorTermTellsJ1
import Derived.Test.YtdgcdemihalefaaGreatDoorTermTellsJ4
import Derived.Test.YtdgcdemihalefaaGreatDoorNumW4
import Derived.OrdersHeld
import Derived.Test.YtdgcdemihalefaaGreatDoorTermTellsJ10
import Derived.Deep.RegionLaw
import Derived.Test.YtdgcdemihalefaaGreatDoorTermTellsJ7
namespace Go.Proofs.YtdgcdemihalefaaGreatDoor
open Go.RowKit
structure Kb (B rb : Nat) (w w' : World) : Prop where
  os : w'.os = w.os
  tape : w'.tape = w.tape
  output : w'.output = w.output
  size : w.heap.size ≤ w'.heap.size
  block : ∀ k, k < B → k ≠ rb → w'.heap[k]? = w.heap[k]?
theorem Kb.refl (B rb : Nat) (w : World) : Kb B rb w w := ⟨rfl, rfl, rfl, Nat.le_refl _, fun _ _ _ => rfl⟩
theorem Kb.trans {B rb : Nat} {a b c : World} (h : Kb B rb a b) (k : Kb B rb b c) : Kb B rb a c :=
  ⟨k.os.trans h.os, k.tape.trans h.tape, k.output.trans h.output, Nat.le_trans h.size k.size, fun i hi hr => (k.block i hi hr).trans (h.block i hi hr)⟩
theorem Kb.mono {B B' rb : Nat} {w w' : World} (h : Kb B rb w w') (hB : B' ≤ B) : Kb B' rb w w' := ⟨h.os, h.tape, h.output, h.size, fun k hk hr => h.block k (Nat.lt_of_lt_of_le hk hB) hr⟩
theorem Kb.after {rb : Nat} {a b c : World} (h : Kb a.heap.size rb a b) (k : Kb b.heap.size rb b c) : Kb a.heap.size rb a c := h.trans (k.mono h.size)
theorem Kb.of {B rb : Nat} {w w' : World} (h : Below B w w') : Kb B rb w w' := ⟨h.os, h.tape, h.output, h.size, fun k hk _ => h.block k hk⟩
theorem Kb.below {B C rb : Nat} {w w' : World} (h : Kb B rb w w') (h1 : C ≤ B) (h2 : C ≤ rb) : Below C w w' := ⟨h.os, h.tape, h.output, h.size, fun k hk => h.block k (by omega) (by omega)⟩
theorem Kb.drewN {B rb : Nat} {a w : World} (h : Kb B rb a w) (n : Nat) : Kb B rb a (w.drewN n) := ⟨h.os, h.tape, h.output, h.size, h.block⟩
theorem Kb.drew {B rb : Nat} {a w : World} (h : Kb B rb a w) : Kb B rb a w.drew := ⟨h.os, h.tape, h.output, h.size, h.block⟩
theorem Kb.set {B rb : Nat} {a w : World} (h : Kb B rb a w) (o : Nat) (u : Value) : Kb B rb a (w.setCell ⟨rb, o, none⟩ u) :=
  h.trans ⟨rfl, rfl, rfl, by simp [World.setCell], fun k _ hr => Below.heap_setCell _ _ _ _ hr⟩
theorem Kb.alloc {B rb : Nat} {a w : World} (h : Kb B rb a w) (hB : B ≤ w.heap.size) (o : Obj) : Kb B rb a (w.alloc o) :=
  h.trans ⟨rfl, rfl, rfl, by simp, fun k hk _ => Below.heap_alloc _ _ _ (by omega)⟩
theorem Kb.grown {B rb : Nat} {a w w' : World} {row : Option Nat} (h : Kb B rb a w) (hg : w.grownBy w' row) (hB : B ≤ w.heap.size) (hr : ∀ k, row = some k → B ≤ k) : Kb B rb a w' :=
  h.trans ⟨hg.os, hg.tape, hg.output, hg.size, fun k hk _ => hg.block k (by omega) (fun e => by have := hr k e.symm; omega)⟩
theorem Kb.cell {B rb : Nat} {w w' : World} (h : Kb B rb w w') {p : Addr} (hp : p.block < B) (hr : p.block ≠ rb) : w'.cell? p = w.cell? p := World.cell?_of_block (w := w) (h.block p.block hp hr)
theorem Kb.frozen {B rb : Nat} {w w' : World} (h : Kb B rb w w') {p : Addr} (hp : p.block < B) (hr : p.block ≠ rb) : w'.frozen? p = w.frozen? p := World.frozen?_of_block (w := w) (h.block p.block hp hr)
end Go.Proofs.YtdgcdemihalefaaGreatDoor
namespace Go.Proofs.YtdgcdemihalefaaGreatDoor
open Go.RowKit Np Up Qp Tp
section
variable {rb : Nat} {s : ByteArray} {i d : Nat} {w w' : World}
end
end Go.Proofs.YtdgcdemihalefaaGreatDoor
namespace Go.Proofs.YtdgcdemihalefaaGreatDoor
open Go.RowKit Np Up Qp Tp
end Go.Proofs.YtdgcdemihalefaaGreatDoor
namespace Go.Proofs.YtdgcdemihalefaaGreatDoor
open Go.RowKit Np Up Qp Tp
end Go.Proofs.YtdgcdemihalefaaGreatDoor
namespace Go.Proofs.YtdgcdemihalefaaGreatDoor
open Go.RowKit Np Up Qp Tp
def Wds (w : World) : Prop := w.cell? ⟨3, 0, none⟩ = some (.string ⟨wNull.toArray⟩) ∧ w.cell? ⟨3, 1, none⟩ = some (.string ⟨wFalse.toArray⟩) ∧ w.cell? ⟨3, 2, none⟩ = some (.string ⟨wTrue.toArray⟩)
theorem Wds.below {w w' : World} (h : Wds w) (hb : Below w.heap.size w w') : Wds w' := by
  have hlt := World.block_lt_of_cell? _ _ h.1
  exact ⟨(hb.cell (p := ⟨3, 0, none⟩) hlt).trans h.1, (hb.cell (p := ⟨3, 1, none⟩) hlt).trans h.2.1, (hb.cell (p := ⟨3, 2, none⟩) hlt).trans h.2.2⟩
end Go.Proofs.YtdgcdemihalefaaGreatDoor
namespace Go.Proofs.YtdgcdemihalefaaGreatDoor
open Go.RowKit Np Rw Vp Up Qp Tp
def NdB (b : Nat) (w : World) (v : Value) (l : List Nd) : Prop :=
  ∃ (A : Option Addr) (c : Nat), v = .slice A l.length c ∧ l.length ≤ c ∧ c ≤ maxLen ∧ (A = none → c = 0) ∧ (0 < l.length → ∃ g o : Nat, A = some ⟨g, o, none⟩ ∧ g < b ∧ ∀ k x, l[k]? = some x → CellsAt w g (o + k * 6) (ndc x))
theorem NdB.below {b : Nat} {w w' : World} {v : Value} {l : List Nd} (h : NdB b w v l) (hb : Below b w w') : NdB b w' v l := by
  obtain ⟨A, c, hv, hc, hm, hz, H⟩ := h
  refine ⟨A, c, hv, hc, hm, hz, fun h0 => ?_⟩
  obtain ⟨g, o, hA, hg, hx⟩ := H h0
  exact ⟨g, o, hA, hg, fun k x hk j u hu => (hb.cell (p := ⟨g, o + k * 6 + j, none⟩) hg).trans (hx k x hk j u hu)⟩
theorem NdB.of {b : Nat} {w : World} {v : Value} {l : List Nd} (h : Nds w v l) (hb : w.heap.size ≤ b) : NdB b w v l := by
  obtain ⟨A, c, hv, hc, hm, hz, H⟩ := h
  refine ⟨A, c, hv, hc, hm, hz, fun h0 => ?_⟩
  obtain ⟨g, o, hA, hg, hx⟩ := H h0
  exact ⟨g, o, hA, by omega, hx⟩
theorem NdB.nil (b : Nat) (w : World) : NdB b w (.slice none 0 0) [] := ⟨none, 0, rfl, Nat.le_refl _, Nat.zero_le _, fun _ => rfl, fun h => absurd h (by simp)⟩
theorem NdB.empty (b : Nat) (w : World) (ad : Addr) : NdB b w (.slice (some ad) 0 0) [] := ⟨some ad, 0, rfl, Nat.le_refl _, Nat.zero_le _, fun h => (by cases h), fun h => absurd h (by simp)⟩
theorem NdB.cons {b : Nat} {w : World} {v : Value} {x : Nd} {l : List Nd} (h : NdB b w v (x :: l)) : ∃ g o c : Nat, v = .slice (some ⟨g, o, none⟩) (l.length + 1) c ∧ l.length + 1 ≤ c ∧ c ≤ maxLen ∧ g < b ∧ Nd6 w g o x ∧ (c ≠ 1 → NdB b w (.slice (some ⟨g, o + 6, none⟩) l.length (c - 1)) l) ∧ (c = 1 → l = []) := by
  obtain ⟨A, c, rfl, hc, hm, -, H⟩ := h
  obtain ⟨g, o, rfl, hg, hx⟩ := H (by simp)
  simp only [List.length_cons] at hc ⊢
  refine ⟨g, o, c, rfl, hc, hm, hg, ?_, fun h1 => ?_, fun h1 => List.eq_nil_of_length_eq_zero (by omega)⟩
  · have := (hx 0 x rfl).nd
    simpa using this
  · refine ⟨_, c - 1, rfl, by omega, by omega, fun h => (by cases h), fun _ => ⟨g, o + 6, rfl, hg, fun k y hk => ?_⟩⟩
    have := hx (k + 1) y (by simpa using hk)
    rwa [show o + (k + 1) * 6 = o + 6 + k * 6 by omega] at this
theorem EmbV.other {b k o : Nat} {p : Value} {ln : Bool} {n : Int} {l : List UInt8} {w : World} (h : EmbV b p ln n l w) {cs : Array Value} {T : TypeId} {fz : Nat × Nat} (hk : w.heap[k]? = some (.cells cs T fz)) (hkb : k ≠ b) (hT : T ≠ 5) (u : Value) : EmbV b p ln n l (w.setCell ⟨k, o, none⟩ u) := by
  obtain ⟨v, hb, hown, hne⟩ := h
  have hv : v.ownBlock ≠ some k := Lib.ownBlock_neF hown hk hT
  refine ⟨v, (Below.heap_setCell w ⟨k, o, none⟩ u b (Ne.symm hkb)).trans hb, ?_, hne⟩
  exact hown.kept (row := some k) ⟨rfl, rfl, rfl, by simp [World.setCell], fun j _ hj => Below.heap_setCell _ _ _ _ (fun e => hj (by simp [e]))⟩ (Or.inr hv)
theorem Emb.other {b k o : Nat} {ln : Bool} {n : Int} {l : List UInt8} {w : World} (h : Emb b ln n l w) {cs : Array Value} {T : TypeId} {fz : Nat × Nat} (hk : w.heap[k]? = some (.cells cs T fz)) (hkb : k ≠ b) (hT : T ≠ 5) (u : Value) : Emb b ln n l (w.setCell ⟨k, o, none⟩ u) := h.elim (fun h => .inl (h.other hk hkb hT u)) (fun h => .inr (h.other hk hkb hT u))
theorem Pk.newer {b k o : Nat} {w w' : World} (h : Pk b w w') (hk : w.heap.size ≤ k) (hb : b ≤ k) (u : Value) : Pk b w (w'.setCell ⟨k, o, none⟩ u) :=
  ⟨h.1.setCell (p := ⟨k, o, none⟩) hb u, fun j ob hj hjb ho => (Below.heap_setCell w' ⟨k, o, none⟩ u j (by have := (Array.getElem?_eq_some_iff.1 hj).1; show j ≠ k; omega)).trans (h.2 j ob hj hjb ho)⟩
structure FitN (n : Nd) : Prop where
  k0 : 0 ≤ n.kind
  k6 : n.kind ≤ 6
  s : n.s.length ≤ 1000000
  nm : n.name.length ≤ 1000000
  e0 : -1000000 ≤ n.e
  e1 : n.e ≤ 1000000
def VlP (b : Nat) (ln : Bool) (d : Nat) (L : List UInt8) (r : List Nd) (T : List UInt8) (w : World) (e : Ending) (w' : World) : Prop :=
  ∃ v', e = .returned v' ∧ NdB b w' v' r ∧ Emb b ln d (L ++ T) w' ∧ Pk b w w'
structure En (w0 : World) (b : Nat) (w : World) : Prop where
  pow : PowTab w0
  wds : Wds w0
  lo : w0.heap.size ≤ b
  bl : Below w0.heap.size w0 w
theorem En.pk {w0 : World} {b : Nat} {w w' : World} (h : En w0 b w) (hk : Pk b w w') : En w0 b w' := ⟨h.pow, h.wds, h.lo, h.bl.trans (hk.1.mono h.lo)⟩
theorem En.wdsAt {w0 : World} {b : Nat} {w : World} (h : En w0 b w) : Wds w := h.wds.below h.bl
def PartsP (ln : Bool) (n : Nd) (ks : List (Tr Nd)) : Prop :=
  ∀ (b d : Nat) (L : List UInt8) (r : List Nd) (v : Value) (w0 w : World), En w0 b w → Emb b ln d L w → NdB b w v (flats ks ++ r) → d + (flats ks).length ≤ 999 → (L ++ prB ln d (decide (n.kind = 6)) ks).length ≤ 100000000 →
    Calls Tryz.prog 197 #[.pointer (some ⟨b, 0, none⟩), nda n, v] w (VlP b ln d L r (prB ln d (decide (n.kind = 6)) ks) w)
def ValueP (ln : Bool) (t : Tr Nd) : Prop :=
  ∀ (b d : Nat) (L : List UInt8) (r : List Nd) (v : Value) (w0 w : World), En w0 b w → Emb b ln d L w → NdB b w v (flat t ++ r) → d + (flat t).length ≤ 1000 → (L ++ prT ln d t).length ≤ 100000000 →
    Calls Tryz.prog 141 #[.pointer (some ⟨b, 0, none⟩), v] w (VlP b ln d L r (prT ln d t) w)
set_option maxRecDepth 100000 in
set_option maxHeartbeats 4000000 in
theorem prValue_of (ln : Bool) (n : Nd) (ks : List (Tr Nd)) (hF : FitN n) (hP : n.kind = 5 ∨ n.kind = 6 → PartsP ln n ks) (hk : n.kind ≠ 5 → n.kind ≠ 6 → ks = []) : ValueP ln (.mk n ks) := by
  intro b d L r v w0 w hen hem hnd hd hlen
  rw [flat_mk, List.cons_append] at hnd
  obtain ⟨g, o, c, rfl, hc1, hcm, hgb, hn6, htl, hone⟩ := hnd.cons
  obtain ⟨a0, a1, a2, a3, a4, a5⟩ := hn6
  have hbl := hem.lt
  have HEN := Lib.hid hen
  have HEM := Lib.hid hem
  have HTL := Lib.hid htl
  have HONE := Lib.hid hone
  have HHP := Lib.hid hP
  have HHK := Lib.hid hk
  obtain ⟨k0, k6, hs, hnm, he0, he1⟩ := hF
  have HLN : Hid ((flats ks ++ r).length = (flats ks ++ r).length) := Lib.hid rfl
  generalize hl : (flats ks ++ r).length = N at *
  have HN := Lib.hid hl
  obtain ⟨nk, nmany, nname, ns, nneg, ne⟩ := n
  simp only at a0 a1 a2 a3 a4 a5 k0 k6 hs hnm he0 he1
  clear hen hem hnd htl hone hP hk hl
  have hglt : g < w.heap.size := by omega
  have hgne : ¬ g = w.heap.size := by omega
  obtain ⟨X, hX, HXN⟩ : ∃ X : Value, X = (if c = 1 then .slice (some ⟨g, o, none⟩) 0 0 else .slice (some ⟨g, o + 6, none⟩) N (c - 1)) ∧ Hid (NdB b w X (flats ks ++ r)) := by
    refine ⟨_, rfl, Lib.hid ?_⟩
    split
    · rename_i h; rw [HONE.out h]; exact NdB.empty b w _
    · rename_i h
      exact HTL.out h
  have HXX := Lib.hid hX
  clear HTL HONE
  go_enter Tryz.func141, Tryz.ntmps141
  go_upto_region 3 with fail
  go_cut [5, 6] from 10 to 14 (fun p x wx => p = .pointer (some ⟨w.heap.size, 0, none⟩) ∧ x = X ∧ Below w.heap.size w wx ∧ wx.heap[w.heap.size]? = some (.cells #[.int .i64 nk, .int .i64 nmany, .string ⟨nname.toArray⟩, .string ⟨ns.toArray⟩, .bool nneg, .int .i64 ne] 43 (0, 0)))
  case first =>
    by_cases hc : c = 1
    · subst hc
      have hN0 : N = 0 := by omega
      subst hN0
      rw [if_pos rfl] at hX
      subst hX
      go_region
      all_goals go_wp2_with fail
      all_goals go_meet
      all_goals exact ⟨rfl, rfl, ((Below.refl _ w).alloc (Nat.le_refl _) _).drew, heap_alloc_new w _⟩
    · rw [if_neg hc] at hX
      subst hX
      have z1 : (0 : Int) ≤ (N : Int) := by omega
      have z2 : (1 : Int) ≤ (N : Int) + 1 := by omega
      have z3 : 1 ≤ c := by omega
      have z4 : ¬ (1 = c) := by omega
      go_region
      all_goals go_wp2_with fail
      all_goals go_meet
      all_goals exact ⟨rfl, rfl, ((Below.refl _ w).alloc (Nat.le_refl _) _).drew, heap_alloc_new w _⟩
  case rest =>
    obtain ⟨rfl, he, hb1, hz1⟩ := hcut
    replace he := he.symm
    subst he
    have HB1 := Lib.hid hb1
    have HK1 : Hid (Pk b w wc) := Lib.hid (Pk.of hb1 (Nat.le_of_lt hbl))
    have HEM1 := Lib.hid (HEM.out.below hb1)
    have HEN1 := Lib.hid (HEN.out.pk HK1.out)
    have HX1 := Lib.hid (HXN.out.below (hb1.mono (Nat.le_of_lt hbl)))
    have HZ1 := Lib.hid hz1
    have p0 : wc.cell? ⟨w.heap.size, 0, none⟩ = some (.int .i64 nk) := by rw [Lib.cell_of_heap hz1]; rfl
    have p1 : wc.cell? ⟨w.heap.size, 1, none⟩ = some (.int .i64 nmany) := by rw [Lib.cell_of_heap hz1]; rfl
    have p2 : wc.cell? ⟨w.heap.size, 2, none⟩ = some (.string ⟨nname.toArray⟩) := by rw [Lib.cell_of_heap hz1]; rfl
    have p3 : wc.cell? ⟨w.heap.size, 3, none⟩ = some (.string ⟨ns.toArray⟩) := by rw [Lib.cell_of_heap hz1]; rfl
    have p4 : wc.cell? ⟨w.heap.size, 4, none⟩ = some (.bool nneg) := by rw [Lib.cell_of_heap hz1]; rfl
    have p5 : wc.cell? ⟨w.heap.size, 5, none⟩ = some (.int .i64 ne) := by rw [Lib.cell_of_heap hz1]; rfl
    have pf : ∀ i, wc.frozen? ⟨w.heap.size, i, none⟩ = false := fun i => Lib.frozen_of_heap hz1 i
    have plt : w.heap.size < wc.heap.size := (Array.getElem?_eq_some_iff.1 hz1).1
    have hnb : b < w.heap.size := hbl
    clear hb1 hz1 hX HXX a0 a1 a2 a3 a4 a5 HN HEM HEN HXN hglt hgne hgb hc1
    generalize hnbn : w.heap.size = nb at *
    have HNB := Lib.hid hnbn
    clear hnbn
    by_cases hw : nk = 0 ∨ nk = 1 ∨ nk = 2
    · have hks : ks = [] := HHK.out (by show nk ≠ 5; omega) (by show nk ≠ 6; omega)
      have hT : prT ln d (.mk ⟨nk, nmany, nname, ns, nneg, ne⟩ ks) = wordT nk := by
        rw [prT_mk, if_neg (by show ¬ nk = 5; omega), if_neg (by show ¬ nk = 6; omega)]
        unfold scT; rw [if_pos hw]
      have HTT := Lib.hid hT
      have hww := HEN1.out.wdsAt
      obtain ⟨w0c, w1c, w2c⟩ := hww
      have HS := Lib.hid (fun W h => embString b ln d L ⟨(wordT nk).toArray⟩ W h (by
        rw [mk_size]; rw [hT, List.length_append] at hlen; omega))
      subst hks
      clear hT HHP HHK hlen
      rcases hw with rfl | rfl | rfl
      · simp only [wNull, wFalse, wTrue] at w0c w1c w2c
        have HS2 : Hid (∀ W, Emb b ln d L W → Calls Tryz.prog 63 #[.pointer (some ⟨b, 0, none⟩), .string ⟨#[110, 117, 108, 108]⟩] W fun e w' => e = .returned (.tuple #[.int .i64 4, .nilIface]) ∧ Emb b ln d (L ++ wordT 0) w' ∧ Pk b W w') := Lib.hid (fun W h => HS.out W h)
        go_upto_region 8 with fail
        go_region_with (go_at_call 63; refine (HS2.out wc.drew HEM1.out.drew).mono ?_; rintro e w2 ⟨rfl, h2, hk2⟩)
        all_goals go_wp2_with fail
        all_goals go_ret
        all_goals exact ⟨_, rfl, HX1.out.below ((Below.refl b wc).drew.trans hk2.1), by rw [HTT.out]; exact h2, HK1.out.trans (((Pk.refl b wc).drew).trans hk2)⟩
      · simp only [wNull, wFalse, wTrue] at w0c w1c w2c
        have HS2 : Hid (∀ W, Emb b ln d L W → Calls Tryz.prog 63 #[.pointer (some ⟨b, 0, none⟩), .string ⟨#[102, 97, 108, 115, 101]⟩] W fun e w' => e = .returned (.tuple #[.int .i64 5, .nilIface]) ∧ Emb b ln d (L ++ wordT 1) w' ∧ Pk b W w') := Lib.hid (fun W h => HS.out W h)
        go_upto_region 8 with fail
        go_region_with (go_at_call 63; refine (HS2.out wc.drew HEM1.out.drew).mono ?_; rintro e w2 ⟨rfl, h2, hk2⟩)
        all_goals go_wp2_with fail
        all_goals go_ret
        all_goals exact ⟨_, rfl, HX1.out.below ((Below.refl b wc).drew.trans hk2.1), by rw [HTT.out]; exact h2, HK1.out.trans (((Pk.refl b wc).drew).trans hk2)⟩
      · simp only [wNull, wFalse, wTrue] at w0c w1c w2c
        have HS2 : Hid (∀ W, Emb b ln d L W → Calls Tryz.prog 63 #[.pointer (some ⟨b, 0, none⟩), .string ⟨#[116, 114, 117, 101]⟩] W fun e w' => e = .returned (.tuple #[.int .i64 4, .nilIface]) ∧ Emb b ln d (L ++ wordT 2) w' ∧ Pk b W w') := Lib.hid (fun W h => HS.out W h)
        go_upto_region 8 with fail
        go_region_with (go_at_call 63; refine (HS2.out wc.drew HEM1.out.drew).mono ?_; rintro e w2 ⟨rfl, h2, hk2⟩)
        all_goals go_wp2_with fail
        all_goals go_ret
        all_goals exact ⟨_, rfl, HX1.out.below ((Below.refl b wc).drew.trans hk2.1), by rw [HTT.out]; exact h2, HK1.out.trans (((Pk.refl b wc).drew).trans hk2)⟩
    · by_cases h3 : nk = 3
      · subst h3
        have hks : ks = [] := HHK.out (by show (3 : Int) ≠ 5; decide) (by show (3 : Int) ≠ 6; decide)
        have hT : prT ln d (.mk ⟨3, nmany, nname, ns, nneg, ne⟩ ks) = printN ns nneg ne := by
          rw [prT_mk, if_neg (by show ¬ (3 : Int) = 5; decide), if_neg (by show ¬ (3 : Int) = 6; decide)]; rfl
        have HTT := Lib.hid hT
        have HS : Hid (∀ W, Emb b ln d L W → Calls Tryz.prog 63 #[.pointer (some ⟨b, 0, none⟩), .string ⟨(printN ns nneg ne).toArray⟩] W fun e w' => e = .returned (.tuple #[.int .i64 (ByteArray.mk (printN ns nneg ne).toArray).size, .nilIface]) ∧ Emb b ln d (L ++ printN ns nneg ne) w' ∧ Pk b W w') := Lib.hid (fun W h => embString b ln d L ⟨(printN ns nneg ne).toArray⟩ W h (by
          rw [mk_size]; rw [hT, List.length_append] at hlen; omega))
        have HPR : Hid (∀ W, PowTab W → Calls Tryz.prog 195 #[.agg #[.int .i64 3, .int .i64 nmany, .string ⟨#[]⟩, .string ⟨ns.toArray⟩, .bool nneg, .int .i64 ne]] W fun e w' => e = .returned (.string ⟨(printN ns nneg ne).toArray⟩) ∧ Below W.heap.size W w') := Lib.hid (fun W h => print_any 3 nmany ⟨#[]⟩ ⟨ns.toArray⟩ nneg ne W h (by rw [mk_size]; omega) he0 he1)
        have hlo := HEN1.out.lo
        have HPW : Hid (PowTab (wc.setCell ⟨nb, 2, none⟩ (.string ⟨#[]⟩)).drew) := Lib.hid (HEN1.out.pow.below (HEN1.out.bl.setCell (p := ⟨nb, 2, none⟩) (by show w0.heap.size ≤ nb; omega) _).drew)
        have HEM2 : Hid (Emb b ln d L (wc.setCell ⟨nb, 2, none⟩ (.string ⟨#[]⟩))) := Lib.hid (HEM1.out.other HZ1.out (by omega) (by decide) _)
        have HK2 : Hid (Pk b w (wc.setCell ⟨nb, 2, none⟩ (.string ⟨#[]⟩))) := Lib.hid (HK1.out.newer (by rw [HNB.out]; exact Nat.le_refl _) (by omega) _)
        have HX2 : Hid (NdB b (wc.setCell ⟨nb, 2, none⟩ (.string ⟨#[]⟩)) X (flats ks ++ r)) := Lib.hid (HX1.out.below ((Below.refl b wc).setCell (p := ⟨nb, 2, none⟩) (by show b ≤ nb; omega) _))
        have hsz : (wc.setCell ⟨nb, 2, none⟩ (.string ⟨#[]⟩)).heap.size = wc.heap.size := by simp [World.setCell]
        have hbw : b ≤ wc.heap.size := by omega
        subst hks
        clear hT HHP HHK hlen HX1 HK1 HEM1 HEN1
        generalize printN ns nneg ne = T at *
        go_upto_region 11 with fail
        go_region_with (first
          | (go_at_call 195; refine (HPR.out _ HPW.out).mono ?_; rintro e w2 ⟨rfl, hb2⟩; have HB2 := Lib.hid hb2; clear hb2)
          | (go_at_call 63; refine (HS.out w2 (HEM2.out.drew.below HB2.out)).mono ?_; rintro e w3 ⟨rfl, h3, hk3⟩))
        all_goals go_wp2_with fail
        all_goals go_ret
        all_goals exact ⟨_, rfl, HX2.out.below (((Below.refl b _).drew.trans (HB2.out.mono (by show b ≤ _; rw [show ∀ W : World, W.drew.heap.size = W.heap.size from fun _ => rfl, hsz]; exact hbw))).trans hk3.1), by rw [HTT.out]; exact h3, (HK2.out.drew.trans (Pk.of HB2.out (by rw [show ∀ W : World, W.drew.heap.size = W.heap.size from fun _ => rfl, hsz]; exact hbw))).trans hk3⟩
      by_cases h4 : nk = 4
      · subst h4
        have hks : ks = [] := HHK.out (by show (4 : Int) ≠ 5; decide) (by show (4 : Int) ≠ 6; decide)
        have hT : prT ln d (.mk ⟨4, nmany, nname, ns, nneg, ne⟩ ks) = quo ns := by
          rw [prT_mk, if_neg (by show ¬ (4 : Int) = 5; decide), if_neg (by show ¬ (4 : Int) = 6; decide)]; rfl
        have HTT := Lib.hid hT
        have HS : Hid (∀ W, Emb b ln d L W → Calls Tryz.prog 63 #[.pointer (some ⟨b, 0, none⟩), .string ⟨(quo ns).toArray⟩] W fun e w' => e = .returned (.tuple #[.int .i64 (ByteArray.mk (quo ns).toArray).size, .nilIface]) ∧ Emb b ln d (L ++ quo ns) w' ∧ Pk b W w') := Lib.hid (fun W h => embString b ln d L ⟨(quo ns).toArray⟩ W h (by
          rw [mk_size]; rw [hT, List.length_append] at hlen; omega))
        have HQ : Hid (∀ W, Calls Tryz.prog 196 #[.string ⟨ns.toArray⟩] W fun e w' => e = .returned (.string ⟨(quo ns).toArray⟩) ∧ Below W.heap.size W w') := Lib.hid (fun W => quote_any ⟨ns.toArray⟩ W (by rw [mk_size]; omega))
        have hbw : b ≤ wc.heap.size := by omega
        subst hks
        clear hT HHP HHK hlen HEN1
        generalize quo ns = T at *
        go_upto_region 13 with fail
        go_region_with (first
          | (go_at_call 196; refine (HQ.out _).mono ?_; rintro e w2 ⟨rfl, hb2⟩; have HB2 := Lib.hid hb2; clear hb2)
          | (go_at_call 63; refine (HS.out w2 (HEM1.out.drew.below HB2.out)).mono ?_; rintro e w3 ⟨rfl, h3, hk3⟩))
        all_goals go_wp2_with fail
        all_goals go_ret
        all_goals exact ⟨_, rfl, HX1.out.below (((Below.refl b _).drew.trans (HB2.out.mono hbw)).trans hk3.1), by rw [HTT.out]; exact h3, (HK1.out.drew.trans (Pk.of HB2.out hbw)).trans hk3⟩
      have hks : nk = 5 ∨ nk = 6 := by omega
      clear hw
      rcases hks with rfl | rfl
      · have hT : prT ln d (.mk ⟨5, nmany, nname, ns, nneg, ne⟩ ks) = 91 :: (prB ln d false ks ++ [93]) := by rw [prT_mk, if_pos (show (5 : Int) = 5 from rfl)]
        have hTE : L ++ prT ln d (.mk ⟨5, nmany, nname, ns, nneg, ne⟩ ks) = L ++ [91] ++ prB ln d false ks ++ [93] := by rw [hT]; simp
        have HTE := Lib.hid hTE
        rw [hTE] at hlen
        have hl1 : (L ++ [91] ++ prB ln d false ks).length ≤ 100000000 := by rw [List.length_append] at hlen; omega
        have hl2 : L.length ≤ 100000000 := by rw [List.length_append, List.length_append] at hl1; omega
        have HW1 := Lib.hid (embByte b ln d L 91 wc HEM1.out (by omega))
        have HW3 := Lib.hid (fun W h => embByte b ln d (L ++ [91] ++ prB ln d false ks) 93 W h (by omega))
        have HPT : Hid (∀ W, En w0 b W → Emb b ln d (L ++ [91]) W → NdB b W X (flats ks ++ r) → Calls Tryz.prog 197 #[.pointer (some ⟨b, 0, none⟩), .agg #[.int .i64 5, .int .i64 nmany, .string ⟨nname.toArray⟩, .string ⟨ns.toArray⟩, .bool nneg, .int .i64 ne], X] W (VlP b ln d (L ++ [91]) r (prB ln d false ks) W)) := Lib.hid (fun W h1 h2 h3 =>
          HHP.out (.inl rfl) b d (L ++ [91]) r X w0 W h1 h2 h3 (by rw [flat_mk, List.length_cons] at hd; omega) hl1)
        clear hT hTE hlen hl1 hl2 HHP HHK p0 p1 p2 p3 p4 p5 pf
        have q0 : wc.cell? ⟨nb, 0, none⟩ = some (.int .i64 5) := by rw [Lib.cell_of_heap HZ1.out]; rfl
        go_wp2_with (first
          | (go_at_call_of 100 (91 : Int); refine HW1.out.mono ?_; rintro e w1 ⟨rfl, h1, hk1⟩; have zz := hk1.other HZ1.out (by omega) (by decide); have y0 : w1.cell? ⟨nb, 0, none⟩ = some (.int .i64 5) := (by rw [Lib.cell_of_heap zz]; rfl); have y1 : w1.cell? ⟨nb, 1, none⟩ = some (.int .i64 nmany) := (by rw [Lib.cell_of_heap zz]; rfl); have y2 : w1.cell? ⟨nb, 2, none⟩ = some (.string ⟨nname.toArray⟩) := (by rw [Lib.cell_of_heap zz]; rfl); have y3 : w1.cell? ⟨nb, 3, none⟩ = some (.string ⟨ns.toArray⟩) := (by rw [Lib.cell_of_heap zz]; rfl); have y4 : w1.cell? ⟨nb, 4, none⟩ = some (.bool nneg) := (by rw [Lib.cell_of_heap zz]; rfl); have y5 : w1.cell? ⟨nb, 5, none⟩ = some (.int .i64 ne) := (by rw [Lib.cell_of_heap zz]; rfl); have HE2 := Lib.hid h1; have HK2 := Lib.hid hk1; clear h1 hk1 zz)
          | (go_at_call 197; refine (HPT.out _ (HEN1.out.pk HK2.out) HE2.out (HX1.out.below HK2.out.1)).mono ?_; rintro e w2 ⟨v', rfl, hx2, h2, hk2⟩; have HX3 := Lib.hid hx2; have HE3 := Lib.hid h2; have HK3 := Lib.hid hk2; clear hx2 h2 hk2)
          | (go_at_call_of 100 (93 : Int); refine (HW3.out _ HE3.out).mono ?_; rintro e w3 ⟨rfl, h3, hk3⟩))
        go_ret
        exact ⟨_, rfl, HX3.out.below hk3.1, by rw [HTE.out]; exact h3, (HK1.out.trans (HK2.out.trans HK3.out)).trans hk3⟩
      · have hT : prT ln d (.mk ⟨6, nmany, nname, ns, nneg, ne⟩ ks) = 123 :: (prB ln d true ks ++ [125]) := by rw [prT_mk, if_neg (show ¬ (6 : Int) = 5 by decide), if_pos (show (6 : Int) = 6 from rfl)]
        have hTE : L ++ prT ln d (.mk ⟨6, nmany, nname, ns, nneg, ne⟩ ks) = L ++ [123] ++ prB ln d true ks ++ [125] := by rw [hT]; simp
        have HTE := Lib.hid hTE
        rw [hTE] at hlen
        have hl1 : (L ++ [123] ++ prB ln d true ks).length ≤ 100000000 := by rw [List.length_append] at hlen; omega
        have hl2 : L.length ≤ 100000000 := by rw [List.length_append, List.length_append] at hl1; omega
        have HW1 := Lib.hid (embByte b ln d L 123 wc HEM1.out (by omega))
        have HW3 := Lib.hid (fun W h => embByte b ln d (L ++ [123] ++ prB ln d true ks) 125 W h (by omega))
        have HPT : Hid (∀ W, En w0 b W → Emb b ln d (L ++ [123]) W → NdB b W X (flats ks ++ r) → Calls Tryz.prog 197 #[.pointer (some ⟨b, 0, none⟩), .agg #[.int .i64 6, .int .i64 nmany, .string ⟨nname.toArray⟩, .string ⟨ns.toArray⟩, .bool nneg, .int .i64 ne], X] W (VlP b ln d (L ++ [123]) r (prB ln d true ks) W)) := Lib.hid (fun W h1 h2 h3 =>
          HHP.out (.inr rfl) b d (L ++ [123]) r X w0 W h1 h2 h3 (by rw [flat_mk, List.length_cons] at hd; omega) hl1)
        clear hT hTE hlen hl1 hl2 HHP HHK p0 p1 p2 p3 p4 p5 pf
        have q0 : wc.cell? ⟨nb, 0, none⟩ = some (.int .i64 6) := by rw [Lib.cell_of_heap HZ1.out]; rfl
        go_wp2_with (first
          | (go_at_call_of 100 (123 : Int); refine HW1.out.mono ?_; rintro e w1 ⟨rfl, h1, hk1⟩; have zz := hk1.other HZ1.out (by omega) (by decide); have y0 : w1.cell? ⟨nb, 0, none⟩ = some (.int .i64 6) := (by rw [Lib.cell_of_heap zz]; rfl); have y1 : w1.cell? ⟨nb, 1, none⟩ = some (.int .i64 nmany) := (by rw [Lib.cell_of_heap zz]; rfl); have y2 : w1.cell? ⟨nb, 2, none⟩ = some (.string ⟨nname.toArray⟩) := (by rw [Lib.cell_of_heap zz]; rfl); have y3 : w1.cell? ⟨nb, 3, none⟩ = some (.string ⟨ns.toArray⟩) := (by rw [Lib.cell_of_heap zz]; rfl); have y4 : w1.cell? ⟨nb, 4, none⟩ = some (.bool nneg) := (by rw [Lib.cell_of_heap zz]; rfl); have y5 : w1.cell? ⟨nb, 5, none⟩ = some (.int .i64 ne) := (by rw [Lib.cell_of_heap zz]; rfl); have HE2 := Lib.hid h1; have HK2 := Lib.hid hk1; clear h1 hk1 zz)
          | (go_at_call 197; refine (HPT.out _ (HEN1.out.pk HK2.out) HE2.out (HX1.out.below HK2.out.1)).mono ?_; rintro e w2 ⟨v', rfl, hx2, h2, hk2⟩; have HX3 := Lib.hid hx2; have HE3 := Lib.hid h2; have HK3 := Lib.hid hk2; clear hx2 h2 hk2)
          | (go_at_call_of 100 (125 : Int); refine (HW3.out _ HE3.out).mono ?_; rintro e w3 ⟨rfl, h3, hk3⟩))
        go_ret
        exact ⟨_, rfl, HX3.out.below hk3.1, by rw [HTE.out]; exact h3, (HK1.out.trans (HK2.out.trans HK3.out)).trans hk3⟩
end Go.Proofs.YtdgcdemihalefaaGreatDoor
namespace Go.Proofs.YtdgcdemihalefaaGreatDoor
open Go.RowKit Np Rw Vp Up Qp Tp
def At (ln : Bool) (d : Nat) (ob : Bool) (ks pre post : List (Tr Nd)) (L L' : List UInt8) : Prop := pre = [] ∧ L' = L ∨ pre ≠ [] ∧ L' ++ prK ln d ob post = L ++ prB ln d ob ks
theorem At.next {ln : Bool} {d : Nat} {ob : Bool} {ks pre ts : List (Tr Nd)} {t : Tr Nd} {L L' : List UInt8} (h : At ln d ob ks pre (t :: ts) L L') (hk : ks = pre ++ t :: ts) :
    (L' ++ (if pre = [] then [] else [44]) ++ prL ln (d + 1) ++ (if ob = true then prN ln t.nd.name else []) ++ prT ln (d + 1) t) ++ prK ln d ob ts = L ++ prB ln d ob ks := by
  rcases h with ⟨rfl, rfl⟩ | ⟨h1, h2⟩
  · rw [hk, List.nil_append, prB_cons]; simp
  · rw [if_neg h1, ← h2, prK_cons]; simp
theorem prN_len (ln : Bool) (nm : List UInt8) : (prN ln nm).length = (quo nm).length + (if ln = true then 2 else 1) := by unfold prN; cases ln <;> simp
set_option maxRecDepth 100000 in
set_option maxHeartbeats 8000000 in
theorem prParts_of (ln : Bool) (n : Nd) (ks : List (Tr Nd)) (hm : n.many = ks.length) (h56 : n.kind = 5 ∨ n.kind = 6) (hV : ∀ t ∈ ks, ValueP ln t) (hN : ∀ t ∈ ks, t.nd.name.length ≤ 1000000) : PartsP ln n ks := by
  intro b d L r v w0 w hen hem hnd hd hlen
  obtain ⟨nk, nmany, nname, ns, nneg, ne⟩ := n
  simp only at hm h56 hlen
  subst hm
  have hbl := hem.lt
  have HEN := Lib.hid hen
  have HEM := Lib.hid hem
  have HND := Lib.hid hnd
  have HV := Lib.hid hV
  have HNM := Lib.hid hN
  cases hks : ks with
  | nil =>
    subst hks
    clear hV hN hen hem
    go_enter Tryz.func197, Tryz.ntmps197
    go_wp2_with fail
    go_ret
    have hb1 : Below w.heap.size w (w.alloc (.cells #[.int .i64 nk, .int .i64 ((0 : Nat) : Int), .string ⟨nname.toArray⟩, .string ⟨ns.toArray⟩, .bool nneg, .int .i64 ne] 43)) := (Below.refl _ _).alloc (Nat.le_refl _) _
    exact ⟨_, rfl, HND.out.below (hb1.mono (Nat.le_of_lt hbl)), by rw [prB_nil, List.append_nil]; exact HEM.out.below hb1, Pk.of hb1 (Nat.le_of_lt hbl)⟩
  | cons t0 ts0 =>
    rw [← hks]
    have hne : ks ≠ [] := by rw [hks]; simp
    have hpos : 0 < ks.length := List.length_pos_iff.2 hne
    clear hks
    have c3 := hem.c3
    have f3 := hem.fz 3
    have hbne : ¬ b = w.heap.size := by omega
    have hsz : (w.setCell ⟨b, 3, none⟩ (.int .i64 ((d : Int) + 1))).heap.size = w.heap.size := by simp [World.setCell]
    have HEM2 : Hid (Emb b ln ((d + 1 : Nat) : Int) L ((w.setCell ⟨b, 3, none⟩ (.int .i64 ((d : Int) + 1))).alloc (.cells #[.int .i64 nk, .int .i64 ((ks.length : Nat) : Int), .string ⟨nname.toArray⟩, .string ⟨ns.toArray⟩, .bool nneg, .int .i64 ne] 43))) := Lib.hid ((hem.deep ((d + 1 : Nat) : Int)).alloc _)
    have HK2 : Hid (Pk b w ((w.setCell ⟨b, 3, none⟩ (.int .i64 ((d : Int) + 1))).alloc (.cells #[.int .i64 nk, .int .i64 ((ks.length : Nat) : Int), .string ⟨nname.toArray⟩, .string ⟨ns.toArray⟩, .bool nneg, .int .i64 ne] 43))) := Lib.hid (((Pk.refl b w).setCell 3 _).alloc (by rw [hsz]; exact Nat.le_of_lt hbl) _)
    have HZ2 : Hid (((w.setCell ⟨b, 3, none⟩ (.int .i64 ((d : Int) + 1))).alloc (.cells #[.int .i64 nk, .int .i64 ((ks.length : Nat) : Int), .string ⟨nname.toArray⟩, .string ⟨ns.toArray⟩, .bool nneg, .int .i64 ne] 43)).heap[w.heap.size]? = some (.cells #[.int .i64 nk, .int .i64 ((ks.length : Nat) : Int), .string ⟨nname.toArray⟩, .string ⟨ns.toArray⟩, .bool nneg, .int .i64 ne] 43 (0, 0))) := Lib.hid (by
      have := heap_alloc_new (w.setCell ⟨b, 3, none⟩ (.int .i64 ((d : Int) + 1))) (.cells #[.int .i64 nk, .int .i64 ((ks.length : Nat) : Int), .string ⟨nname.toArray⟩, .string ⟨ns.toArray⟩, .bool nneg, .int .i64 ne] 43)
      rwa [hsz] at this)
    have HND2 := Lib.hid (HND.out.below HK2.out.1)
    have HLEN := Lib.hid hlen
    generalize hM : ks.length = M at *
    have HM := Lib.hid hM
    have hM0 : ¬ M = 0 := by omega
    have hM9 : M ≤ 999 := by have := flats_len ks; omega
    obtain ⟨A0, N0, cc0, rfl⟩ : ∃ (A : Option Addr) (N c : Nat), v = .slice A N c := by obtain ⟨A, c, h, -⟩ := hnd; exact ⟨A, _, c, h⟩
    clear hem hnd hen hV hN hlen hM hsz
    go_enter Tryz.func197, Tryz.ntmps197
    go_wp2_with fail
    generalize (w.setCell ⟨b, 3, none⟩ (.int .i64 ((d : Int) + 1))).alloc (.cells #[.int .i64 nk, .int .i64 ((M : Nat) : Int), .string ⟨nname.toArray⟩, .string ⟨ns.toArray⟩, .bool nneg, .int .i64 ne] 43) = W2 at HEM2 HK2 HZ2 HND2 ⊢
    go_loopw [2, 7] (fun vv iv wr => ∃ (pre post : List (Tr Nd)) (L' : List UInt8), ks = pre ++ post ∧ iv = .int .i64 (pre.length : Nat) ∧ Hid (NdB b wr vv (flats post ++ r)) ∧ Hid (Emb b ln ((d + 1 : Nat) : Int) L' wr) ∧ Hid (Pk b w wr) ∧ Hid (wr.heap[w.heap.size]? = some (.cells #[.int .i64 nk, .int .i64 (M : Nat), .string ⟨nname.toArray⟩, .string ⟨ns.toArray⟩, .bool nneg, .int .i64 ne] 43 (0, 0))) ∧ Hid (At ln d (decide (nk = 6)) ks pre post L L')) (fun _ iv _ => M - (intOf iv).toNat)
    case atStart => exact ⟨[], ks, L, rfl, rfl, HND2, HEM2, HK2, HZ2, Lib.hid (.inl ⟨rfl, rfl⟩)⟩
    case round =>
      obtain ⟨pre, post, L', hpp, rfl, HN3, HE3, HK3, HZ3, HA3⟩ := hrel
      have p0 : wr.cell? ⟨w.heap.size, 0, none⟩ = some (.int .i64 nk) := by rw [Lib.cell_of_heap HZ3.out]; rfl
      have p1 : wr.cell? ⟨w.heap.size, 1, none⟩ = some (.int .i64 (M : Nat)) := by rw [Lib.cell_of_heap HZ3.out]; rfl
      have hlen : pre.length + post.length = M := by rw [← HM.out, hpp]; simp
      have HPP := Lib.hid hpp
      clear hpp
      cases post with
      | nil =>
        have e3 := HE3.out.c3
        have g3 := HE3.out.fz 3
        have hpm : pre.length = M := by simpa using hlen
        have HT : Hid (L' ++ prL ln d = L ++ prB ln d (decide (nk = 6)) ks) := Lib.hid (by
          rcases HA3.out with ⟨h, -⟩ | ⟨-, h⟩
          · subst h; simp at hpm; omega
          · rw [← h, prK_nil])
        have HE4 : Hid (Emb b ln (d : Int) L' (wr.setCell ⟨b, 3, none⟩ (.int .i64 d))) := Lib.hid (HE3.out.deep (d : Int))
        have HK4 : Hid (Pk b w (wr.setCell ⟨b, 3, none⟩ (.int .i64 d))) := Lib.hid (HK3.out.setCell 3 _)
        have HN4 : Hid (NdB b (wr.setCell ⟨b, 3, none⟩ (.int .i64 d)) u2 r) := Lib.hid (by have := HN3.out; rw [flats_nil, List.nil_append] at this; exact this.below ((Below.refl b wr).setCell (p := ⟨b, 3, none⟩) (Nat.le_refl _) _))
        have HLI := Lib.hid (line_any b ln d L' (wr.setCell ⟨b, 3, none⟩ (.int .i64 d)) HE4.out (by omega) (by have := HLEN.out; rw [← HT.out, List.length_append] at this; omega))
        obtain ⟨A1, N1, cc1, rfl⟩ : ∃ (A : Option Addr) (N c : Nat), u2 = .slice A N c := by obtain ⟨A, c, h, -⟩ := HN4.out; exact ⟨A, _, c, h⟩
        go_wp2_with (go_at_call 222; refine HLI.out.mono ?_; rintro e w5 ⟨rfl, h5, hk5⟩)
        go_ret
        exact ⟨_, rfl, HN4.out.below hk5.1, by rw [← HT.out]; exact h5, HK4.out.trans hk5⟩
      | cons t ts =>
        simp only [List.length_cons] at hlen
        have hti : t ∈ ks := by rw [HPP.out]; simp
        have hpb : pre.length ≤ 1000 := by omega
        have hpl : pre.length < M := by omega
        have hfl : flats (t :: ts) ++ r = flat t ++ (flats ts ++ r) := by rw [flats_cons, List.append_assoc]
        have HD2 : d + 1 + (flat t).length ≤ 1000 := by
          have : (flat t).length ≤ (flats ks).length := by rw [HPP.out, flats_append, flats_cons]; simp; omega
          omega
        rw [hfl] at HN3
        have hft : flat t ++ (flats ts ++ r) = t.nd :: (flats t.ks ++ (flats ts ++ r)) := by rw [flat_eq]; rfl
        have hcc := HN3.out
        rw [hft] at hcc
        obtain ⟨g, o, c, hu2, hc1, hcm, hgb, hn6, -, -⟩ := hcc.cons
        have a2 := hn6.c2
        generalize hK : (flats t.ks ++ (flats ts ++ r)).length = K at *
        have HKK := Lib.hid hK
        subst hu2
        clear hcc hn6 hfl hft hK
        by_cases hpre : pre = []
        · have hp0 : ¬ 0 < pre.length := by rw [hpre]; simp
          by_cases h6 : nk = 6
          · have hdec : decide (nk = 6) = true := by simp [h6]
            have hk6 : (nk == 6) = true := by simp [h6]
            have HA4 : Hid ((((L' ++ prL ln (d + 1)) ++ prN ln t.nd.name) ++ prT ln (d + 1) t) ++ prK ln d (decide (nk = 6)) ts = L ++ prB ln d (decide (nk = 6)) ks) := Lib.hid (by
              have := HA3.out.next HPP.out
              rw [if_pos hpre] at this
              simpa [hdec] using this)
            have hl4 : (((L' ++ prL ln (d + 1)) ++ prN ln t.nd.name) ++ prT ln (d + 1) t).length ≤ 100000000 := by have := HLEN.out; rw [← HA4.out, List.length_append] at this; omega
            have hl3 : ((L' ++ prL ln (d + 1)) ++ prN ln t.nd.name).length ≤ 100000000 := by rw [List.length_append] at hl4; omega
            have hl2 : (L' ++ prL ln (d + 1)).length ≤ 100000000 ∧ (quo t.nd.name).length ≤ 100000000 := by rw [List.length_append, prN_len] at hl3; omega
            have hl1 : L'.length ≤ 100000000 := by have := hl2.1; rw [List.length_append] at this; omega
            have HLI := Lib.hid (fun W h => line_any b ln (d + 1) L' W h (by omega) hl1)
            have HNA := Lib.hid (fun W h => name_any b ln ((d + 1 : Nat) : Int) (L' ++ prL ln (d + 1)) t.nd.name W h (HNM.out t hti) hl2.1 hl2.2)
            have HVA := Lib.hid (fun W h1 h2 h3 => HV.out t hti b (d + 1) ((L' ++ prL ln (d + 1)) ++ prN ln t.nd.name) (flats ts ++ r) (.slice (some ⟨g, o, none⟩) (K + 1) c) w0 W h1 h2 h3 (by omega) hl4)
            clear hl1 hl2 hl3 hl4 h6 hdec
            have HPR := Lib.hid hpre
            clear hpre
            go_wp2_with (first
              | (go_at_call 222; refine (HLI.out wr HE3.out).mono ?_; rintro e w4 ⟨rfl, h4, hk4⟩; have hk5 := (Pk.refl b wr).trans hk4; have zz := hk5.other HZ3.out (by omega) (by decide); have y0 : w4.cell? ⟨w.heap.size, 0, none⟩ = some (.int .i64 nk) := (by rw [Lib.cell_of_heap zz]; rfl); have nn : w4.cell? ⟨g, o + 2, none⟩ = some (.string ⟨t.nd.name.toArray⟩) := (hk5.1.cell (p := ⟨g, o + 2, none⟩) hgb).trans a2; have HE5 := Lib.hid h4; have HK5 := Lib.hid hk5; clear h4 hk4 hk5 zz)
              | (go_at_call 223; refine (HNA.out w4 HE5.out).mono ?_; rintro e w5 ⟨rfl, h5, hk5⟩; have HE6 := Lib.hid h5; have HK6 := Lib.hid (HK5.out.trans hk5); clear h5 hk5)
              | (go_at_call 141; refine (HVA.out _ (HEN.out.pk (HK3.out.trans HK6.out)) HE6.out (HN3.out.below HK6.out.1)).mono ?_; rintro e w6 ⟨v', rfl, hx6, h6, hk6⟩; obtain ⟨A2, N2, c2, rfl⟩ : ∃ (A : Option Addr) (N c : Nat), v' = .slice A N c := (by obtain ⟨A, c, h, -⟩ := hx6; exact ⟨A, _, c, h⟩); have HX7 := Lib.hid hx6; have HE7 := Lib.hid h6; have HK7 := Lib.hid (HK6.out.trans hk6); clear hx6 h6 hk6))
            go_roundw
            case rel =>
              refine ⟨pre ++ [t], ts, (((L' ++ prL ln (d + 1)) ++ prN ln t.nd.name) ++ prT ln (d + 1) t), HPP.out.trans (by simp), by first | (simp; done) | go_num, HX7, HE7, Lib.hid (HK3.out.trans HK7.out), Lib.hid (HK7.out.other HZ3.out (by omega) (by decide)), Lib.hid (.inr ⟨by simp, HA4.out⟩)⟩
            case measure => simp [intOf]; omega
          · have hdec : decide (nk = 6) = false := by simp [h6]
            have hk6 : (nk == 6) = false := by simp [h6]
            have HA4 : Hid (((L' ++ prL ln (d + 1)) ++ prT ln (d + 1) t) ++ prK ln d (decide (nk = 6)) ts = L ++ prB ln d (decide (nk = 6)) ks) := Lib.hid (by
              have := HA3.out.next HPP.out
              rw [if_pos hpre] at this
              simpa [hdec] using this)
            have hl4 : ((L' ++ prL ln (d + 1)) ++ prT ln (d + 1) t).length ≤ 100000000 := by have := HLEN.out; rw [← HA4.out, List.length_append] at this; omega
            have hl3 : (L' ++ prL ln (d + 1)).length ≤ 100000000 := by rw [List.length_append] at hl4; omega
            have hl2 : (L' ++ prL ln (d + 1)).length ≤ 100000000 ∧ True := ⟨hl3, trivial⟩
            have hl1 : L'.length ≤ 100000000 := by have := hl2.1; rw [List.length_append] at this; omega
            have HLI := Lib.hid (fun W h => line_any b ln (d + 1) L' W h (by omega) hl1)
            have HVA := Lib.hid (fun W h1 h2 h3 => HV.out t hti b (d + 1) (L' ++ prL ln (d + 1)) (flats ts ++ r) (.slice (some ⟨g, o, none⟩) (K + 1) c) w0 W h1 h2 h3 (by omega) hl4)
            clear hl1 hl2 hl3 hl4 h6 hdec
            have HPR := Lib.hid hpre
            clear hpre
            go_wp2_with (first
              | (go_at_call 222; refine (HLI.out wr HE3.out).mono ?_; rintro e w4 ⟨rfl, h4, hk4⟩; have hk5 := (Pk.refl b wr).trans hk4; have zz := hk5.other HZ3.out (by omega) (by decide); have y0 : w4.cell? ⟨w.heap.size, 0, none⟩ = some (.int .i64 nk) := (by rw [Lib.cell_of_heap zz]; rfl); have nn : w4.cell? ⟨g, o + 2, none⟩ = some (.string ⟨t.nd.name.toArray⟩) := (hk5.1.cell (p := ⟨g, o + 2, none⟩) hgb).trans a2; have HE5 := Lib.hid h4; have HK5 := Lib.hid hk5; clear h4 hk4 hk5 zz)
              | (go_at_call 141; refine (HVA.out _ (HEN.out.pk (HK3.out.trans HK5.out)) HE5.out (HN3.out.below HK5.out.1)).mono ?_; rintro e w6 ⟨v', rfl, hx6, h6, hk6⟩; obtain ⟨A2, N2, c2, rfl⟩ : ∃ (A : Option Addr) (N c : Nat), v' = .slice A N c := (by obtain ⟨A, c, h, -⟩ := hx6; exact ⟨A, _, c, h⟩); have HX7 := Lib.hid hx6; have HE7 := Lib.hid h6; have HK7 := Lib.hid (HK5.out.trans hk6); clear hx6 h6 hk6))
            go_roundw
            case rel =>
              refine ⟨pre ++ [t], ts, ((L' ++ prL ln (d + 1)) ++ prT ln (d + 1) t), HPP.out.trans (by simp), by first | (simp; done) | go_num, HX7, HE7, Lib.hid (HK3.out.trans HK7.out), Lib.hid (HK7.out.other HZ3.out (by omega) (by decide)), Lib.hid (.inr ⟨by simp, HA4.out⟩)⟩
            case measure => simp [intOf]; omega
        · have hp0 : 0 < pre.length := List.length_pos_iff.2 hpre
          by_cases h6 : nk = 6
          · have hdec : decide (nk = 6) = true := by simp [h6]
            have hk6 : (nk == 6) = true := by simp [h6]
            have HA4 : Hid (((((L' ++ [44]) ++ prL ln (d + 1)) ++ prN ln t.nd.name) ++ prT ln (d + 1) t) ++ prK ln d (decide (nk = 6)) ts = L ++ prB ln d (decide (nk = 6)) ks) := Lib.hid (by
              have := HA3.out.next HPP.out
              rw [if_neg hpre] at this
              simpa [hdec] using this)
            have hl4 : ((((L' ++ [44]) ++ prL ln (d + 1)) ++ prN ln t.nd.name) ++ prT ln (d + 1) t).length ≤ 100000000 := by have := HLEN.out; rw [← HA4.out, List.length_append] at this; omega
            have hl3 : (((L' ++ [44]) ++ prL ln (d + 1)) ++ prN ln t.nd.name).length ≤ 100000000 := by rw [List.length_append] at hl4; omega
            have hl2 : ((L' ++ [44]) ++ prL ln (d + 1)).length ≤ 100000000 ∧ (quo t.nd.name).length ≤ 100000000 := by rw [List.length_append, prN_len] at hl3; omega
            have hl1 : (L' ++ [44]).length ≤ 100000000 := by have := hl2.1; rw [List.length_append] at this; omega
            have HWB := Lib.hid (embByte b ln ((d + 1 : Nat) : Int) L' 44 wr HE3.out (by rw [List.length_append] at hl1; omega))
            have HLI := Lib.hid (fun W h => line_any b ln (d + 1) (L' ++ [44]) W h (by omega) hl1)
            have HNA := Lib.hid (fun W h => name_any b ln ((d + 1 : Nat) : Int) ((L' ++ [44]) ++ prL ln (d + 1)) t.nd.name W h (HNM.out t hti) hl2.1 hl2.2)
            have HVA := Lib.hid (fun W h1 h2 h3 => HV.out t hti b (d + 1) (((L' ++ [44]) ++ prL ln (d + 1)) ++ prN ln t.nd.name) (flats ts ++ r) (.slice (some ⟨g, o, none⟩) (K + 1) c) w0 W h1 h2 h3 (by omega) hl4)
            clear hl1 hl2 hl3 hl4 h6 hdec
            have HPR := Lib.hid hpre
            clear hpre
            go_wp2_with (first
              | (go_at_call 100; refine HWB.out.mono ?_; rintro e w3 ⟨rfl, h3, hk3⟩; have HE4 := Lib.hid h3; have HK4 := Lib.hid hk3; clear h3 hk3)
              | (go_at_call 222; refine (HLI.out w3 HE4.out).mono ?_; rintro e w4 ⟨rfl, h4, hk4⟩; have hk5 := HK4.out.trans hk4; have zz := hk5.other HZ3.out (by omega) (by decide); have y0 : w4.cell? ⟨w.heap.size, 0, none⟩ = some (.int .i64 nk) := (by rw [Lib.cell_of_heap zz]; rfl); have nn : w4.cell? ⟨g, o + 2, none⟩ = some (.string ⟨t.nd.name.toArray⟩) := (hk5.1.cell (p := ⟨g, o + 2, none⟩) hgb).trans a2; have HE5 := Lib.hid h4; have HK5 := Lib.hid hk5; clear h4 hk4 hk5 zz)
              | (go_at_call 223; refine (HNA.out w4 HE5.out).mono ?_; rintro e w5 ⟨rfl, h5, hk5⟩; have HE6 := Lib.hid h5; have HK6 := Lib.hid (HK5.out.trans hk5); clear h5 hk5)
              | (go_at_call 141; refine (HVA.out _ (HEN.out.pk (HK3.out.trans HK6.out)) HE6.out (HN3.out.below HK6.out.1)).mono ?_; rintro e w6 ⟨v', rfl, hx6, h6, hk6⟩; obtain ⟨A2, N2, c2, rfl⟩ : ∃ (A : Option Addr) (N c : Nat), v' = .slice A N c := (by obtain ⟨A, c, h, -⟩ := hx6; exact ⟨A, _, c, h⟩); have HX7 := Lib.hid hx6; have HE7 := Lib.hid h6; have HK7 := Lib.hid (HK6.out.trans hk6); clear hx6 h6 hk6))
            go_roundw
            case rel =>
              refine ⟨pre ++ [t], ts, ((((L' ++ [44]) ++ prL ln (d + 1)) ++ prN ln t.nd.name) ++ prT ln (d + 1) t), HPP.out.trans (by simp), by first | (simp; done) | go_num, HX7, HE7, Lib.hid (HK3.out.trans HK7.out), Lib.hid (HK7.out.other HZ3.out (by omega) (by decide)), Lib.hid (.inr ⟨by simp, HA4.out⟩)⟩
            case measure => simp [intOf]; omega
          · have hdec : decide (nk = 6) = false := by simp [h6]
            have hk6 : (nk == 6) = false := by simp [h6]
            have HA4 : Hid ((((L' ++ [44]) ++ prL ln (d + 1)) ++ prT ln (d + 1) t) ++ prK ln d (decide (nk = 6)) ts = L ++ prB ln d (decide (nk = 6)) ks) := Lib.hid (by
              have := HA3.out.next HPP.out
              rw [if_neg hpre] at this
              simpa [hdec] using this)
            have hl4 : (((L' ++ [44]) ++ prL ln (d + 1)) ++ prT ln (d + 1) t).length ≤ 100000000 := by have := HLEN.out; rw [← HA4.out, List.length_append] at this; omega
            have hl3 : ((L' ++ [44]) ++ prL ln (d + 1)).length ≤ 100000000 := by rw [List.length_append] at hl4; omega
            have hl2 : ((L' ++ [44]) ++ prL ln (d + 1)).length ≤ 100000000 ∧ True := ⟨hl3, trivial⟩
            have hl1 : (L' ++ [44]).length ≤ 100000000 := by have := hl2.1; rw [List.length_append] at this; omega
            have HWB := Lib.hid (embByte b ln ((d + 1 : Nat) : Int) L' 44 wr HE3.out (by rw [List.length_append] at hl1; omega))
            have HLI := Lib.hid (fun W h => line_any b ln (d + 1) (L' ++ [44]) W h (by omega) hl1)
            have HVA := Lib.hid (fun W h1 h2 h3 => HV.out t hti b (d + 1) ((L' ++ [44]) ++ prL ln (d + 1)) (flats ts ++ r) (.slice (some ⟨g, o, none⟩) (K + 1) c) w0 W h1 h2 h3 (by omega) hl4)
            clear hl1 hl2 hl3 hl4 h6 hdec
            have HPR := Lib.hid hpre
            clear hpre
            go_wp2_with (first
              | (go_at_call 100; refine HWB.out.mono ?_; rintro e w3 ⟨rfl, h3, hk3⟩; have HE4 := Lib.hid h3; have HK4 := Lib.hid hk3; clear h3 hk3)
              | (go_at_call 222; refine (HLI.out w3 HE4.out).mono ?_; rintro e w4 ⟨rfl, h4, hk4⟩; have hk5 := HK4.out.trans hk4; have zz := hk5.other HZ3.out (by omega) (by decide); have y0 : w4.cell? ⟨w.heap.size, 0, none⟩ = some (.int .i64 nk) := (by rw [Lib.cell_of_heap zz]; rfl); have nn : w4.cell? ⟨g, o + 2, none⟩ = some (.string ⟨t.nd.name.toArray⟩) := (hk5.1.cell (p := ⟨g, o + 2, none⟩) hgb).trans a2; have HE5 := Lib.hid h4; have HK5 := Lib.hid hk5; clear h4 hk4 hk5 zz)
              | (go_at_call 141; refine (HVA.out _ (HEN.out.pk (HK3.out.trans HK5.out)) HE5.out (HN3.out.below HK5.out.1)).mono ?_; rintro e w6 ⟨v', rfl, hx6, h6, hk6⟩; obtain ⟨A2, N2, c2, rfl⟩ : ∃ (A : Option Addr) (N c : Nat), v' = .slice A N c := (by obtain ⟨A, c, h, -⟩ := hx6; exact ⟨A, _, c, h⟩); have HX7 := Lib.hid hx6; have HE7 := Lib.hid h6; have HK7 := Lib.hid (HK5.out.trans hk6); clear hx6 h6 hk6))
            go_roundw
            case rel =>
              refine ⟨pre ++ [t], ts, (((L' ++ [44]) ++ prL ln (d + 1)) ++ prT ln (d + 1) t), HPP.out.trans (by simp), by first | (simp; done) | go_num, HX7, HE7, Lib.hid (HK3.out.trans HK7.out), Lib.hid (HK7.out.other HZ3.out (by omega) (by decide)), Lib.hid (.inr ⟨by simp, HA4.out⟩)⟩
            case measure => simp [intOf]; omega
end Go.Proofs.YtdgcdemihalefaaGreatDoor
namespace Go.Proofs.YtdgcdemihalefaaGreatDoor
open Go.RowKit Np Rw Vp Up Qp Tp
theorem kids_ok {t : Tr Nd} (h1 : okT many t) (h2 : rightT t = true) : ∀ u ∈ t.ks, okT many u ∧ rightT u = true := by
  have := val_kids (t := nmd [] t) (Val.clr h1 h2)
  rwa [nmd_ks] at this
theorem kids_fit {n : Nd} {ks : List (Tr Nd)} (h : ∀ x ∈ flat (.mk n ks), FitN x) : ∀ u ∈ ks, ∀ x ∈ flat u, FitN x := by
  intro u hu x hx
  refine h x ?_
  rw [flat_mk, List.mem_cons]
  refine .inr ?_
  obtain ⟨a, c, rfl⟩ := List.append_of_mem hu
  rw [flats_append, flats_cons]
  simp [hx]
theorem kid_less {n : Nd} {ks : List (Tr Nd)} {u : Tr Nd} (hu : u ∈ ks) : (flat u).length < (flat (.mk n ks)).length := by
  obtain ⟨a, c, rfl⟩ := List.append_of_mem hu
  rw [flat_mk, flats_append, flats_cons]
  simp; omega
theorem prValue (ln : Bool) : ∀ (N : Nat) (t : Tr Nd), (flat t).length ≤ N → okT many t → rightT t = true → (∀ x ∈ flat t, FitN x) → ValueP ln t
  | 0, t, hN, _, _, _ => by have := flat_pos t; omega
  | N + 1, .mk n ks, hN, h1, h2, hF => by
    have hk := kids_ok h1 h2
    have h1' := okT_mk.1 h1
    have hpl : plainN n = true := by rw [rightT_mk, Bool.and_eq_true] at h2; exact h2.1
    refine prValue_of ln n ks (hF n (by rw [flat_mk]; simp)) (fun h => prParts_of ln n ks h1'.1 h (fun u hu => ?_) (fun u hu => ?_)) (fun h5 h6 => ?_)
    · exact prValue ln N u (by have := kid_less (n := n) hu; omega) (hk u hu).1 (hk u hu).2 (kids_fit hF u hu)
    · exact (kids_fit hF u hu u.nd (by rw [flat_eq]; simp)).nm
    · have := (plainN_many hpl).2 h5 h6
      exact List.eq_nil_of_length_eq_zero (by have := h1'.1; unfold many at this; omega)
theorem printS_ne (f : List UInt8) (e : Int) : printS f e ≠ [] := by
  unfold printS
  split
  · simp
  · rename_i h
    have hf : f ≠ [] := fun h' => h (by rw [h']; rfl)
    split
    · simp [hf]
    · split
      · unfold pointF; simp
      · simp
theorem printN_ne (f : List UInt8) (g : Bool) (e : Int) : printN f g e ≠ [] := by
  unfold printN
  split
  · simp
  · exact printS_ne f e
theorem scT_ne (n : Nd) : scT n ≠ [] := by
  unfold scT
  split
  · unfold wordT; split
    · decide
    · split <;> decide
  · split
    · exact printN_ne _ _ _
    · unfold quo; simp
theorem prT_ne (ln : Bool) (d : Nat) (t : Tr Nd) : prT ln d t ≠ [] := by
  cases t with
  | mk n ks =>
    rw [prT_mk]
    split
    · simp
    · split
      · simp
      · exact scT_ne n
structure FitT (t : Tr Nd) : Prop where
  ok : okT many t
  rt : rightT t = true
  fit : ∀ x ∈ flat t, FitN x
  few : (flat t).length ≤ 1000
set_option maxRecDepth 100000 in
set_option maxHeartbeats 2000000 in
theorem compact_any (t : Tr Nd) (v : Value) (w : World) (hF : FitT t) (hv : Nds w v (flat t)) (hl : (prT false 0 t).length ≤ 100000000) (hP : PowTab w) (hW : Wds w) :
    Calls Tryz.prog 97 #[v] w fun e w' => e = .returned (.string ⟨(prT false 0 t).toArray⟩) ∧ Below w.heap.size w w' := by
  have HE : Hid (Emb w.heap.size false ((0 : Nat) : Int) [] (w.alloc (.cells #[.pointer none, .slice none 0 0, .bool false, .int .i64 0] 177))) := Lib.hid
    (.inl ⟨.slice none 0 0, heap_alloc_new w _, World.ownsRowF_nil _ _ _ _, by simp [Value.ownBlock]⟩)
  have hb : Below w.heap.size w (w.alloc (.cells #[.pointer none, .slice none 0 0, .bool false, .int .i64 0] 177)) := (Below.refl _ _).alloc (Nat.le_refl _) _
  have HB := Lib.hid hb
  have hnd : NdB w.heap.size (w.alloc (.cells #[.pointer none, .slice none 0 0, .bool false, .int .i64 0] 177)) v (flat t ++ []) := by rw [List.append_nil]; exact (NdB.of hv (Nat.le_refl _)).below hb
  have HV := Lib.hid (prValue false _ t (Nat.le_refl _) hF.ok hF.rt hF.fit w.heap.size 0 [] [] v w _ ⟨hP, hW, Nat.le_refl _, hb⟩ HE.out hnd (by have := hF.few; omega) (by simpa using hl))
  have HNE : Hid (prT false 0 t ≠ []) := Lib.hid (prT_ne _ _ _)
  obtain ⟨A0, N0, c0, rfl⟩ : ∃ (A : Option Addr) (N c : Nat), v = .slice A N c := by obtain ⟨A, c, h, -⟩ := hv; exact ⟨A, _, c, h⟩
  clear hb hnd hv hl hP hW HE
  generalize prT false 0 t = T at *
  go_enter Tryz.func97, Tryz.ntmps97
  go_wp2_with (first
    | (go_at_call 141; refine HV.out.mono ?_; rintro e w2 ⟨v', rfl, hx2, h2, hk2⟩; obtain ⟨A2, N2, c2, rfl⟩ : ∃ (A : Option Addr) (N c : Nat), v' = .slice A N c := (by obtain ⟨A, c, h, -⟩ := hx2; exact ⟨A, _, c, h⟩); have HS := Lib.hid (embText w.heap.size false ((0 : Nat) : Int) T w2 (by simpa using h2) HNE.out); have HK2 := Lib.hid (HB.out.trans hk2.1); clear h2 hk2 hx2)
    | (go_at_call 35; refine HS.out.mono ?_; rintro e w3 ⟨rfl, hb3⟩))
  go_ret
  exact ⟨rfl, HK2.out.trans hb3⟩
end Go.Proofs.YtdgcdemihalefaaGreatDoor
namespace Go.Proofs.YtdgcdemihalefaaGreatDoor
open Go.RowKit Np Rw Vp Up Qp Tp Pw Fw
structure Sgs (w : World) : Prop where
  c0 : w.cell? ⟨2, 0, none⟩ = some (.string ⟨#[61, 61]⟩)
  c1 : w.cell? ⟨2, 1, none⟩ = some (.string ⟨#[33, 61]⟩)
  c2 : w.cell? ⟨2, 2, none⟩ = some (.string ⟨#[60]⟩)
  c3 : w.cell? ⟨2, 3, none⟩ = some (.string ⟨#[60, 61]⟩)
  c4 : w.cell? ⟨2, 4, none⟩ = some (.string ⟨#[62]⟩)
  c5 : w.cell? ⟨2, 5, none⟩ = some (.string ⟨#[62, 61]⟩)
theorem Sgs.below {w w' : World} (h : Sgs w) (hb : Below w.heap.size w w') : Sgs w' := by
  have hlt := World.block_lt_of_cell? _ _ h.c0
  exact ⟨(hb.cell (p := ⟨2, 0, none⟩) hlt).trans h.c0, (hb.cell (p := ⟨2, 1, none⟩) hlt).trans h.c1, (hb.cell (p := ⟨2, 2, none⟩) hlt).trans h.c2, (hb.cell (p := ⟨2, 3, none⟩) hlt).trans h.c3, (hb.cell (p := ⟨2, 4, none⟩) hlt).trans h.c4, (hb.cell (p := ⟨2, 5, none⟩) hlt).trans h.c5⟩
set_option maxHeartbeats 1000000 in
theorem fsign_any (n : Int) (w : World) (hS : Sgs w) (h0 : 0 ≤ n) (h5 : n ≤ 5) : Calls Tryz.prog 96 #[.int .i64 n] w fun e w' => e = .returned (.string ⟨(signT n).toArray⟩) ∧ w' = w := by
  obtain ⟨c0, c1, c2, c3, c4, c5⟩ := hS
  have h : n = 0 ∨ n = 1 ∨ n = 2 ∨ n = 3 ∨ n = 4 ∨ n = 5 := by omega
  clear h0 h5
  rcases h with rfl | rfl | rfl | rfl | rfl | rfl
  all_goals
    go_enter Tryz.func96, Tryz.ntmps96
    go_wp2_with fail
    go_ret
    exact ⟨rfl, rfl⟩
set_option maxHeartbeats 1000000 in
theorem brk_any (of_ op : Int) (w : World) : Calls Tryz.prog 99 #[.int .i64 of_, .int .i64 op] w fun e w' => e = .returned (.bool (brk of_ op)) ∧ w' = w := by
  by_cases h1 : of_ = 8 ∨ of_ = 9
  · have HB : Hid (brk of_ op = (op == 4)) := Lib.hid (by unfold brk; rw [if_pos h1]; rfl)
    rcases h1 with rfl | rfl
    all_goals
      go_enter Tryz.func99, Tryz.ntmps99
      go_wp2_with fail
      go_ret
      exact ⟨ret_bool HB.out.symm, rfl⟩
  · by_cases h2 : of_ = 17 ∨ of_ = 18
    · have HB : Hid (brk of_ op = ((op == 17) || (op == 18))) := Lib.hid (by unfold brk; rw [if_neg h1, if_pos h2, Bool.eq_iff_iff]; simp)
      clear h1
      rcases h2 with rfl | rfl
      all_goals
        go_enter Tryz.func99, Tryz.ntmps99
        go_wp2_with fail
        all_goals go_ret
        all_goals exact ⟨ret_bool (by rw [HB.out] <;> simp_all), rfl⟩
    · have HB : Hid (brk of_ op = false) := Lib.hid (by unfold brk; rw [if_neg h1, if_neg h2])
      have e8 : (of_ == 8) = false := by simp; omega
      have e9 : (of_ == 9) = false := by simp; omega
      have e17 : (of_ == 17) = false := by simp; omega
      have e18 : (of_ == 18) = false := by simp; omega
      clear h1 h2
      go_enter Tryz.func99, Tryz.ntmps99
      go_wp2_with fail
      go_ret
      exact ⟨ret_bool HB.out.symm, rfl⟩
theorem fieldT_len (s : List UInt8) : (fieldT s).length ≤ 6 * s.length + 3 := by
  rw [fieldT_eq]
  split
  · simp; omega
  · have h := quo_len s
    have h2 := wrs_le s
    simp; omega
set_option maxHeartbeats 1000000 in
theorem fieldText_any (s : List UInt8) (w : World) (hs : s.length ≤ 1000000) (hT : PowTab w) : Calls Tryz.prog 94 #[.string ⟨s.toArray⟩] w fun e w' => e = .returned (.string ⟨(fieldT s).toArray⟩) ∧ Below w.heap.size w w' := by
  have hB : Below w.heap.size w w := Below.refl _ _
  have hfl := fieldT_len s
  have HP : Hid (∀ W : World, ∀ n, W.heap.size = n → PowTab (W.alloc (.cells #[.bool false, .string ⟨s.toArray⟩, .int .i64 0] 71)) → Calls Tryz.prog 139 #[.slice (some ⟨n, 0, none⟩) 1 1] (W.alloc (.cells #[.bool false, .string ⟨s.toArray⟩, .int .i64 0] 71)) fun e w' => e = .returned (.string ⟨(fieldT s).toArray⟩) ∧ Below (W.alloc (.cells #[.bool false, .string ⟨s.toArray⟩, .int .i64 0] 71)).heap.size (W.alloc (.cells #[.bool false, .string ⟨s.toArray⟩, .int .i64 0] 71)) w') := Lib.hid (fun W n hn h => by
    subst hn
    exact ptext_any _ [⟨false, s, 0⟩] _ (Row.lit spc_len W 71 _ [⟨false, s, 0⟩] (by show 1 ≤ maxLen; decide) rfl) (by simp) (fun x hx => by simp at hx; subst hx; exact ⟨by simp only; omega, by simp only; decide, by simp only; decide⟩) (by show (fieldT s).length ≤ _; omega) h)
  go_enter Tryz.func94, Tryz.ntmps94
  go_wp2_with fail
  refine (HP.out w _ rfl (hT.below (hB.alloc (Nat.le_refl _) _))).mono ?_
  rintro e w1 ⟨rfl, hb1⟩
  go_wp2_with fail
  go_ret
  exact ⟨rfl, (hB.alloc (Nat.le_refl _) _).trans (hb1.mono (by simp))⟩
set_option maxHeartbeats 1000000 in
theorem nameText_any (s : List UInt8) (w : World) (hs : s.length ≤ 1000000) (hT : PowTab w) : Calls Tryz.prog 64 #[.string ⟨s.toArray⟩] w fun e w' => e = .returned (.string ⟨(nameT s).toArray⟩) ∧ Below w.heap.size w w' := by
  have HF := Lib.hid (fieldText_any s w hs hT)
  have hfl := fieldT_len s
  have h1 : 1 ≤ (fieldT s).length := by rw [fieldT_eq]; simp
  have HN : Hid (nameT s = (fieldT s).drop 1) := Lib.hid rfl
  generalize fieldT s = ft at *
  generalize nameT s = nt at *
  go_enter Tryz.func64, Tryz.ntmps64
  go_wp2_with fail
  refine HF.out.mono ?_
  rintro e w1 ⟨rfl, hb1⟩
  go_wp2_with fail
  go_ret
  refine ⟨ret_str ?_, hb1⟩
  rw [HN.out]
  exact extract_run ⟨ft.toArray⟩ 1 ft.length (ft.drop 1) (by show ft.drop 1 = _; exact (List.take_of_length_le (by simp)).symm)
structure FitK (c : Nd) : Prop where
  ft : FitT (.mk c [])
  len : (constT c).length ≤ 10000000
theorem tm_alloc' (w : World) (t : Tm) : Tm11 (w.alloc (.cells #[.int .i64 t.op, .int .i64 t.many, .string ⟨t.name.toArray⟩, .string ⟨t.s.toArray⟩, .int .i64 t.n, .int .i64 t.c.kind, .int .i64 t.c.many, .string ⟨t.c.name.toArray⟩, .string ⟨t.c.s.toArray⟩, .bool t.c.neg, .int .i64 t.c.e] 47)) w.heap.size 0 t := by
  have h := heap_alloc_new w (.cells #[.int .i64 t.op, .int .i64 t.many, .string ⟨t.name.toArray⟩, .string ⟨t.s.toArray⟩, .int .i64 t.n, .int .i64 t.c.kind, .int .i64 t.c.many, .string ⟨t.c.name.toArray⟩, .string ⟨t.c.s.toArray⟩, .bool t.c.neg, .int .i64 t.c.e] 47)
  constructor <;> (rw [Lib.cell_of_heap h]; rfl)
def MkE (w : World) (t : Tm) (e : Ending) (w' : World) : Prop := e = .returned (.tuple #[.string ⟨(aheadT t).toArray⟩, .string ⟨(betweenT t.op).toArray⟩, .string ⟨(behindT t.op).toArray⟩]) ∧ Below w.heap.size w w'
set_option maxRecDepth 100000 in
set_option maxHeartbeats 8000000 in
theorem marks16_any (many n : Int) (name s : List UInt8) (c : Nd) (w : World) (hs : s.length ≤ 1000000) (hn0 : 0 ≤ n) (hn5 : n ≤ 5) (hK : FitK c) (hP : PowTab w) (hW : Wds w) (hS : Sgs w) :
    Calls Tryz.prog 62 #[tma ⟨16, many, name, s, n, c⟩] w (MkE w ⟨16, many, name, s, n, c⟩) := by
  have hB : Below w.heap.size w w := Below.refl _ _
  have hBa := hB.alloc (Nat.le_refl _) (.cells #[.int .i64 16, .int .i64 many, .string ⟨name.toArray⟩, .string ⟨s.toArray⟩, .int .i64 n, .int .i64 c.kind, .int .i64 c.many, .string ⟨c.name.toArray⟩, .string ⟨c.s.toArray⟩, .bool c.neg, .int .i64 c.e] 47)
  have HBA := Lib.hid hBa.drew
  have HBW := Lib.hid hBa
  have HSG : Hid (∀ W, Sgs W → Calls Tryz.prog 96 #[.int .i64 n] W fun e w' => e = .returned (.string ⟨(signT n).toArray⟩) ∧ w' = W) := Lib.hid (fun W h => fsign_any n W h hn0 hn5)
  have HSW : Hid (∀ o, Sgs ((w.alloc (.cells #[.int .i64 16, .int .i64 many, .string ⟨name.toArray⟩, .string ⟨s.toArray⟩, .int .i64 n, .int .i64 c.kind, .int .i64 c.many, .string ⟨c.name.toArray⟩, .string ⟨c.s.toArray⟩, .bool c.neg, .int .i64 c.e] 47)).drew.alloc o) ∧ Sgs (w.alloc (.cells #[.int .i64 16, .int .i64 many, .string ⟨name.toArray⟩, .string ⟨s.toArray⟩, .int .i64 n, .int .i64 c.kind, .int .i64 c.many, .string ⟨c.name.toArray⟩, .string ⟨c.s.toArray⟩, .bool c.neg, .int .i64 c.e] 47)).drew) := Lib.hid (fun o => ⟨hS.below (HBA.out.alloc HBA.out.size o), hS.below HBA.out⟩)
  have HCP : Hid (∀ W : World, ∀ m, W.heap.size = m → Below w.heap.size w W → Calls Tryz.prog 97 #[.slice (some ⟨m, 0, none⟩) 1 1] (W.alloc (.cells #[.int .i64 c.kind, .int .i64 c.many, .string ⟨c.name.toArray⟩, .string ⟨c.s.toArray⟩, .bool c.neg, .int .i64 c.e] 43)) fun e w' => e = .returned (.string ⟨(constT c).toArray⟩) ∧ Below W.heap.size W w') := Lib.hid (fun W m hm hb => by
    subst hm
    have hba : Below w.heap.size w (W.alloc (.cells #[.int .i64 c.kind, .int .i64 c.many, .string ⟨c.name.toArray⟩, .string ⟨c.s.toArray⟩, .bool c.neg, .int .i64 c.e] 43)) := hb.alloc hb.size _
    have hr : Nds (W.alloc (.cells #[.int .i64 c.kind, .int .i64 c.many, .string ⟨c.name.toArray⟩, .string ⟨c.s.toArray⟩, .bool c.neg, .int .i64 c.e] 43)) (.slice (some ⟨W.heap.size, 0, none⟩) 1 1) (flat (.mk c [])) := by rw [flat_mk, flats_nil]; exact Row.lit ndc_len W 43 _ [c] (by show 1 ≤ maxLen; decide) rfl
    have hl := hK.len
    exact (compact_any (.mk c []) _ _ hK.ft hr (by unfold constT at hl; omega) (hP.below hba) (hW.below hba)).mono (fun e w' h => ⟨h.1, ((Below.refl _ W).alloc (Nat.le_refl _) _).trans (h.2.mono (by simp))⟩))
  have HX : Hid ((ByteArray.mk s.toArray) ++ (ByteArray.mk #[32]) ++ (ByteArray.mk (signT n).toArray) ++ (ByteArray.mk #[32]) ++ (ByteArray.mk (constT c).toArray) = ⟨(aheadT ⟨16, many, name, s, n, c⟩).toArray⟩) := Lib.hid (ByteArray.ext (by simp [aheadT]))
  have hsl : (signT n).length ≤ 2 := by
    unfold signT
    repeat' split
    all_goals simp
  have hkl := hK.len
  have HHB : Hid (betweenT 16 = [] ∧ behindT 16 = []) := Lib.hid ⟨rfl, rfl⟩
  have HST : Hid (∀ W, Below (w.alloc (.cells #[.int .i64 16, .int .i64 many, .string ⟨name.toArray⟩, .string ⟨s.toArray⟩, .int .i64 n, .int .i64 c.kind, .int .i64 c.many, .string ⟨c.name.toArray⟩, .string ⟨c.s.toArray⟩, .bool c.neg, .int .i64 c.e] 47)).heap.size (w.alloc (.cells #[.int .i64 16, .int .i64 many, .string ⟨name.toArray⟩, .string ⟨s.toArray⟩, .int .i64 n, .int .i64 c.kind, .int .i64 c.many, .string ⟨c.name.toArray⟩, .string ⟨c.s.toArray⟩, .bool c.neg, .int .i64 c.e] 47)) W → (fun w' => w'.cell? ⟨w.heap.size, 3, none⟩ = some (.string ⟨s.toArray⟩) ∧ w'.cell? ⟨w.heap.size, 4, none⟩ = some (.int .i64 n) ∧ w'.cell? ⟨w.heap.size, 5, none⟩ = some (.int .i64 c.kind) ∧ w'.cell? ⟨w.heap.size, 6, none⟩ = some (.int .i64 c.many) ∧ w'.cell? ⟨w.heap.size, 7, none⟩ = some (.string ⟨c.name.toArray⟩) ∧ w'.cell? ⟨w.heap.size, 8, none⟩ = some (.string ⟨c.s.toArray⟩) ∧ w'.cell? ⟨w.heap.size, 9, none⟩ = some (.bool c.neg) ∧ w'.cell? ⟨w.heap.size, 10, none⟩ = some (.int .i64 c.e) ∧ Sgs w' ∧ Below w.heap.size w w') W) := Lib.hid (fun W hb => by
    have h := (tm_alloc' w ⟨16, many, name, s, n, c⟩).below (by simp) hb
    obtain ⟨-, -, -, h3, h4, h5, h6, h7, h8, h9, h10⟩ := h
    simp only [Nat.zero_add] at h3 h4 h5 h6 h7 h8 h9 h10
    exact ⟨h3, h4, h5, h6, h7, h8, h9, h10, hS.below ((hBa.trans (hb.mono hBa.size))), hBa.trans (hb.mono hBa.size)⟩)
  clear hP hW hS hK hBa hB hn0 hn5
  unfold MkE
  generalize aheadT ⟨16, many, name, s, n, c⟩ = R at *
  generalize constT c = K at *
  generalize signT n = G at *
  go_enter Tryz.func62, Tryz.ntmps62
  go_wp2_with fail
  refine wp_region_held_drew (S := (fun w' => w'.cell? ⟨w.heap.size, 3, none⟩ = some (.string ⟨s.toArray⟩) ∧ w'.cell? ⟨w.heap.size, 4, none⟩ = some (.int .i64 n) ∧ w'.cell? ⟨w.heap.size, 5, none⟩ = some (.int .i64 c.kind) ∧ w'.cell? ⟨w.heap.size, 6, none⟩ = some (.int .i64 c.many) ∧ w'.cell? ⟨w.heap.size, 7, none⟩ = some (.string ⟨c.name.toArray⟩) ∧ w'.cell? ⟨w.heap.size, 8, none⟩ = some (.string ⟨c.s.toArray⟩) ∧ w'.cell? ⟨w.heap.size, 9, none⟩ = some (.bool c.neg) ∧ w'.cell? ⟨w.heap.size, 10, none⟩ = some (.int .i64 c.e) ∧ Sgs w' ∧ Below w.heap.size w w')) (by kernel_rfl) (HST.out _ (Below.refl _ _).drew) (fun hH => ?_)
  refine wpAnyH_take (i := 0) (v := .pointer (some ⟨w.heap.size, 3, none⟩)) rfl (by kernel_rfl) (by kernel_rfl) (by kernel_rfl) (fun _ _ _ h => h) (Or.inl ⟨by kernel_rfl, ?_⟩) (by assumption) ?_
  · intro w' hSw; (try dsimp only at hSw); go_simp
  try simp only [Act.put, List.getElem_toArray, List.getElem_cons_zero, List.setIfInBounds_toArray, List.set_cons_zero, List.set_cons_succ]
  refine wpAnyH_take (i := 1) (v := .string ⟨s.toArray⟩) rfl (by kernel_rfl) (by kernel_rfl) (by kernel_rfl) (fun _ _ _ h => h) (Or.inl ⟨by kernel_rfl, ?_⟩) (by assumption) ?_
  · intro w' hSw; (try dsimp only at hSw); go_simp
  try simp only [Act.put, List.getElem_toArray, List.getElem_cons_succ, List.getElem_cons_zero, List.setIfInBounds_toArray, List.set_cons_zero, List.set_cons_succ]
  refine wpAnyH_take (i := 2) (v := .string ((ByteArray.mk s.toArray) ++ (ByteArray.mk #[32]))) rfl (by kernel_rfl) (by kernel_rfl) (by kernel_rfl) (fun _ _ _ h => h) (Or.inl ⟨by kernel_rfl, ?_⟩) (by assumption) ?_
  · intro w' hSw; (try dsimp only at hSw); go_simp; omega
  try simp only [Act.put, List.getElem_toArray, List.getElem_cons_succ, List.getElem_cons_zero, List.setIfInBounds_toArray, List.set_cons_zero, List.set_cons_succ]
  refine wpAnyH_take (i := 3) (v := .pointer (some ⟨w.heap.size, 4, none⟩)) rfl (by kernel_rfl) (by kernel_rfl) (by kernel_rfl) (fun _ _ _ h => h) (Or.inl ⟨by kernel_rfl, ?_⟩) (by assumption) ?_
  · intro w' hSw; (try dsimp only at hSw); go_simp
  try simp only [Act.put, List.getElem_toArray, List.getElem_cons_succ, List.getElem_cons_zero, List.setIfInBounds_toArray, List.set_cons_zero, List.set_cons_succ]
  refine wpAnyH_take (i := 4) (v := .int .i64 n) rfl (by kernel_rfl) (by kernel_rfl) (by kernel_rfl) (fun _ _ _ h => h) (Or.inl ⟨by kernel_rfl, ?_⟩) (by assumption) ?_
  · intro w' hSw; (try dsimp only at hSw); go_simp
  try simp only [Act.put, List.getElem_toArray, List.getElem_cons_succ, List.getElem_cons_zero, List.setIfInBounds_toArray, List.set_cons_zero, List.set_cons_succ]
  refine wpAnyH_take (i := 8) (v := .pointer (some ⟨w.heap.size, 5, none⟩)) rfl (by kernel_rfl) (by kernel_rfl) (by kernel_rfl) (fun _ _ _ h => h) (Or.inl ⟨by kernel_rfl, ?_⟩) (by assumption) ?_
  · intro w' hSw; (try dsimp only at hSw); go_simp
  try simp only [Act.put, List.getElem_toArray, List.getElem_cons_succ, List.getElem_cons_zero, List.setIfInBounds_toArray, List.set_cons_zero, List.set_cons_succ]
  refine wpAnyH_take (i := 9) (v := .agg #[.int .i64 c.kind, .int .i64 c.many, .string ⟨c.name.toArray⟩, .string ⟨c.s.toArray⟩, .bool c.neg, .int .i64 c.e]) rfl (by kernel_rfl) (by kernel_rfl) (by kernel_rfl) (fun _ _ _ h => h) (Or.inl ⟨by kernel_rfl, ?_⟩) (by assumption) ?_
  · intro w' hSw; (try dsimp only at hSw); go_simp
  try simp only [Act.put, List.getElem_toArray, List.getElem_cons_succ, List.getElem_cons_zero, List.setIfInBounds_toArray, List.set_cons_zero, List.set_cons_succ]
  refine wpAnyH_ready (rs := [5, 10]) (by kernel_rfl) (by simp) ?_
  refine AllReadyH.cons rfl (fun K5 hK5 => ?_) (AllReadyH.cons rfl (fun K10 hK10 => ?_) AllReadyH.nil)
  · go_simp
    go_at_call 96
    refine (HSG.out _ (by first | exact hH.2.2.2.2.2.2.2.2.1 | exact hH10.2.2.2.2.2.2.2.2.1)).mono ?_
    rintro e w1 ⟨rfl, rfl⟩
    go_wp2_with fail
    refine hK5.out _ _ hH (fun hH5 => ?_)
    clear hK5 K5
    try simp only [Act.put, List.getElem_toArray, List.getElem_cons_succ, List.getElem_cons_zero, List.setIfInBounds_toArray, List.set_cons_zero, List.set_cons_succ]
    refine wpAnyH_take (i := 6) (v := .string ((ByteArray.mk s.toArray) ++ (ByteArray.mk #[32]) ++ (ByteArray.mk G.toArray))) rfl (by kernel_rfl) (by kernel_rfl) (by kernel_rfl) (fun _ _ _ h => h) (Or.inl ⟨by kernel_rfl, ?_⟩) (by assumption) ?_
    · intro w' hSw; (try dsimp only at hSw); go_simp; omega
    try simp only [Act.put, List.getElem_toArray, List.getElem_cons_succ, List.getElem_cons_zero, List.setIfInBounds_toArray, List.set_cons_zero, List.set_cons_succ]
    refine wpAnyH_take (i := 7) (v := .string ((ByteArray.mk s.toArray) ++ (ByteArray.mk #[32]) ++ (ByteArray.mk G.toArray) ++ (ByteArray.mk #[32]))) rfl (by kernel_rfl) (by kernel_rfl) (by kernel_rfl) (fun _ _ _ h => h) (Or.inl ⟨by kernel_rfl, ?_⟩) (by assumption) ?_
    · intro w' hSw; (try dsimp only at hSw); go_simp; omega
    try simp only [Act.put, List.getElem_toArray, List.getElem_cons_succ, List.getElem_cons_zero, List.setIfInBounds_toArray, List.set_cons_zero, List.set_cons_succ]
    refine wpAnyH_ready (rs := [10]) (by kernel_rfl) (by simp) ?_
    refine AllReadyH.cons rfl (fun K10 hK10 => ?_) AllReadyH.nil
    go_simp
    refine hK10.out _ _ (HST.out _ ((Below.refl _ (w.alloc (.cells #[.int .i64 16, .int .i64 many, .string ⟨name.toArray⟩, .string ⟨s.toArray⟩, .int .i64 n, .int .i64 c.kind, .int .i64 c.many, .string ⟨c.name.toArray⟩, .string ⟨c.s.toArray⟩, .bool c.neg, .int .i64 c.e] 47))).drew.alloc (Nat.le_refl _) _)) (fun hH10 => ?_)
    clear hK10 K10
    try simp only [Act.put, List.getElem_toArray, List.getElem_cons_succ, List.getElem_cons_zero, List.setIfInBounds_toArray, List.set_cons_zero, List.set_cons_succ]
    refine wpAnyH_ready (rs := [11]) (by kernel_rfl) (by simp) ?_
    refine AllReadyH.cons rfl (fun K11 hK11 => ?_) AllReadyH.nil
    go_simp
    go_at_call 97
    refine (HCP.out _ _ (by simp) HBA.out).mono ?_
    rintro e w2 ⟨rfl, hb2⟩
    have hb3 : Below (w.alloc (.cells #[.int .i64 16, .int .i64 many, .string ⟨name.toArray⟩, .string ⟨s.toArray⟩, .int .i64 n, .int .i64 c.kind, .int .i64 c.many, .string ⟨c.name.toArray⟩, .string ⟨c.s.toArray⟩, .bool c.neg, .int .i64 c.e] 47)).heap.size (w.alloc (.cells #[.int .i64 16, .int .i64 many, .string ⟨name.toArray⟩, .string ⟨s.toArray⟩, .int .i64 n, .int .i64 c.kind, .int .i64 c.many, .string ⟨c.name.toArray⟩, .string ⟨c.s.toArray⟩, .bool c.neg, .int .i64 c.e] 47)) w2 := ⟨hb2.os, hb2.tape, hb2.output, hb2.size, hb2.block⟩
    go_wp2_with fail
    refine hK11.out _ _ (HST.out _ hb3) (fun hH11 => ?_)
    clear hK11 K11
    try simp only [Act.put, List.getElem_toArray, List.getElem_cons_succ, List.getElem_cons_zero, List.setIfInBounds_toArray, List.set_cons_zero, List.set_cons_succ]
    refine wpAnyH_take (i := 12) (v := .string ((ByteArray.mk s.toArray) ++ (ByteArray.mk #[32]) ++ (ByteArray.mk G.toArray) ++ (ByteArray.mk #[32]) ++ (ByteArray.mk K.toArray))) rfl (by kernel_rfl) (by kernel_rfl) (by kernel_rfl) (fun _ _ _ h => h) (Or.inl ⟨by kernel_rfl, ?_⟩) (by assumption) ?_
    · intro w' hSw; (try dsimp only at hSw); go_simp; omega
    try simp only [Act.put, List.getElem_toArray, List.getElem_cons_succ, List.getElem_cons_zero, List.setIfInBounds_toArray, List.set_cons_zero, List.set_cons_succ]
    refine wpAnyH_take (i := 13) (v := .string ((ByteArray.mk s.toArray) ++ (ByteArray.mk #[32]) ++ (ByteArray.mk G.toArray) ++ (ByteArray.mk #[32]) ++ (ByteArray.mk K.toArray))) rfl (by kernel_rfl) (by kernel_rfl) (by kernel_rfl) (fun _ _ _ h => h) (Or.inl ⟨by kernel_rfl, ?_⟩) (by assumption) ?_
    · intro w' hSw; (try dsimp only at hSw); go_simp
    try simp only [Act.put, List.getElem_toArray, List.getElem_cons_succ, List.getElem_cons_zero, List.setIfInBounds_toArray, List.set_cons_zero, List.set_cons_succ]
    refine wpAnyH_take (i := 14) (v := .string ⟨#[]⟩) rfl (by kernel_rfl) (by kernel_rfl) (by kernel_rfl) (fun _ _ _ h => h) (Or.inl ⟨by kernel_rfl, ?_⟩) (by assumption) ?_
    · intro w' hSw; (try dsimp only at hSw); go_simp
    try simp only [Act.put, List.getElem_toArray, List.getElem_cons_succ, List.getElem_cons_zero, List.setIfInBounds_toArray, List.set_cons_zero, List.set_cons_succ]
    refine wpAnyH_take (i := 15) (v := .string ⟨#[]⟩) rfl (by kernel_rfl) (by kernel_rfl) (by kernel_rfl) (fun _ _ _ h => h) (Or.inl ⟨by kernel_rfl, ?_⟩) (by assumption) ?_
    · intro w' hSw; (try dsimp only at hSw); go_simp
    try simp only [Act.put, List.getElem_toArray, List.getElem_cons_succ, List.getElem_cons_zero, List.setIfInBounds_toArray, List.set_cons_zero, List.set_cons_succ]
    refine wpAnyH_done (by kernel_rfl) ?_ _
    go_wp2_with fail
    go_ret3
    exact ⟨by rw [HX.out]; rfl, HBW.out.trans (hb3.mono HBW.out.size)⟩
  · go_simp
    refine hK10.out _ _ (HST.out _ ((Below.refl _ (w.alloc (.cells #[.int .i64 16, .int .i64 many, .string ⟨name.toArray⟩, .string ⟨s.toArray⟩, .int .i64 n, .int .i64 c.kind, .int .i64 c.many, .string ⟨c.name.toArray⟩, .string ⟨c.s.toArray⟩, .bool c.neg, .int .i64 c.e] 47))).drew.alloc (Nat.le_refl _) _)) (fun hH10 => ?_)
    clear hK10 K10
    try simp only [Act.put, List.getElem_toArray, List.getElem_cons_succ, List.getElem_cons_zero, List.setIfInBounds_toArray, List.set_cons_zero, List.set_cons_succ]
    refine wpAnyH_ready (rs := [5]) (by kernel_rfl) (by simp) ?_
    refine AllReadyH.cons rfl (fun K5 hK5 => ?_) AllReadyH.nil
    go_simp
    go_at_call 96
    refine (HSG.out _ (by first | exact hH.2.2.2.2.2.2.2.2.1 | exact hH10.2.2.2.2.2.2.2.2.1)).mono ?_
    rintro e w1 ⟨rfl, rfl⟩
    go_wp2_with fail
    refine hK5.out _ _ hH10 (fun hH5 => ?_)
    clear hK5 K5
    try simp only [Act.put, List.getElem_toArray, List.getElem_cons_succ, List.getElem_cons_zero, List.setIfInBounds_toArray, List.set_cons_zero, List.set_cons_succ]
    refine wpAnyH_take (i := 6) (v := .string ((ByteArray.mk s.toArray) ++ (ByteArray.mk #[32]) ++ (ByteArray.mk G.toArray))) rfl (by kernel_rfl) (by kernel_rfl) (by kernel_rfl) (fun _ _ _ h => h) (Or.inl ⟨by kernel_rfl, ?_⟩) (by assumption) ?_
    · intro w' hSw; (try dsimp only at hSw); go_simp; omega
    try simp only [Act.put, List.getElem_toArray, List.getElem_cons_succ, List.getElem_cons_zero, List.setIfInBounds_toArray, List.set_cons_zero, List.set_cons_succ]
    refine wpAnyH_take (i := 7) (v := .string ((ByteArray.mk s.toArray) ++ (ByteArray.mk #[32]) ++ (ByteArray.mk G.toArray) ++ (ByteArray.mk #[32]))) rfl (by kernel_rfl) (by kernel_rfl) (by kernel_rfl) (fun _ _ _ h => h) (Or.inl ⟨by kernel_rfl, ?_⟩) (by assumption) ?_
    · intro w' hSw; (try dsimp only at hSw); go_simp; omega
    try simp only [Act.put, List.getElem_toArray, List.getElem_cons_succ, List.getElem_cons_zero, List.setIfInBounds_toArray, List.set_cons_zero, List.set_cons_succ]
    refine wpAnyH_ready (rs := [11]) (by kernel_rfl) (by simp) ?_
    refine AllReadyH.cons rfl (fun K11 hK11 => ?_) AllReadyH.nil
    go_simp
    go_at_call 97
    refine (HCP.out _ _ (by simp) HBA.out).mono ?_
    rintro e w2 ⟨rfl, hb2⟩
    have hb3 : Below (w.alloc (.cells #[.int .i64 16, .int .i64 many, .string ⟨name.toArray⟩, .string ⟨s.toArray⟩, .int .i64 n, .int .i64 c.kind, .int .i64 c.many, .string ⟨c.name.toArray⟩, .string ⟨c.s.toArray⟩, .bool c.neg, .int .i64 c.e] 47)).heap.size (w.alloc (.cells #[.int .i64 16, .int .i64 many, .string ⟨name.toArray⟩, .string ⟨s.toArray⟩, .int .i64 n, .int .i64 c.kind, .int .i64 c.many, .string ⟨c.name.toArray⟩, .string ⟨c.s.toArray⟩, .bool c.neg, .int .i64 c.e] 47)) w2 := ⟨hb2.os, hb2.tape, hb2.output, hb2.size, hb2.block⟩
    go_wp2_with fail
    refine hK11.out _ _ (HST.out _ hb3) (fun hH11 => ?_)
    clear hK11 K11
    try simp only [Act.put, List.getElem_toArray, List.getElem_cons_succ, List.getElem_cons_zero, List.setIfInBounds_toArray, List.set_cons_zero, List.set_cons_succ]
    refine wpAnyH_take (i := 12) (v := .string ((ByteArray.mk s.toArray) ++ (ByteArray.mk #[32]) ++ (ByteArray.mk G.toArray) ++ (ByteArray.mk #[32]) ++ (ByteArray.mk K.toArray))) rfl (by kernel_rfl) (by kernel_rfl) (by kernel_rfl) (fun _ _ _ h => h) (Or.inl ⟨by kernel_rfl, ?_⟩) (by assumption) ?_
    · intro w' hSw; (try dsimp only at hSw); go_simp; omega
    try simp only [Act.put, List.getElem_toArray, List.getElem_cons_succ, List.getElem_cons_zero, List.setIfInBounds_toArray, List.set_cons_zero, List.set_cons_succ]
    refine wpAnyH_take (i := 13) (v := .string ((ByteArray.mk s.toArray) ++ (ByteArray.mk #[32]) ++ (ByteArray.mk G.toArray) ++ (ByteArray.mk #[32]) ++ (ByteArray.mk K.toArray))) rfl (by kernel_rfl) (by kernel_rfl) (by kernel_rfl) (fun _ _ _ h => h) (Or.inl ⟨by kernel_rfl, ?_⟩) (by assumption) ?_
    · intro w' hSw; (try dsimp only at hSw); go_simp
    try simp only [Act.put, List.getElem_toArray, List.getElem_cons_succ, List.getElem_cons_zero, List.setIfInBounds_toArray, List.set_cons_zero, List.set_cons_succ]
    refine wpAnyH_take (i := 14) (v := .string ⟨#[]⟩) rfl (by kernel_rfl) (by kernel_rfl) (by kernel_rfl) (fun _ _ _ h => h) (Or.inl ⟨by kernel_rfl, ?_⟩) (by assumption) ?_
    · intro w' hSw; (try dsimp only at hSw); go_simp
    try simp only [Act.put, List.getElem_toArray, List.getElem_cons_succ, List.getElem_cons_zero, List.setIfInBounds_toArray, List.set_cons_zero, List.set_cons_succ]
    refine wpAnyH_take (i := 15) (v := .string ⟨#[]⟩) rfl (by kernel_rfl) (by kernel_rfl) (by kernel_rfl) (fun _ _ _ h => h) (Or.inl ⟨by kernel_rfl, ?_⟩) (by assumption) ?_
    · intro w' hSw; (try dsimp only at hSw); go_simp
    try simp only [Act.put, List.getElem_toArray, List.getElem_cons_succ, List.getElem_cons_zero, List.setIfInBounds_toArray, List.set_cons_zero, List.set_cons_succ]
    refine wpAnyH_done (by kernel_rfl) ?_ _
    go_wp2_with fail
    go_ret3
    exact ⟨by rw [HX.out]; rfl, HBW.out.trans (hb3.mono HBW.out.size)⟩
set_option maxRecDepth 100000 in
set_option maxHeartbeats 4000000 in
theorem marks_any (t : Tm) (w : World) (h0 : 0 ≤ t.op) (h19 : t.op ≤ 19) (hs : t.s.length ≤ 1000000) (hn0 : -9223372036854775808 ≤ t.n) (hn1 : t.n ≤ 9223372036854775807) (hC : t.op = 16 → FitK t.c ∧ 0 ≤ t.n ∧ t.n ≤ 5) (hP : PowTab w) (hW : Wds w) (hS : Sgs w) :
    Calls Tryz.prog 62 #[tma t] w (MkE w t) := by
  obtain ⟨op, many, name, s, n, c⟩ := t
  simp only at *
  by_cases h16 : op = 16
  · subst h16
    obtain ⟨hK, hn, hn5⟩ := hC rfl
    exact marks16_any many n name s c w hs hn hn5 hK hP hW hS
  have hB : Below w.heap.size w w := Below.refl _ _
  have HF := Lib.hid (fun W hT => fieldText_any s W hs hT)
  have hfl := fieldT_len s
  have HI := Lib.hid (fun W hT => Tryz.strconv_Itoa n hn0 hn1 W hT)
  have hil := Lib.itoa_length_le n hn0 hn1
  have hBa : ∀ o : Obj, Below w.heap.size w (w.alloc o) := fun o => hB.alloc (Nat.le_refl _) o
  have HBA := Lib.hid hBa
  have HP := Lib.hid (fun o => hP.below (hBa o))
  unfold MkE
  have h := op_cases ⟨h0, h19⟩
  clear h0 h19 hBa hB hC hP hW hS
  rcases h with rfl | rfl | rfl | rfl | rfl | rfl | rfl | rfl | rfl | rfl | rfl | rfl | rfl | rfl | rfl | rfl | rfl | rfl | rfl | rfl
  · clear h16
    go_enter Tryz.func62, Tryz.ntmps62
    go_wp2_with fail
    go_ret3
    exact ⟨rfl, HBA.out _⟩
  · clear h16
    have HX : Hid (aheadT ⟨1, many, name, s, n, c⟩ = fieldT s) := Lib.hid rfl
    generalize aheadT ⟨1, many, name, s, n, c⟩ = R at *
    generalize fieldT s = ft at *
    go_enter Tryz.func62, Tryz.ntmps62
    go_wp2_with fail
    refine (HF.out _ (HP.out _)).mono ?_
    rintro e w1 ⟨rfl, hb1⟩
    go_wp2_with fail
    go_ret3
    exact ⟨by rw [HX.out]; rfl, (HBA.out _).trans (hb1.mono (by simp))⟩
  · clear h16
    have HX : Hid ((ByteArray.mk #[46, 91]) ++ (ByteArray.mk (Lib.itoa n).toArray) ++ (ByteArray.mk #[93]) = ⟨(aheadT ⟨2, many, name, s, n, c⟩).toArray⟩) := Lib.hid (ByteArray.ext (by simp [aheadT]))
    generalize aheadT ⟨2, many, name, s, n, c⟩ = R at *
    generalize Lib.itoa n = it at *
    go_enter Tryz.func62, Tryz.ntmps62
    go_wp2_with fail
    refine (HI.out _ (HP.out _)).mono ?_
    rintro e w1 ⟨rfl, k, os, rfl⟩
    have HB1 : Hid (Below w.heap.size w (Sort.grow ((w.alloc (.cells #[.int .i64 2, .int .i64 many, .string ⟨name.toArray⟩, .string ⟨s.toArray⟩, .int .i64 n, .int .i64 c.kind, .int .i64 c.many, .string ⟨c.name.toArray⟩, .string ⟨c.s.toArray⟩, .bool c.neg, .int .i64 c.e] 47)).drewN k) os)) := Lib.hid ((HBA.out _).trans ((grow_below' _ k os).mono (HBA.out _).size))
    generalize Sort.grow ((w.alloc (.cells #[.int .i64 2, .int .i64 many, .string ⟨name.toArray⟩, .string ⟨s.toArray⟩, .int .i64 n, .int .i64 c.kind, .int .i64 c.many, .string ⟨c.name.toArray⟩, .string ⟨c.s.toArray⟩, .bool c.neg, .int .i64 c.e] 47)).drewN k) os = w1 at *
    go_wp2_with fail
    go_ret3
    exact ⟨by rw [HX.out]; rfl, HB1.out⟩
  · clear h16
    have HX : Hid ((ByteArray.mk #[46, 91]) ++ (ByteArray.mk (Lib.itoa n).toArray) ++ (ByteArray.mk #[58, 93]) = ⟨(aheadT ⟨3, many, name, s, n, c⟩).toArray⟩) := Lib.hid (ByteArray.ext (by simp [aheadT]))
    generalize aheadT ⟨3, many, name, s, n, c⟩ = R at *
    generalize Lib.itoa n = it at *
    go_enter Tryz.func62, Tryz.ntmps62
    go_wp2_with fail
    refine (HI.out _ (HP.out _)).mono ?_
    rintro e w1 ⟨rfl, k, os, rfl⟩
    have HB1 : Hid (Below w.heap.size w (Sort.grow ((w.alloc (.cells #[.int .i64 3, .int .i64 many, .string ⟨name.toArray⟩, .string ⟨s.toArray⟩, .int .i64 n, .int .i64 c.kind, .int .i64 c.many, .string ⟨c.name.toArray⟩, .string ⟨c.s.toArray⟩, .bool c.neg, .int .i64 c.e] 47)).drewN k) os)) := Lib.hid ((HBA.out _).trans ((grow_below' _ k os).mono (HBA.out _).size))
    generalize Sort.grow ((w.alloc (.cells #[.int .i64 3, .int .i64 many, .string ⟨name.toArray⟩, .string ⟨s.toArray⟩, .int .i64 n, .int .i64 c.kind, .int .i64 c.many, .string ⟨c.name.toArray⟩, .string ⟨c.s.toArray⟩, .bool c.neg, .int .i64 c.e] 47)).drewN k) os = w1 at *
    go_wp2_with fail
    go_ret3
    exact ⟨by rw [HX.out]; rfl, HB1.out⟩
  · clear h16
    go_enter Tryz.func62, Tryz.ntmps62
    go_wp2_with fail
    go_ret3
    exact ⟨rfl, HBA.out _⟩
  · clear h16
    go_enter Tryz.func62, Tryz.ntmps62
    go_wp2_with fail
    go_ret3
    exact ⟨rfl, HBA.out _⟩
  · clear h16
    go_enter Tryz.func62, Tryz.ntmps62
    go_wp2_with fail
    go_ret3
    exact ⟨rfl, HBA.out _⟩
  · clear h16
    go_enter Tryz.func62, Tryz.ntmps62
    go_wp2_with fail
    go_ret3
    exact ⟨rfl, HBA.out _⟩
  · clear h16
    go_enter Tryz.func62, Tryz.ntmps62
    go_wp2_with fail
    go_ret3
    exact ⟨rfl, HBA.out _⟩
  · clear h16
    go_enter Tryz.func62, Tryz.ntmps62
    go_wp2_with fail
    go_ret3
    exact ⟨rfl, HBA.out _⟩
  · clear h16
    go_enter Tryz.func62, Tryz.ntmps62
    go_wp2_with fail
    go_ret3
    exact ⟨rfl, HBA.out _⟩
  · clear h16
    go_enter Tryz.func62, Tryz.ntmps62
    go_wp2_with fail
    go_ret3
    exact ⟨rfl, HBA.out _⟩
  · clear h16
    have HX : Hid ((ByteArray.mk #[103, 114, 111, 117, 112, 95, 98, 121, 40]) ++ (ByteArray.mk s.toArray) ++ (ByteArray.mk #[41]) = ⟨(aheadT ⟨12, many, name, s, n, c⟩).toArray⟩) := Lib.hid (ByteArray.ext (by simp [aheadT]))
    generalize aheadT ⟨12, many, name, s, n, c⟩ = R at *
    go_enter Tryz.func62, Tryz.ntmps62
    go_wp2_with fail
    go_ret3
    exact ⟨by rw [HX.out]; rfl, HBA.out _⟩
  · clear h16
    have HX : Hid ((ByteArray.mk #[115, 111, 114, 116, 95, 98, 121, 40]) ++ (ByteArray.mk s.toArray) ++ (ByteArray.mk #[41]) = ⟨(aheadT ⟨13, many, name, s, n, c⟩).toArray⟩) := Lib.hid (ByteArray.ext (by simp [aheadT]))
    generalize aheadT ⟨13, many, name, s, n, c⟩ = R at *
    go_enter Tryz.func62, Tryz.ntmps62
    go_wp2_with fail
    go_ret3
    exact ⟨by rw [HX.out]; rfl, HBA.out _⟩
  · clear h16
    go_enter Tryz.func62, Tryz.ntmps62
    go_wp2_with fail
    go_ret3
    exact ⟨rfl, HBA.out _⟩
  · clear h16
    have HX : Hid ((ByteArray.mk #[100, 101, 108, 40]) ++ (ByteArray.mk s.toArray) ++ (ByteArray.mk #[41]) = ⟨(aheadT ⟨15, many, name, s, n, c⟩).toArray⟩) := Lib.hid (ByteArray.ext (by simp [aheadT]))
    generalize aheadT ⟨15, many, name, s, n, c⟩ = R at *
    go_enter Tryz.func62, Tryz.ntmps62
    go_wp2_with fail
    go_ret3
    exact ⟨by rw [HX.out]; rfl, HBA.out _⟩
  · exact absurd rfl h16
  · clear h16
    go_enter Tryz.func62, Tryz.ntmps62
    go_wp2_with fail
    go_ret3
    exact ⟨rfl, HBA.out _⟩
  · clear h16
    go_enter Tryz.func62, Tryz.ntmps62
    go_wp2_with fail
    go_ret3
    exact ⟨rfl, HBA.out _⟩
  · clear h16
    go_enter Tryz.func62, Tryz.ntmps62
    go_wp2_with fail
    go_ret3
    exact ⟨rfl, HBA.out _⟩
end Go.Proofs.YtdgcdemihalefaaGreatDoor
namespace Go.Proofs.YtdgcdemihalefaaGreatDoor
open Go.RowKit Np Rw Vp Up Qp Pw
set_option maxRecDepth 100000 in
set_option maxHeartbeats 8000000 in
theorem refStep_qWord (s : ByteArray) (i : Nat) (first : Bool) (w : World) (hs : s.size ≤ 1000000) (hlt3 : i + 1 < s.size) (h46 : s[i]'(by omega) = 46) (h34 : s[i + 1] = 34) (nm : List UInt8) (n : Nat) (ee : Int) (hu : unqs (s.data.toList.drop (i + 1)) = (nm, n, ee)) (hee : ee = 0) (hW : isW nm = true) :
    Calls Tryz.prog 208 #[.string s, .int .i64 i, .bool first] w fun e w' => e = .returned (stpV i (none)) ∧ Below w.heap.size w w' := by
  have hb0 : Below w.heap.size w (w.alloc (.cells #[.bool false, .string ⟨#[]⟩, .int .i64 0] 71)) := (Below.refl _ _).alloc (Nat.le_refl _) _
  have HB0 := Lib.hid hb0
  clear hb0
  have hlt : i < s.size := by omega
  have h46b : ((s[i].toNat : Int) == 46) = true := by rw [h46]; rfl
  have h91b : ((s[i + 1].toNat : Int) == 91) = false := by rw [h34]; rfl
  have h91c : ((s[i + 1].toNat : Int) != 91) = true := by rw [h34]; rfl
  have HEX : Hid (∀ m, (s.extract (i + 1) (i + 1 + m)).data.toList = (s.data.toList.drop (i + 1)).take m) := Lib.hid (fun m => by
    have h := Lib.extract_toList s (i + 1) (i + 1 + m)
    rw [ByteArray.toList_eq, Nat.add_sub_cancel_left] at h
    exact h)
  have HRL : Hid ((s.data.toList.drop (i + 1)).length = s.size - (i + 1)) := Lib.hid (by rw [List.length_drop, size_toList])
  have hr2 : s.data.toList.drop (i + 1) = 34 :: s.data.toList.drop (i + 1 + 1) := by
    rw [List.drop_eq_getElem_cons (by rw [size_toList]; exact hlt3)]
    have : s.data.toList[i + 1]'(by rw [size_toList]; exact hlt3) = 34 := h34
    rw [this]
  have HWJ : Hid (∀ W, Calls Tryz.prog 66 #[.string (s.extract (i + 1) (i + 1 + 1))] W fun e w' => e = .returned (.bool false) ∧ w' = W) := Lib.hid (fun W => by
    have h := refWordP_any (s.extract (i + 1) (i + 1 + 1)) W (by rw [ByteArray.size_extract]; unfold maxLen; omega)
    rw [HEX.out 1, hr2] at h
    exact h)
  have HUQ : Hid (∀ W, Calls Tryz.prog 237 #[.string (s.extract (i + 1) s.size)] W fun e w' => e = .returned (.tuple #[.string ⟨nm.toArray⟩, .int .i64 (n : Int), .int .i64 ee]) ∧ Below W.heap.size W w') := Lib.hid (fun W => by
    have h := refUnquote_any (s.extract (i + 1) s.size) W (by rw [ByteArray.size_extract]; omega)
    have e : (s.extract (i + 1) s.size).data.toList = s.data.toList.drop (i + 1) := by
      have := HEX.out (s.size - (i + 1))
      rw [show i + 1 + (s.size - (i + 1)) = s.size by omega] at this
      rw [this, List.take_of_length_le (by rw [HRL.out]; omega)]
    rw [e, hu] at h
    exact h)
  have hgood := unqs_good (s.data.toList.drop (i + 1))
  have hnl := unqs_len (s.data.toList.drop (i + 1))
  rw [hu] at hgood hnl
  simp only at hgood hnl
  have hRL := HRL.out
  have HWM : Hid (∀ W, Calls Tryz.prog 66 #[.string ⟨nm.toArray⟩] W fun e w' => e = .returned (.bool true) ∧ Below W.heap.size W w') := Lib.hid (fun W => by
    have h := refWordP_any ⟨nm.toArray⟩ W (by rw [mk_size]; have := hnl hee; unfold maxLen; omega)
    rw [mk_data, hW] at h
    exact h.mono fun e w' ⟨h1, h2⟩ => ⟨h1, by rw [h2]; exact Below.refl _ _⟩)
  subst hee
  clear h46 h34 hr2 HRL hRL hgood hnl hu HEX
  go_enter Tryz.func208, Tryz.ntmps208
  go_wp2_with fail
  go_loopw [9] (fun kv wr => kv = .int .i64 ((i + 1 : Nat) : Int) ∧ wr = w.alloc stepZ) (fun kv _ => s.size - (intOf kv).toNat)
  case atStart => exact ⟨by simp, rfl⟩
  case round =>
    obtain ⟨rfl, rfl⟩ := hrel
    go_wp2_with fail
    refine (HWJ.out _).mono ?_
    rintro e wf ⟨rfl, rfl⟩
    go_wp2_with fail
    refine (HUQ.out _).mono ?_
    rintro e w1 ⟨rfl, hb1⟩
    have HB1 : Hid (Below w.heap.size w w1) := Lib.hid (HB0.out.trans (hb1.mono HB0.out.size))
    obtain ⟨hz4, k0, k1, k2, hfz, hfz2⟩ := new_step (W := w.alloc stepZ) (b := w.heap.size) (heap_alloc_new w stepZ) hb1
    clear hb1
    have HQS : Hid (Qs w w1) := Lib.hid ⟨hfz2, HB1.out⟩
    have HQD : Hid (Qs w w1.drew) := Lib.hid (Qs.step HQS.out (Below.refl _ _).drew)
    clear hfz2 hz4 k0 k1 k2 hfz
    go_upto_region 10 with fail
    refine wp_region_held_drew (S := (fun w' => w'.heap[w.heap.size]? = some stepZ ∧ Below w.heap.size w w')) (by kernel_rfl) (HQD.out) (fun hH => ?_)
    refine wpAnyH_take (i := 0) (v := .int .i64 0) rfl (by kernel_rfl) (by kernel_rfl) (by kernel_rfl) (fun _ _ _ h => h) (Or.inl ⟨by kernel_rfl, ?_⟩) (by assumption) ?_
    · intro w' hSw; (try dsimp only at hSw); go_simp
    try simp only [Act.put, List.getElem_toArray, List.getElem_cons_zero, List.setIfInBounds_toArray, List.set_cons_zero, List.set_cons_succ]
    refine wpAnyH_take (i := 1) (v := .bool true) rfl (by kernel_rfl) (by kernel_rfl) (by kernel_rfl) (fun _ _ _ h => h) (Or.inl ⟨by kernel_rfl, ?_⟩) (by assumption) ?_
    · intro w' hSw; (try dsimp only at hSw); go_simp
    try simp only [Act.put, List.getElem_toArray, List.getElem_cons_succ, List.getElem_cons_zero, List.setIfInBounds_toArray, List.set_cons_zero, List.set_cons_succ]
    refine wpAnyH_take (i := 2) (v := .bool true) rfl (by kernel_rfl) (by kernel_rfl) (by kernel_rfl) (fun _ _ _ h => h) (Or.inl ⟨by kernel_rfl, ?_⟩) (by assumption) ?_
    · intro w' hSw; (try dsimp only at hSw); go_simp
    try simp only [Act.put, List.getElem_toArray, List.getElem_cons_succ, List.getElem_cons_zero, List.setIfInBounds_toArray, List.set_cons_zero, List.set_cons_succ]
    refine wpAnyH_take (i := 3) (v := .string ⟨nm.toArray⟩) rfl (by kernel_rfl) (by kernel_rfl) (by kernel_rfl) (fun _ _ _ h => h) (Or.inl ⟨by kernel_rfl, ?_⟩) (by assumption) ?_
    · intro w' hSw; (try dsimp only at hSw); go_simp
    try simp only [Act.put, List.getElem_toArray, List.getElem_cons_succ, List.getElem_cons_zero, List.setIfInBounds_toArray, List.set_cons_zero, List.set_cons_succ]
    refine wpAnyH_ready (rs := [4]) (by kernel_rfl) (by simp) ?_
    refine AllReadyH.cons rfl (fun K4 hK4 => ?_) AllReadyH.nil
    go_simp
    go_at_call 66
    refine (HWM.out _).mono ?_
    rintro e w3 ⟨rfl, hb3⟩
    go_wp2_with fail
    refine hK4.out _ _ (Qs.step HQD.out hb3) (fun hHeld4 => ?_)
    clear hK4 K4
    try simp only [Act.put, List.getElem_toArray, List.getElem_cons_succ, List.getElem_cons_zero, List.setIfInBounds_toArray, List.set_cons_zero, List.set_cons_succ]
    refine wpAnyH_take (i := 5) (v := .bool false) rfl (by kernel_rfl) (by kernel_rfl) (by kernel_rfl) (fun _ _ _ h => h) (Or.inl ⟨by kernel_rfl, ?_⟩) (by assumption) ?_
    · intro w' hSw; (try dsimp only at hSw); go_simp
    try simp only [Act.put, List.getElem_toArray, List.getElem_cons_succ, List.getElem_cons_zero, List.setIfInBounds_toArray, List.set_cons_zero, List.set_cons_succ]
    refine wpAnyH_take (i := 6) (v := .bool false) rfl (by kernel_rfl) (by kernel_rfl) (by kernel_rfl) (fun _ _ _ h => h) (Or.inl ⟨by kernel_rfl, ?_⟩) (by assumption) ?_
    · intro w' hSw; (try dsimp only at hSw); go_simp
    try simp only [Act.put, List.getElem_toArray, List.getElem_cons_succ, List.getElem_cons_zero, List.setIfInBounds_toArray, List.set_cons_zero, List.set_cons_succ]
    refine wpAnyH_take (i := 7) (v := .bool false) rfl (by kernel_rfl) (by kernel_rfl) (by kernel_rfl) (fun _ _ _ h => h) (Or.inl ⟨by kernel_rfl, ?_⟩) (by assumption) ?_
    · intro w' hSw; (try dsimp only at hSw); go_simp
    try simp only [Act.put, List.getElem_toArray, List.getElem_cons_succ, List.getElem_cons_zero, List.setIfInBounds_toArray, List.set_cons_zero, List.set_cons_succ]
    refine wpAnyH_take (i := 8) (v := undef) rfl (by kernel_rfl) (by kernel_rfl) (by kernel_rfl) (fun _ _ _ h => h) (Or.inr ⟨by kernel_rfl, rfl⟩) (by assumption) ?_
    try simp only [Act.put, List.getElem_toArray, List.getElem_cons_succ, List.getElem_cons_zero, List.setIfInBounds_toArray, List.set_cons_zero, List.set_cons_succ]
    refine wpAnyH_take (i := 9) (v := undef) rfl (by kernel_rfl) (by kernel_rfl) (by kernel_rfl) (fun _ _ _ h => h) (Or.inr ⟨by kernel_rfl, rfl⟩) (by assumption) ?_
    try simp only [Act.put, List.getElem_toArray, List.getElem_cons_succ, List.getElem_cons_zero, List.setIfInBounds_toArray, List.set_cons_zero, List.set_cons_succ]
    refine wpAnyH_take (i := 10) (v := undef) rfl (by kernel_rfl) (by kernel_rfl) (by kernel_rfl) (fun _ _ _ h => h) (Or.inr ⟨by kernel_rfl, rfl⟩) (by assumption) ?_
    try simp only [Act.put, List.getElem_toArray, List.getElem_cons_succ, List.getElem_cons_zero, List.setIfInBounds_toArray, List.set_cons_zero, List.set_cons_succ]
    refine wpAnyH_take (i := 11) (v := undef) rfl (by kernel_rfl) (by kernel_rfl) (by kernel_rfl) (fun _ _ _ h => h) (Or.inr ⟨by kernel_rfl, rfl⟩) (by assumption) ?_
    try simp only [Act.put, List.getElem_toArray, List.getElem_cons_succ, List.getElem_cons_zero, List.setIfInBounds_toArray, List.set_cons_zero, List.set_cons_succ]
    refine wpAnyH_take (i := 12) (v := undef) rfl (by kernel_rfl) (by kernel_rfl) (by kernel_rfl) (fun _ _ _ h => h) (Or.inr ⟨by kernel_rfl, rfl⟩) (by assumption) ?_
    try simp only [Act.put, List.getElem_toArray, List.getElem_cons_succ, List.getElem_cons_zero, List.setIfInBounds_toArray, List.set_cons_zero, List.set_cons_succ]
    refine wpAnyH_take (i := 13) (v := undef) rfl (by kernel_rfl) (by kernel_rfl) (by kernel_rfl) (fun _ _ _ h => h) (Or.inr ⟨by kernel_rfl, rfl⟩) (by assumption) ?_
    try simp only [Act.put, List.getElem_toArray, List.getElem_cons_succ, List.getElem_cons_zero, List.setIfInBounds_toArray, List.set_cons_zero, List.set_cons_succ]
    refine wpAnyH_take (i := 14) (v := undef) rfl (by kernel_rfl) (by kernel_rfl) (by kernel_rfl) (fun _ _ _ h => h) (Or.inr ⟨by kernel_rfl, rfl⟩) (by assumption) ?_
    try simp only [Act.put, List.getElem_toArray, List.getElem_cons_succ, List.getElem_cons_zero, List.setIfInBounds_toArray, List.set_cons_zero, List.set_cons_succ]
    refine wpAnyH_take (i := 15) (v := undef) rfl (by kernel_rfl) (by kernel_rfl) (by kernel_rfl) (fun _ _ _ h => h) (Or.inr ⟨by kernel_rfl, rfl⟩) (by assumption) ?_
    try simp only [Act.put, List.getElem_toArray, List.getElem_cons_succ, List.getElem_cons_zero, List.setIfInBounds_toArray, List.set_cons_zero, List.set_cons_succ]
    refine wpAnyH_take (i := 16) (v := undef) rfl (by kernel_rfl) (by kernel_rfl) (by kernel_rfl) (fun _ _ _ h => h) (Or.inr ⟨by kernel_rfl, rfl⟩) (by assumption) ?_
    try simp only [Act.put, List.getElem_toArray, List.getElem_cons_succ, List.getElem_cons_zero, List.setIfInBounds_toArray, List.set_cons_zero, List.set_cons_succ]
    refine wpAnyH_take (i := 17) (v := .bool false) rfl (by kernel_rfl) (by kernel_rfl) (by kernel_rfl) (fun _ _ _ h => h) (Or.inl ⟨by kernel_rfl, ?_⟩) (by assumption) ?_
    · intro w' hSw; (try dsimp only at hSw); go_simp
    try simp only [Act.put, List.getElem_toArray, List.getElem_cons_succ, List.getElem_cons_zero, List.setIfInBounds_toArray, List.set_cons_zero, List.set_cons_succ]
    refine wpAnyH_done (by kernel_rfl) ?_ _
    obtain ⟨k0, k1, k2, hfz, hz4⟩ := Qs.cells (by assumption : Qs w w3)
    have HB9 := Lib.hid (by assumption : Qs w w3).2
    cases first with
    | true =>
      go_wp2_with fail
      all_goals exact bodyPost_ret (v := .tuple #[sta ⟨false, [], 0⟩, .int .i64 (i : Int)]) (by simp [results, Tryz.results208, go_sem, k0, k1, k2]) rfl ⟨rfl, by first | exact ((HB9.out.setCell (Nat.le_refl _) _).setCell (Nat.le_refl _) _).setCell (Nat.le_refl _) _ | exact (((drewN_below HB9.out _).setCell (Nat.le_refl _) _).setCell (Nat.le_refl _) _).setCell (Nat.le_refl _) _ | exact drewN_below HB9.out _ | trace_state⟩
    | false =>
      go_wp2_with fail
      all_goals exact bodyPost_ret (v := .tuple #[sta ⟨false, [], 0⟩, .int .i64 (i : Int)]) (by simp [results, Tryz.results208, go_sem, k0, k1, k2]) rfl ⟨rfl, by first | exact ((HB9.out.setCell (Nat.le_refl _) _).setCell (Nat.le_refl _) _).setCell (Nat.le_refl _) _ | exact (((drewN_below HB9.out _).setCell (Nat.le_refl _) _).setCell (Nat.le_refl _) _).setCell (Nat.le_refl _) _ | exact drewN_below HB9.out _ | trace_state⟩
end Go.Proofs.YtdgcdemihalefaaGreatDoor
namespace Go.Proofs.YtdgcdemihalefaaGreatDoor
open Go.RowKit Np Rw Vp Up Qp Tp
theorem Kb.grownBy {B rb : Nat} {w w' : World} (h : Kb B rb w w') (hB : w.heap.size ≤ B) : w.grownBy w' (some rb) :=
  ⟨h.os, h.tape, h.output, h.size, fun k hk hne => h.block k (by omega) (fun e => hne (by rw [e]))⟩
def Box (b T : Nat) (v : Value) (w : World) : Prop := w.heap[b]? = some (.cells #[v] T (0, 0))
section
variable {b T : Nat} {v : Value} {w w' : World}
theorem Box.lt (h : Box b T v w) : b < w.heap.size := (Array.getElem?_eq_some_iff.1 h).1
theorem Box.c (h : Box b T v w) : w.cell? ⟨b, 0, none⟩ = some v := cell_of_one h
theorem Box.below {B : Nat} (h : Box b T v w) (hb : Below B w w') (hB : b < B) : Box b T v w' := (hb.block b hB).trans h
theorem Box.alloc (h : Box b T v w) (o : Obj) : Box b T v (w.alloc o) := (Below.heap_alloc w o b h.lt).trans h
theorem Box.drewN (h : Box b T v w) (n : Nat) : Box b T v (w.drewN n) := h
theorem Box.drew (h : Box b T v w) : Box b T v w.drew := h
theorem Box.new (w : World) (T : Nat) (v : Value) : Box w.heap.size T v (w.alloc (.cells #[v] T)) := heap_alloc_new w _
theorem Box.set (h : Box b T v w) (u : Value) : Box b T u (w.setCell ⟨b, 0, none⟩ u) := one_setCell h
theorem Box.other (h : Box b T v w) {p : Addr} (hp : p.block ≠ b) (u : Value) : Box b T v (w.setCell p u) := (Below.heap_setCell w p u b (Ne.symm hp)).trans h
theorem Box.grown {row : Option Nat} (h : Box b T v w) (hg : w.grownBy w' row) (hr : row ≠ some b) : Box b T v w' := (hg.block b h.lt (Ne.symm hr)).trans h
theorem Box.own {α : Type} {enc : α → List Value} {sz E base : Nat} {x : Value} {l : List α} (h : Box b T v w) (hE : E ≠ T) (ho : Own enc sz E base w x l) : x.ownBlock ≠ some b := by
  rcases ho.2 with ⟨rfl, _⟩ | ⟨g, cap, cur, rfl, _, hh, _⟩
  · intro e; cases e
  · intro e
    have e1 : g = b := by simpa [Value.ownBlock] using e
    subst e1
    unfold Box at h
    rw [h] at hh
    injection hh with hh
    injection hh with _ h2 _
    exact hE h2.symm
end
end Go.Proofs.YtdgcdemihalefaaGreatDoor
