/-
  Joined: FwM, QUnq, PaB4, Pa4, PaB5.
-/
import Derived.Test.YtldioobbfkaebaaGreatDoorEvalHoldsJ7
import Derived.Test.YtldioobbfkaebaaGreatDoorEvalHoldsJ8
import Derived.Test.YtldioobbfkaebaaGreatDoorEvalHoldsJ6
import Derived.Test.YtldioobbfkaebaaGreatDoorEvalHoldsJ5
import Derived.Test.YtldioobbfkaebaaGreatDoorEvalHoldsJ3
import Derived.Lib.AtoiAllMem
set_option maxHeartbeats 8000000
set_option maxRecDepth 100000
namespace Go.Proofs.YtldioobbfkaebaaGreatDoor
section
open Go.RowKit Np Rw Vp Pw Fw
abbrev tma (t : Tm) : Value := .agg #[.int .i64 t.op, .int .i64 t.many, .string ⟨t.name.toArray⟩, .string ⟨t.s.toArray⟩, .int .i64 t.n, .int .i64 t.c.kind, .int .i64 t.c.many, .string ⟨t.c.name.toArray⟩, .string ⟨t.c.s.toArray⟩, .bool t.c.neg, .int .i64 t.c.e]
def tmc (t : Tm) : List Value := [.int .i64 t.op, .int .i64 t.many, .string ⟨t.name.toArray⟩, .string ⟨t.s.toArray⟩, .int .i64 t.n, .int .i64 t.c.kind, .int .i64 t.c.many, .string ⟨t.c.name.toArray⟩, .string ⟨t.c.s.toArray⟩, .bool t.c.neg, .int .i64 t.c.e]
theorem tmc_len (t : Tm) : (tmc t).length = 11 := rfl
abbrev Tms (w : World) (v : Value) (l : List Tm) : Prop := Row tmc 11 w v l
abbrev Fls (w : World) (v : Value) (L : List (List Tm)) : Prop := Rowz tmc 11 w v L
structure Tm11 (w : World) (g o : Nat) (t : Tm) : Prop where
 c0 : w.cell? ⟨g, o, none⟩ = some (.int .i64 t.op)
 c1 : w.cell? ⟨g, o + 1, none⟩ = some (.int .i64 t.many)
 c2 : w.cell? ⟨g, o + 2, none⟩ = some (.string ⟨t.name.toArray⟩)
 c3 : w.cell? ⟨g, o + 3, none⟩ = some (.string ⟨t.s.toArray⟩)
 c4 : w.cell? ⟨g, o + 4, none⟩ = some (.int .i64 t.n)
 c5 : w.cell? ⟨g, o + 5, none⟩ = some (.int .i64 t.c.kind)
 c6 : w.cell? ⟨g, o + 6, none⟩ = some (.int .i64 t.c.many)
 c7 : w.cell? ⟨g, o + 7, none⟩ = some (.string ⟨t.c.name.toArray⟩)
 c8 : w.cell? ⟨g, o + 8, none⟩ = some (.string ⟨t.c.s.toArray⟩)
 c9 : w.cell? ⟨g, o + 9, none⟩ = some (.bool t.c.neg)
 c10 : w.cell? ⟨g, o + 10, none⟩ = some (.int .i64 t.c.e)
theorem CellsAt.tm {w : World} {g o : Nat} {t : Tm} (h : CellsAt w g o (tmc t)) : Tm11 w g o t := ⟨h 0 _ rfl, h 1 _ rfl, h 2 _ rfl, h 3 _ rfl, h 4 _ rfl, h 5 _ rfl, h 6 _ rfl, h 7 _ rfl, h 8 _ rfl, h 9 _ rfl, h 10 _ rfl⟩
theorem Tm11.below {w w' : World} {g o : Nat} {t : Tm} (h : Tm11 w g o t) (hg : g < w.heap.size) (hb : Below w.heap.size w w') : Tm11 w' g o t :=
 ⟨(hb.cell hg).trans h.c0, (hb.cell hg).trans h.c1, (hb.cell hg).trans h.c2, (hb.cell hg).trans h.c3, (hb.cell hg).trans h.c4, (hb.cell hg).trans h.c5, (hb.cell hg).trans h.c6, (hb.cell hg).trans h.c7, (hb.cell hg).trans h.c8, (hb.cell hg).trans h.c9, (hb.cell hg).trans h.c10⟩
theorem Tm11.low {B : Nat} {w w' : World} {g o : Nat} {t : Tm} (h : Tm11 w g o t) (hg : g < B) (hb : Below B w w') : Tm11 w' g o t :=
 ⟨(hb.cell (p := ⟨g, o, none⟩) hg).trans h.c0, (hb.cell (p := ⟨g, o + 1, none⟩) hg).trans h.c1, (hb.cell (p := ⟨g, o + 2, none⟩) hg).trans h.c2, (hb.cell (p := ⟨g, o + 3, none⟩) hg).trans h.c3, (hb.cell (p := ⟨g, o + 4, none⟩) hg).trans h.c4, (hb.cell (p := ⟨g, o + 5, none⟩) hg).trans h.c5, (hb.cell (p := ⟨g, o + 6, none⟩) hg).trans h.c6, (hb.cell (p := ⟨g, o + 7, none⟩) hg).trans h.c7, (hb.cell (p := ⟨g, o + 8, none⟩) hg).trans h.c8, (hb.cell (p := ⟨g, o + 9, none⟩) hg).trans h.c9, (hb.cell (p := ⟨g, o + 10, none⟩) hg).trans h.c10⟩
theorem Tm11.quiet {w w' : World} {g o : Nat} {t : Tm} (h : Tm11 w g o t) (hq : ∃ m, w' = w.drewN m) : Tm11 w' g o t := by
 obtain ⟨m, rfl⟩ := hq
 exact ⟨h.c0, h.c1, h.c2, h.c3, h.c4, h.c5, h.c6, h.c7, h.c8, h.c9, h.c10⟩
abbrev OwnT (base : Nat) (w : World) (v : Value) (l : List Tm) : Prop := Own tmc 11 32 base w v l
def OwnsT (w : World) (l : List Tm) (e : Ending) (w' : World) : Prop := ∃ v', e = .returned v' ∧ OwnT w.heap.size w' v' l ∧ Below w.heap.size w w'
theorem term_info : (Tryz.prog.info? 32).map (fun i => (i.zero, i.size, i.bytes)) = some (some (.agg #[.int .i64 0, .int .i64 0, .string ⟨#[]⟩, .string ⟨#[]⟩, .int .i64 0, .int .i64 0, .int .i64 0, .string ⟨#[]⟩, .string ⟨#[]⟩, .bool false, .int .i64 0]), 11, 120) := by kernel_rfl
theorem filter_info : (Tryz.prog.info? 23).map (fun i => (i.zero, i.size, i.bytes)) = some (some (.slice none 0 0), 1, 24) := by kernel_rfl
theorem elTerm : Elem Tryz.prog 23 32 tmc 11 120 := by
 obtain ⟨i, hi, hz0, hz1, hz2⟩ := info_parts term_info
 refine ⟨Tryz.underlying23, ⟨i, _, hi, hz0, hz1, hz2, rfl⟩, by decide, tmc_len, fun n u hu => ?_⟩
 simp only [tmc, List.mem_cons, List.not_mem_nil, or_false] at hu
 rcases hu with rfl | rfl | rfl | rfl | rfl | rfl | rfl | rfl | rfl | rfl | rfl <;> rfl
theorem elFilter : Elem Tryz.prog 33 23 slc 1 24 := by
 obtain ⟨i, hi, hz0, hz1, hz2⟩ := info_parts filter_info
 refine ⟨Tryz.underlying33, ⟨i, _, hi, hz0, hz1, hz2, rfl⟩, by decide, slc_len, fun n u hu => ?_⟩
 simp only [slc, List.mem_cons, List.not_mem_nil, or_false] at hu
 subst hu; rfl
theorem eql_tm (a b : Tm) (w : World) : (binOp .eql 32 (tma a) (tma b)).run Tryz.prog w = .ok (.bool (decide (a = b))) w := by
 obtain ⟨o, m, nm, s, n, k, y, z, u, g, e⟩ := a
 obtain ⟨o2, m2, nm2, s2, n2, k2, y2, z2, u2, g2, e2⟩ := b
 simp only [Tm.mk.injEq, Nd.mk.injEq]
 by_cases h0 : o = o2
 ·by_cases h1 : m = m2
  ·by_cases h2 : nm = nm2
   ·by_cases h3 : s = s2
    ·by_cases h4 : n = n2
     ·by_cases h5 : k = k2
      ·by_cases h6 : y = y2
       ·by_cases h7 : z = z2
        ·by_cases h8 : u = u2
         ·by_cases h9 : g = g2
          ·by_cases h10 : e = e2
           ·subst h0 h1 h2 h3 h4 h5 h6 h7 h8 h9 h10; simp [go_sem]
           ·subst h0 h1 h2 h3 h4 h5 h6 h7 h8 h9; simp [go_sem, h10]
          ·subst h0 h1 h2 h3 h4 h5 h6 h7 h8; simp [go_sem, h9]
         ·subst h0 h1 h2 h3 h4 h5 h6 h7; simp [go_sem, h8]
        ·subst h0 h1 h2 h3 h4 h5 h6; simp [go_sem, h7]
       ·subst h0 h1 h2 h3 h4 h5; simp [go_sem, h6]
      ·subst h0 h1 h2 h3 h4; simp [go_sem, h5]
     ·subst h0 h1 h2 h3; simp [go_sem, h4]
    ·subst h0 h1 h2; simp [go_sem, h3]
   ·subst h0 h1; simp [go_sem, h2]
  ·subst h0; simp [go_sem, h1]
 ·simp [go_sem, h0]
end
section
open Go.RowKit Go.Maps Np Up Qp
theorem pre34 (l : List UInt8) : Lib.hasPrefix l [34] = decide (bt l 0 = 34) := by
 cases l with
 | nil => rfl
 | cons c r =>
  rw [bt_cons, Bool.eq_iff_iff, decide_eq_true_eq]
  unfold Lib.hasPrefix
  simp [List.isPrefixOf, ← UInt8.toNat_inj]
  omega
theorem b34 : (ByteArray.mk #[34]).data.toList = [34] := rfl
def Ui (R : List UInt8 × Nat × Int) (l out : List UInt8) (frm pos : Nat) : Prop :=
 (pos < frm → frm ≤ l.length ∧ unq out (l.drop frm) frm = R ∧ ∀ j, pos ≤ j → j < frm → bt l j < 128) ∧ (frm ≤ pos → unq (out ++ (l.drop frm).take (pos - frm)) (l.drop pos) pos = R)
section
variable {R : List UInt8 × Nat × Int} {l out : List UInt8} {frm pos : Nat}
theorem Ui.skip (h : Ui R l out frm pos) (hp : pos < frm) : Ui R l out frm (pos + 1) := by
 obtain ⟨h1, h2, h3⟩ := h.1 hp
 refine ⟨fun hq => ⟨h1, h2, fun j hj hj2 => h3 j (by omega) hj2⟩, fun hq => ?_⟩
 obtain rfl : frm = pos + 1 := by omega
 rw [Nat.sub_self, List.take_zero, List.append_nil]
 exact h2
theorem Ui.mark (h : Ui R l out frm pos) (hp : frm ≤ pos) (hb : bt (l.drop pos) 0 = 34) : R = (out ++ (l.drop frm).take (pos - frm), pos + 1, 0) := by
 rw [← h.2 hp, unq_mark _ _ hb]
theorem Ui.bad (h : Ui R l out frm pos) (hp : frm ≤ pos) (hb : bt (l.drop pos) 0 ≠ 34) (ht : tk (l.drop pos) = none) : R = ([], pos, 1) := by
 rw [← h.2 hp, unq_bad _ _ hb ht]
theorem Ui.plain (h : Ui R l out frm pos) (hp : frm ≤ pos) (hl : l.drop pos ≠ []) (hb : bt (l.drop pos) 0 ≠ 34) (hb2 : bt (l.drop pos) 0 ≠ 92) (hb3 : 32 ≤ bt (l.drop pos) 0) {n : Nat} (hn : runeN (l.drop pos) = n) (hn0 : n ≠ 0) : Ui R l out frm (pos + n) := by
 refine ⟨fun hq => by omega, fun _ => ?_⟩
 have ht : tk (l.drop pos) = some ((l.drop pos).take n, n) := by
  rw [tk, if_neg hb2, hn, if_neg (by omega)]
 have h1 := h.2 hp
 rw [unq_step _ _ hl hb ht, List.drop_drop, List.append_assoc] at h1
 rw [show pos + n - frm = (pos - frm) + n by omega, List.take_add, List.drop_drop, show frm + (pos - frm) = pos by omega]
 exact h1
theorem Ui.esc (h : Ui R l out frm pos) (hp : frm ≤ pos) (hl : l.drop pos ≠ []) (hb : bt (l.drop pos) 0 = 92) {r n : Nat} (he : es (l.drop pos) = some (r, n)) : Ui R l (out ++ (l.drop frm).take (pos - frm) ++ Lib.encodeRune (r : Int)) (pos + n) (pos + 1) := by
 obtain ⟨h1, h2, h3, h4⟩ := es_some he
 rw [List.length_drop] at h1
 have ht : tk (l.drop pos) = some (Lib.encodeRune (r : Int), n) := by
  rw [tk, if_pos hb, he]; rfl
 have h5 := h.2 hp
 rw [unq_step _ _ hl (by rw [hb]; decide) ht, List.drop_drop] at h5
 refine ⟨fun _ => ⟨by omega, h5, fun j hj hj2 => ?_⟩, fun hq => by omega⟩
 have := h4 (j - pos) (by omega) (by omega)
 rw [bt_drop, show pos + (j - pos) = j by omega] at this
 exact this
theorem Ui.noesc (h : Ui R l out frm pos) (hp : frm ≤ pos) (hb : bt (l.drop pos) 0 = 92) (he : es (l.drop pos) = none) : R = ([], pos, 1) :=
 h.bad hp (by rw [hb]; decide) (by rw [tk, if_pos hb, he]; rfl)
theorem Ui.over (h : Ui R l out frm pos) (hp : l.length ≤ pos) : R = ([], pos, 1) := by
 have hq : frm ≤ pos := by
  rcases Nat.lt_or_ge pos frm with h1 | h1
  ·have := (h.1 h1).1; omega
  ·exact h1
 rw [← h.2 hq, List.drop_of_length_le hp, unq_nil]
end
theorem MapAt_others {e : TypeId} {b mb n : Nat} {f : Int → Option Int} {w w' : World} (h : MapAt w mb n f) (k : Lib.OthersKept e (some b) w w') (hne : mb ≠ b) : MapAt w' mb n f := by
 obtain ⟨D, ⟨es, clock, h1, h2⟩, h3⟩ := h
 exact ⟨D, ⟨es, clock, k mb _ h1 (fun e => hne (Option.some.inj e)) (fun _ _ e => by cases e), h2⟩, h3⟩
theorem MapAt_iter {K mb n : Nat} {f : Int → Option Int} {s : ByteArray} {pos : Nat} {w : World} (h : MapAt w mb n f) (hit : w.heap[K]? = some (.stringIter s pos)) (p : Nat) : MapAt (w.iterAt K s p) mb n f := by
 obtain ⟨D, ⟨es, clock, h1, h2⟩, h3⟩ := h
 have hne : mb ≠ K := by
  rintro rfl
  rw [hit] at h1
  cases h1
 exact ⟨D, ⟨es, clock, (Lib.iterAt_other w K mb s p hne).trans h1, h2⟩, h3⟩
theorem MapAt_ne {B b mb n : Nat} {f : Int → Option Int} {l : List UInt8} {w : World} (h : MapAt w mb n f) (hI : IsB B b l w) : mb ≠ b := by
 obtain ⟨D, ⟨es, clock, h1, h2⟩, h3⟩ := h
 rintro rfl
 rcases hI with ⟨_, v, hbk, _⟩ | ⟨_, v, hbk, _⟩ <;> (rw [h1] at hbk; cases hbk)
def Sv (w : World) (v : Value) : Prop := v = .map none ∨ ∃ mb, v = .map (some mb) ∧ MapAt w mb 8 blF
theorem Sv.iter {K : Nat} {s : ByteArray} {pos : Nat} {w : World} {v : Value} (h : Sv w v) (hit : w.heap[K]? = some (.stringIter s pos)) (p : Nat) : Sv (w.iterAt K s p) v :=
 h.imp id fun ⟨mb, h1, h2⟩ => ⟨mb, h1, MapAt_iter h2 hit p⟩
theorem Er.low {B : Nat} {w w' : World} (h : Er w) (hb : Below B w w') (hB : w.heap.size ≤ B) : Er w' := h.below (hb.mono hB)
theorem enc_len (r : Int) : (Lib.encodeRune r).length ≤ 4 := by
 rw [Lib.encodeRune, List.length_map]
 exact (Lib.encodeRuneZ_length r).2
theorem unquote_any (s : ByteArray) (w : World) (hs : s.size ≤ 1073741824) (hE : Er w) :
  Calls Tryz.prog 192 #[.string s] w fun e w' => e = .returned (uqv (unqs s.data.toList)) ∧ Below w.heap.size w w' := by
 have hB : Below w.heap.size w w := Below.refl _ _
 by_cases h34 : bt s.data.toList 0 = 34
 ·have HP : Hid (Lib.hasPrefix s.data.toList [34] = true) := Lib.hid (by rw [pre34, decide_eq_true h34])
  have HF : Hid (unqs s.data.toList = unq [] (s.data.toList.drop 1) 1) := Lib.hid (by rw [unqs, if_pos h34])
  generalize unqs s.data.toList = R at HF ⊢
  go_enter Tryz.func192, Tryz.ntmps192
  go_wp2_with (go_at_call 165; refine (Tryz.strings_HasPrefix _ _ _).mono ?_; rintro e w1 ⟨rfl, rfl⟩; rw [b34, HP.out])
  have hl1 : 1 ≤ s.size := by
   have := ne_of_bt (l := s.data.toList) (k := 0) (by omega)
   rw [size_toList] at this
   omega
  have HU : Hid (Ui R s.data.toList [] 1 0) := Lib.hid ⟨fun _ => ⟨by rw [size_toList]; exact hl1, HF.out.symm, fun j _ hj => by rw [show j = 0 by omega, h34]; decide⟩, fun h => by omega⟩
  clear HF h34 HP
  generalize hbk : w1.heap.size = b at *
  have hfresh : IsB b b [] (w1.alloc (.cells #[.pointer none, .slice none 0 0] 225)) := by
   have := Lib.IsBuilderF.of (Lib.fresh_isBuilder 225 5 w1)
   rw [hbk] at this
   exact this
  have hba : Below b w1 (w1.alloc (.cells #[.pointer none, .slice none 0 0] 225)) := (Below.refl _ _).alloc (by omega) _
  go_loopw [6, 7] (fun sv u wr => ∃ (frm pos : Nat) (out : List UInt8), u = .int .i64 frm ∧ IsB b b out wr ∧ wr.heap[b + 1]? = some (.stringIter s pos) ∧ Below b w1 wr ∧ pos ≤ s.size ∧ frm ≤ s.size ∧ out.length ≤ 4 * frm ∧ Sv wr sv ∧ Hid (Ui R s.data.toList out frm pos)) (fun _ _ wr => s.size - wr.iterPos (b + 1))
  case atStart =>
   refine ⟨1, 0, [], rfl, hfresh.alloc _, ?_, hba.alloc (by simp; omega) _, by omega, by omega, by simp, .inl rfl, HU⟩
   have := World.iter_heap (w1.alloc (.cells #[.pointer none, .slice none 0 0] 225)) s 0
   simp only [World.size_alloc, hbk] at this
   exact this
  case round =>
   obtain ⟨frm, pos, out, rfl, hI, hit, hbw, hpl, hfl, hol, hSv, HQ⟩ := hrel
   have hIlt := IsB_lt hI
   have hszb : b ≤ wr.heap.size := by omega
   by_cases hp : pos < s.size
   ·have hnx : ∀ ty, (Instr.next (.pointer (some ⟨b + 1, 0, none⟩)) true ty).run Tryz.prog wr = _ := fun ty => Lib.run_next_any_at wr (b + 1) s pos ty hit hp
    have hne := drop_ne s pos hp
    have hbp : bt (s.data.toList.drop pos) 0 = s[pos].toNat := by
     have := bt_at' s pos 0 (by omega); simpa using this
    by_cases hlo : s[pos].toNat < 128
    ·have hdl := dec_low (l := s.data.toList.drop pos) (by omega)
     rw [hbp] at hdl
     rw [dec_at, hdl] at hnx
     simp only at hnx
     have hI2 := hI.iterAt hit (pos + 1)
     have hit2 := Lib.iterAt_heap wr (b + 1) s pos (pos + 1) hit
     have hbw2 := Lib.below_iterAt hbw (k := b + 1) (by omega) s (pos + 1)
     have hSv2 := hSv.iter hit (pos + 1)
     have hsz2 : b ≤ (wr.iterAt (b + 1) s (pos + 1)).heap.size := by rw [Lib.iterAt_size]; omega
     by_cases hsk : pos < frm
     ·have HN : Hid (Ui R s.data.toList out frm (pos + 1)) := Lib.hid (HQ.out.skip hsk)
      clear HQ hne hbp hdl
      go_wp2_with fail
      go_roundw
      case rel => exact ⟨frm, pos + 1, out, rfl, hI2, hit2, hbw2, by omega, hfl, hol, hSv2, HN⟩
      case measure =>
       simp only [World.iterPos, hit2, hit]
       omega
     have hfp : frm ≤ pos := by omega
     have hnsk : ¬ (pos : Int) < (frm : Int) := by omega
     by_cases h34 : s[pos].toNat = 34
     ·have HN : Hid (R = (out ++ (s.data.toList.drop frm).take (pos - frm), pos + 1, 0)) := Lib.hid (HQ.out.mark hfp (by rw [hbp, h34]))
      have hq : ((s[pos].toNat : Int) == 34) = true := by rw [beq_iff_eq]; omega
      clear HQ hne hbp hdl h34
      go_wp2_with fail
      refine (Tryz.writeString b b _ _ _ hI2 (by rw [Lib.byteCells_length, ByteArray.size_extract]; omega) hsz2).mono ?_
      rintro e w4 ⟨rfl, h4, b4, -⟩
      rw [ext_cells, ← Lib.byteCells_append] at h4
      have hsz4 := Nat.le_trans hsz2 b4.size
      go_wp2_with fail
      refine (Tryz.Builder_String_any_k b b _ _ (.inr h4) hsz4).mono ?_
      rintro e w6 ⟨rfl, _, b6, _⟩
      go_wp2_with fail
      go_ret3
      exact ⟨by rw [HN.out]; rfl, by first | exact (hbw2.trans b4).trans b6 | (rw [hbk]; exact (hbw2.trans b4).trans b6)⟩
     have hq34 : ((s[pos].toNat : Int) == 34) = false := by rw [beq_eq_false_iff_ne]; omega
     by_cases h92 : s[pos].toNat = 92
     ·have hq92 : ((s[pos].toNat : Int) == 92) = true := by rw [beq_iff_eq]; omega
      have hq30 : ∀ (w : World) (r : Option Nat), (binOp .eql 226 (.map r) (.map none)).run Tryz.prog w = .ok (.bool r.isNone) w := fun w r => run_eql_map_nil w _ _ _ r Tryz.underlying226
      have hes : (s.extract pos s.size).size ≤ 1073741824 := by rw [ByteArray.size_extract]; omega
      have hee := ext_end s pos
      cases he : es (s.data.toList.drop pos) with
      | none =>
       have HN : Hid (R = ([], pos, 1)) := Lib.hid (HQ.out.noesc hfp (by rw [hbp, h92]) he)
       have HES : Hid (es (s.extract pos s.size).data.toList = none) := Lib.hid (by rw [hee, he])
       clear HQ hne hbp hdl h92 hee he h34
       rcases hSv2 with rfl | ⟨mb, rfl, hM2⟩
       ·clear hSv
        go_wp2_with fail
        refine (byLetter_any _).mono ?_
        rintro e w4 ⟨rfl, hM4, b4⟩
        have hI4 := IsB_kept hI2 b4
        have hit4 := iter_kept hit2 b4
        have hbw4 := hbw2.trans (b4.mono hsz2)
        have hsz4 := Nat.le_trans hsz2 b4.size
        have hE4 := hE.low hbw4 (Nat.le_of_eq hbk)
        go_wp2_with fail
        refine (escape_any _ 8 _ _ hes hE4 hM4).mono ?_
        rintro e w5 ⟨rfl, b5⟩
        rw [HES.out, escV]
        have hI5 := IsB_kept hI4 b5
        have hit5 := iter_kept hit4 b5
        have hbw5 := hbw4.trans (b5.mono hsz4)
        have hsz5 := Nat.le_trans hsz4 b5.size
        have hM5 := hM4.below b5 hM4.lt
        have hne5 := MapAt_ne hM5 hI5
        go_wp2_with fail
        all_goals go_ret3
        all_goals exact ⟨by rw [HN.out]; rfl, by first | exact hbw5 | (rw [hbk]; exact hbw5)⟩
       ·clear hSv
        have hI4 := hI2; have hit4 := hit2; have hbw4 := hbw2; have hsz4 := hsz2; have hM4 := hM2
        have hE4 := hE.low hbw4 (Nat.le_of_eq hbk)
        clear hI2 hit2 hbw2 hM2 hsz2
        go_wp2_with fail
        refine (escape_any _ 8 _ _ hes hE4 hM4).mono ?_
        rintro e w5 ⟨rfl, b5⟩
        rw [HES.out, escV]
        have hI5 := IsB_kept hI4 b5
        have hit5 := iter_kept hit4 b5
        have hbw5 := hbw4.trans (b5.mono hsz4)
        have hsz5 := Nat.le_trans hsz4 b5.size
        have hM5 := hM4.below b5 hM4.lt
        have hne5 := MapAt_ne hM5 hI5
        go_wp2_with fail
        all_goals go_ret3
        all_goals exact ⟨by rw [HN.out]; rfl, by first | exact hbw5 | (rw [hbk]; exact hbw5)⟩
      | some x =>
       obtain ⟨r, n⟩ := x
       obtain ⟨e1, e2, e3, -⟩ := es_some he
       rw [List.length_drop, size_toList] at e1
       have HN : Hid (Ui R s.data.toList (out ++ (s.data.toList.drop frm).take (pos - frm) ++ Lib.encodeRune (r : Int)) (pos + n) (pos + 1)) := Lib.hid (HQ.out.esc hfp hne (by rw [hbp, h92]) he)
       have hrn : r ≤ 1114111 := by unfold ru at e2; omega
       have hn2 : 2 ≤ n := by omega
       have hlen : (out ++ (s.data.toList.drop frm).take (pos - frm) ++ Lib.encodeRune (r : Int)).length ≤ 4 * (pos + n) := by
        have := enc_len (r : Int)
        rw [List.length_append, List.length_append, List.length_take]
        omega
       have HES : Hid (es (s.extract pos s.size).data.toList = some (r, n)) := Lib.hid (by rw [hee, he])
       have hn0 : ((n : Int) == 0) = false := by rw [beq_eq_false_iff_ne]; omega
       clear HQ hne hbp hdl h92 hee he h34 e2 e3
       rcases hSv2 with rfl | ⟨mb, rfl, hM2⟩
       ·clear hSv
        go_wp2_with fail
        refine (byLetter_any _).mono ?_
        rintro e w4 ⟨rfl, hM4, b4⟩
        have hI4 := IsB_kept hI2 b4
        have hit4 := iter_kept hit2 b4
        have hbw4 := hbw2.trans (b4.mono hsz2)
        have hsz4 := Nat.le_trans hsz2 b4.size
        have hE4 := hE.low hbw4 (Nat.le_of_eq hbk)
        go_wp2_with fail
        refine (escape_any _ 8 _ _ hes hE4 hM4).mono ?_
        rintro e w5 ⟨rfl, b5⟩
        rw [HES.out, escV]
        have hI5 := IsB_kept hI4 b5
        have hit5 := iter_kept hit4 b5
        have hbw5 := hbw4.trans (b5.mono hsz4)
        have hsz5 := Nat.le_trans hsz4 b5.size
        have hM5 := hM4.below b5 hM4.lt
        have hne5 := MapAt_ne hM5 hI5
        go_wp2_with fail
        refine (Tryz.writeString b b _ _ _ hI5 (by rw [Lib.byteCells_length, ByteArray.size_extract]; omega) hsz5).mono ?_
        rintro e w6 ⟨rfl, h6, b6, k6⟩
        rw [ext_cells, ← Lib.byteCells_append] at h6
        have hsz6 := Nat.le_trans hsz5 b6.size
        have hit6 := k6.iter hit5 (by omega)
        have hM6 := MapAt_others hM5 k6 hne5
        clear k6
        go_wp2_with fail
        refine (Tryz.writeRune b b _ _ (by omega) (by omega) _ (.inr h6) (by rw [Lib.byteCells_length, List.length_append, List.length_take]; omega) hsz6).mono ?_
        rintro e w7 ⟨rfl, h7, b7, k7⟩
        rw [← Lib.byteCells_encodeRune, ← Lib.byteCells_append] at h7
        have hit7 := k7.iter hit6 (by omega)
        have hM7 := MapAt_others hM6 k7 hne5
        clear k7
        go_wp2_with fail
        go_roundw
        case rel => exact ⟨pos + n, pos + 1, _, by go_num, .inr h7, hit7, (hbw5.trans b6).trans b7, by omega, by omega, hlen, .inr ⟨_, rfl, hM7⟩, HN⟩
        case measure =>
         simp only [World.iterPos, hit7, hit]
         omega
       ·clear hSv
        have hI4 := hI2; have hit4 := hit2; have hbw4 := hbw2; have hsz4 := hsz2; have hM4 := hM2
        have hE4 := hE.low hbw4 (Nat.le_of_eq hbk)
        clear hI2 hit2 hbw2 hM2 hsz2
        go_wp2_with fail
        refine (escape_any _ 8 _ _ hes hE4 hM4).mono ?_
        rintro e w5 ⟨rfl, b5⟩
        rw [HES.out, escV]
        have hI5 := IsB_kept hI4 b5
        have hit5 := iter_kept hit4 b5
        have hbw5 := hbw4.trans (b5.mono hsz4)
        have hsz5 := Nat.le_trans hsz4 b5.size
        have hM5 := hM4.below b5 hM4.lt
        have hne5 := MapAt_ne hM5 hI5
        go_wp2_with fail
        refine (Tryz.writeString b b _ _ _ hI5 (by rw [Lib.byteCells_length, ByteArray.size_extract]; omega) hsz5).mono ?_
        rintro e w6 ⟨rfl, h6, b6, k6⟩
        rw [ext_cells, ← Lib.byteCells_append] at h6
        have hsz6 := Nat.le_trans hsz5 b6.size
        have hit6 := k6.iter hit5 (by omega)
        have hM6 := MapAt_others hM5 k6 hne5
        clear k6
        go_wp2_with fail
        refine (Tryz.writeRune b b _ _ (by omega) (by omega) _ (.inr h6) (by rw [Lib.byteCells_length, List.length_append, List.length_take]; omega) hsz6).mono ?_
        rintro e w7 ⟨rfl, h7, b7, k7⟩
        rw [← Lib.byteCells_encodeRune, ← Lib.byteCells_append] at h7
        have hit7 := k7.iter hit6 (by omega)
        have hM7 := MapAt_others hM6 k7 hne5
        clear k7
        go_wp2_with fail
        go_roundw
        case rel => exact ⟨pos + n, pos + 1, _, by go_num, .inr h7, hit7, (hbw5.trans b6).trans b7, by omega, by omega, hlen, .inr ⟨_, rfl, hM7⟩, HN⟩
        case measure =>
         simp only [World.iterPos, hit7, hit]
         omega
     have hq92 : ((s[pos].toNat : Int) == 92) = false := by rw [beq_eq_false_iff_ne]; omega
     by_cases h32 : s[pos].toNat < 32
     ·have HN : Hid (R = ([], pos, 1)) := Lib.hid (HQ.out.bad hfp (by rw [hbp]; exact h34) (by rw [tk, if_neg (by rw [hbp]; exact h92), if_pos (.inl (by rw [hbp]; exact h32))]))
      clear HQ hne hbp hdl
      go_wp2_with fail
      all_goals go_ret3
      all_goals exact ⟨by rw [HN.out]; rfl, by first | exact hbw2 | (rw [hbk]; exact hbw2)⟩
     ·have hrn := runeN_one (l := s.data.toList.drop pos) (by omega)
      have HN : Hid (Ui R s.data.toList out frm (pos + 1)) := Lib.hid (HQ.out.plain hfp hne (by rw [hbp]; exact h34) (by rw [hbp]; exact h92) (by omega) hrn (by decide))
      have HS : Hid (∀ w, Calls Tryz.prog 220 #[.int .i32 (s[pos].toNat : Nat), .string (s.extract pos s.size)] w fun e w' => e = .returned (.bool false) ∧ w = w') := Lib.hid (by
       intro w
       have h := stray_any s[pos].toNat (s.extract pos s.size) w (by rw [ext_end]; exact hne) (by rw [ext_end, hdl])
       rw [ext_end, hrn] at h
       exact h)
      clear HQ hne hbp hdl hrn
      go_wp2_with (go_at_call 220; refine (HS.out _).mono ?_; rintro e w4 ⟨rfl, rfl⟩)
      go_roundw
      case rel => exact ⟨frm, pos + 1, out, rfl, hI2, hit2, hbw2, by omega, hfl, hol, hSv2, HN⟩
      case measure =>
       simp only [World.iterPos, hit2, hit]
       omega
    ·have hfp : frm ≤ pos := by
      rcases Nat.lt_or_ge pos frm with h1 | h1
      ·have := (HQ.out.1 h1).2.2 pos (Nat.le_refl _) h1
       rw [← Nat.add_zero pos, ← bt_drop, hbp] at this
       omega
      ·exact h1
     have hnsk : ¬ (pos : Int) < (frm : Int) := by omega
     have hdh := (dec_high hne (by rw [hbp]; omega)).1
     have hwd := dec_width _ hne
     rw [List.length_drop, size_toList] at hwd
     have hdg := dec_good (l := s.data.toList.drop pos)
     have hstr : ∀ w, Calls Tryz.prog 220 #[.int .i32 ((Utf8.decode s pos).1 : Nat), .string (s.extract pos s.size)] w fun e w' => e = .returned (.bool (decide (runeN (s.data.toList.drop pos) = 0))) ∧ w = w' := by
      intro w
      have h := stray_any (Utf8.decode s pos).1 (s.extract pos s.size) w (by rw [ext_end]; exact hne) (by rw [ext_end, dec_at])
      rw [ext_end] at h
      exact h
     rw [dec_at] at hnx hstr
     have hrl := Lib.decodeL_rune (s.data.toList.drop pos)
     generalize hD : Lib.decodeL (s.data.toList.drop pos) = Dc at hnx hdh hwd hstr hdg hrl
     obtain ⟨r, n⟩ := Dc
     simp only at hnx hdh hwd hstr hdg hrl
     have HS := Lib.hid hstr
     have hI2 := hI.iterAt hit (pos + n)
     have hit2 := Lib.iterAt_heap wr (b + 1) s pos (pos + n) hit
     have hbw2 := Lib.below_iterAt hbw (k := b + 1) (by omega) s (pos + n)
     have hSv2 := hSv.iter hit (pos + n)
     obtain ⟨hn1, hn2⟩ := hwd
     have hq34 : ((r : Int) == 34) = false := by rw [beq_eq_false_iff_ne]; omega
     have hq92 : ((r : Int) == 92) = false := by rw [beq_eq_false_iff_ne]; omega
     have hq32 : ¬ (r : Int) < 32 := by omega
     by_cases h0 : runeN (s.data.toList.drop pos) = 0
     ·have HN : Hid (R = ([], pos, 1)) := Lib.hid (HQ.out.bad hfp (by rw [hbp]; omega) (by rw [tk, if_neg (by rw [hbp]; omega), if_pos (.inr h0)]))
      have HD : Hid (decide (runeN (s.data.toList.drop pos) = 0) = true) := Lib.hid (decide_eq_true h0)
      clear HQ hne hbp hdh hstr hdg hD h0 hlo hrl
      go_wp2_with (go_at_call 220; refine (HS.out _).mono ?_; rintro e w4 ⟨rfl, rfl⟩; rw [HD.out])
      all_goals go_ret3
      all_goals exact ⟨by rw [HN.out]; rfl, by first | exact hbw2 | (rw [hbk]; exact hbw2)⟩
     ·have HN : Hid (Ui R s.data.toList out frm (pos + n)) := Lib.hid (HQ.out.plain hfp hne (by rw [hbp]; omega) (by rw [hbp]; omega) (by rw [hbp]; omega) (hdg h0).symm (by omega))
      have HD : Hid (decide (runeN (s.data.toList.drop pos) = 0) = false) := Lib.hid (decide_eq_false h0)
      clear HQ hne hbp hdh hstr hdg hD h0 hlo hrl
      go_wp2_with (go_at_call 220; refine (HS.out _).mono ?_; rintro e w4 ⟨rfl, rfl⟩; rw [HD.out])
      go_roundw
      case rel => exact ⟨frm, pos + n, out, rfl, hI2, hit2, hbw2, by omega, hfl, hol, hSv2, HN⟩
      case measure =>
       simp only [World.iterPos, hit2, hit]
       omega
   ·have hnx : ∀ ty, (Instr.next (.pointer (some ⟨b + 1, 0, none⟩)) true ty).run Tryz.prog wr = _ := fun ty => Lib.run_next_end_at wr (b + 1) s pos ty hit hp
    have HN : Hid (R = ([], s.size, 1)) := Lib.hid (by
     rw [HQ.out.over (by rw [size_toList]; omega), show pos = s.size by omega])
    clear HQ
    go_wp2_with fail
    all_goals go_ret3
    all_goals exact ⟨by rw [HN.out]; rfl, by first | exact hbw | (rw [hbk]; exact hbw)⟩
 ·have HP : Hid (Lib.hasPrefix s.data.toList [34] = false) := Lib.hid (by rw [pre34, decide_eq_false h34])
  have HF : Hid (unqs s.data.toList = ([], 0, 1)) := Lib.hid (by rw [unqs, if_neg h34])
  clear h34
  go_enter Tryz.func192, Tryz.ntmps192
  go_wp2_with (go_at_call 165; refine (Tryz.strings_HasPrefix _ _ _).mono ?_; rintro e w1 ⟨rfl, rfl⟩; rw [b34, HP.out])
  all_goals go_ret3
  all_goals exact ⟨by rw [HF.out]; rfl, hB⟩
end
section
open Go.RowKit Np Rw Vp Up Qp Pw
structure Pv (w : World) : Prop where
 pow : PowTab w
 tabs : Tabs w
 er : Er w
 er2 : ∃ ev, w.cell? ⟨5, 0, none⟩ = some ev ∧ (ev = .nilIface ∨ ∃ te pe, ev = .iface te pe)
theorem Pv.below {w w' : World} (h : Pv w) (hb : Below w.heap.size w w') : Pv w' := by
 obtain ⟨h1, h2, h3, ev, h4, h5⟩ := h
 have hlt := World.block_lt_of_cell? _ _ h4
 exact ⟨h1.below hb, h2.below hb, h3.below hb, ev, (hb.cell (p := ⟨5, 0, none⟩) hlt).trans h4, h5⟩
theorem ext_tail (s : ByteArray) (a : Nat) : (s.extract a s.size).data.toList = s.data.toList.drop a := by
 have h := Lib.extract_toList s a s.size
 rw [ByteArray.toList_eq] at h
 rw [h, List.take_of_length_le (by rw [List.length_drop, size_toList]; exact Nat.le_refl _)]
theorem atoi_any (s : ByteArray) (w : World) (hs : s.size ≤ 281474976710656) (hT : Pv w) :
  Calls Tryz.prog 190 #[.string s] w fun e w' => ∃ ev, e = .returned (.tuple #[.int .i64 (atoiN s.data.toList), ev]) ∧ Below w.heap.size w w' := by
 unfold atoiN
 cases h : Lib.atoiAll s.data.toList with
 | ok v =>
  refine (Tryz.strconv_Atoi_ok s (by omega) v h w).mono ?_
  rintro e w' ⟨rfl, hw⟩
  refine ⟨_, rfl, ?_⟩
  rcases hw with rfl | ⟨t, rfl⟩
  ·exact Below.refl _ _
  ·exact Lib.bytesWorld_below _ _ _
 | range =>
  obtain ⟨ev, h1, h2⟩ := hT.er2
  refine (Tryz.strconv_Atoi_range s hs h ev w h1 h2).mono ?_
  rintro e w' ⟨N, rfl, -, -, hb⟩
  exact ⟨_, rfl, hb⟩
 | _ =>
  obtain ⟨ev, h1, h2⟩ := hT.er
  refine (Tryz.strconv_Atoi_syntax s hs h ev w h1 h2).mono ?_
  rintro e w' ⟨N, rfl, -, -, hb⟩
  exact ⟨_, rfl, hb⟩
theorem atoiN_bounds (l : List UInt8) : -9223372036854775808 ≤ atoiN l ∧ atoiN l ≤ 9223372036854775807 := by
 unfold atoiN
 cases h : Lib.atoiAll l with
 | ok v =>
  have := Lib.atoiAll_bounds h
  simp only; omega
 | range =>
  have := Lib.atoiSat_bounds l
  simp only; omega
 | _ => simp
theorem cut_le (l : List UInt8) (c : UInt8) : (Lib.cut l [c]).1.length ≤ l.length := by
 unfold Lib.cut
 split
 ·simp; omega
 ·exact Nat.le_refl _
theorem trim_le (l p : List UInt8) : (Lib.trimPrefix l p).length ≤ l.length := by
 unfold Lib.trimPrefix
 split
 ·simp
 ·exact Nat.le_refl _
theorem unqs_len (l : List UInt8) (h : (unqs l).2.2 = 0) : (unqs l).1.length ≤ l.length := by
 unfold unqs at h ⊢
 split
 ·rename_i h34
  rw [if_pos h34] at h
  cases hR : unq [] (l.drop 1) 1 with
  | mk x r =>
   obtain ⟨n, e⟩ := r
   rw [hR] at h
   simp only at h
   subst h
   obtain ⟨y, y1, -, y3, -, y5⟩ := unq_good _ [] (l.drop 1) 1 n x (Nat.le_refl _) hR
   rw [List.nil_append] at y1
   subst y1
   rw [List.length_drop] at y5
   simp only
   omega
 ·simp
theorem gss_len (l : List UInt8) : (gss l).name.length ≤ l.length ∧ -9223372036854775808 ≤ (gss l).n ∧ (gss l).n ≤ 9223372036854775807 := by
 unfold gss
 split
 ·exact ⟨by simp, atoiN_bounds _⟩
 ·split
  ·rename_i h
   exact ⟨Nat.le_trans (unqs_len _ h) (trim_le _ _), by simp, by simp⟩
  ·exact ⟨Nat.le_trans (wrd_le _) (trim_le _ _), by simp, by simp⟩
abbrev stepZ : Obj := .cells #[.bool false, .string ⟨#[]⟩, .int .i64 0] 49
theorem new_step {W w3 : World} {b : Nat} (hZ : W.heap[b]? = some stepZ) (hb : Below W.heap.size W w3) :
  b < w3.heap.size ∧ w3.cell? ⟨b, 0, none⟩ = some (.bool false) ∧ w3.cell? ⟨b, 1, none⟩ = some (.string ⟨#[]⟩) ∧ w3.cell? ⟨b, 2, none⟩ = some (.int .i64 0) ∧ (∀ o, w3.frozen? ⟨b, o, none⟩ = false) ∧ w3.heap[b]? = some stepZ := by
 have hs : b < W.heap.size := (Array.getElem?_eq_some_iff.1 hZ).1
 have zz : w3.heap[b]? = some stepZ := (hb.block _ hs).trans hZ
 refine ⟨(Array.getElem?_eq_some_iff.1 zz).1, ?_, ?_, ?_, fun o => Lib.frozen_of_heap zz o, zz⟩ <;> (rw [Lib.cell_of_heap zz]; rfl)
theorem guess_any (s : ByteArray) (w : World) (hs : s.size ≤ 1073741824) (hT : Pv w) :
  Calls Tryz.prog 166 #[.string s] w fun e w' => e = .returned (sta (gss s.data.toList)) ∧ Below w.heap.size w w' := by
 have htl1 := trim_le s.data.toList [91]
 have htl2 := trim_le s.data.toList [46]
 rw [size_toList] at htl1 htl2
 have hb0 : Below w.heap.size w (w.alloc (.cells #[.bool false, .string ⟨#[]⟩, .int .i64 0] 49)) := (Below.refl _ _).alloc (Nat.le_refl _) _
 have HB0 := Lib.hid hb0
 have HCP := Lib.hid (Tryz.strings_CutPrefix s ⟨#[91]⟩)
 cases hp : Lib.hasPrefix s.data.toList [91] with
 | true =>
  have HG : Hid (gss s.data.toList = ⟨true, [], atoiN (Lib.cut (Lib.trimPrefix s.data.toList [91]) [93]).1⟩) := Lib.hid (by rw [gss, if_pos hp])
  have hcl := cut_le (Lib.trimPrefix s.data.toList [91]) 93
  simp only [hp] at HCP
  generalize gss s.data.toList = G at *
  generalize Lib.trimPrefix s.data.toList [91] = T at *
  have HCUT : Hid (∀ W, Calls Tryz.prog 189 #[.string ⟨T.toArray⟩, .string ⟨#[93]⟩] W fun e w' => e = .returned (.tuple #[.string ⟨(Lib.cut T [93]).1.toArray⟩, .string ⟨(Lib.cut T [93]).2.1.toArray⟩, .bool (Lib.cut T [93]).2.2]) ∧ ∃ n, w' = W.drewN n) := Lib.hid (fun W => cut93_any ⟨T.toArray⟩ W (by rw [mk_size]; unfold maxLen; omega))
  generalize Lib.cut T [93] = C at *
  have HAT : Hid (∀ W, Below w.heap.size w W → Calls Tryz.prog 190 #[.string ⟨C.1.toArray⟩] W fun e w' => ∃ ev, e = .returned (.tuple #[.int .i64 (atoiN C.1), ev]) ∧ Below W.heap.size W w') := Lib.hid (fun W hW => atoi_any ⟨C.1.toArray⟩ W (by rw [mk_size]; omega) (hT.below hW))
  clear hT hp hb0
  go_enter Tryz.func166, Tryz.ntmps166
  go_wp2_with fail
  refine (HCP.out _).mono ?_
  rintro e w1 ⟨rfl, rfl⟩
  go_wp2_with fail
  refine (HCUT.out _).mono ?_
  rintro e w2 ⟨rfl, n, rfl⟩
  have HB2 := Lib.hid (drewN_below HB0.out n)
  have HA2 := Lib.hid (HAT.out _ HB2.out)
  go_wp2_with fail
  refine HA2.out.mono ?_
  rintro e w3 ⟨ev, rfl, hb3⟩
  have hB3 : Below w.heap.size w w3 := HB2.out.trans (hb3.mono HB2.out.size)
  obtain ⟨hz1, k0, k1, k2, hfz, -⟩ := new_step (W := (w.alloc stepZ).drewN n) (b := w.heap.size) (heap_alloc_new w stepZ) hb3
  clear hb3
  generalize atoiN C.1 = N at *
  go_wp2_with fail
  refine bodyPost_ret (v := sta ⟨true, [], N⟩) ?_ rfl ⟨by rw [HG.out], ?_⟩
  ·simp [results, Tryz.results166, go_sem, k0, k1, k2]
  ·exact ((hB3.setCell (Nat.le_refl _) _).setCell (Nat.le_refl _) _).setCell (Nat.le_refl _) _
 | false =>
  have HTP := Lib.hid (Tryz.strings_TrimPrefix s ⟨#[46]⟩)
  simp only [hp] at HCP
  simp only at HTP
  have HG0 : Hid (gss s.data.toList = if (unqs (Lib.trimPrefix s.data.toList [46])).2.2 = 0 then ⟨false, (unqs (Lib.trimPrefix s.data.toList [46])).1, 0⟩ else ⟨false, wrd (Lib.trimPrefix s.data.toList [46]), 0⟩) := Lib.hid (by rw [gss, if_neg (by rw [hp]; simp)])
  generalize gss s.data.toList = G at *
  generalize Lib.trimPrefix s.data.toList [91] = T at *
  generalize Lib.trimPrefix s.data.toList [46] = T2 at *
  have HUQ : Hid (∀ W, Below w.heap.size w W → Calls Tryz.prog 192 #[.string ⟨T2.toArray⟩] W fun e w' => e = .returned (uqv (unqs T2)) ∧ Below W.heap.size W w') := Lib.hid (fun W hW => unquote_any ⟨T2.toArray⟩ W (by rw [mk_size]; omega) (hT.below hW).er)
  have HWD : Hid (∀ W, Calls Tryz.prog 193 #[.string ⟨T2.toArray⟩] W fun e w' => e = .returned (.string ⟨(wrd T2).toArray⟩) ∧ w' = W) := Lib.hid (fun W => word_any ⟨T2.toArray⟩ W (by rw [mk_size]; unfold maxLen; omega))
  generalize unqs T2 = U at *
  obtain ⟨ux, un, ue⟩ := U
  simp only at HG0 HUQ
  clear hT hp hb0
  by_cases hu : ue = 0
  ·subst hu
   have HG : Hid (G = ⟨false, ux, 0⟩) := Lib.hid (by rw [HG0.out, if_pos rfl])
   go_enter Tryz.func166, Tryz.ntmps166
   go_wp2_with fail
   refine (HCP.out _).mono ?_
   rintro e w1 ⟨rfl, rfl⟩
   go_wp2_with fail
   refine (HTP.out _).mono ?_
   rintro e w1 ⟨rfl, rfl⟩
   go_wp2_with fail
   refine (HUQ.out _ HB0.out).mono ?_
   rintro e w3 ⟨rfl, hb3⟩
   have hB3 : Below w.heap.size w w3 := HB0.out.trans (hb3.mono HB0.out.size)
   obtain ⟨hz1, k0, k1, k2, hfz, -⟩ := new_step (W := w.alloc stepZ) (b := w.heap.size) (heap_alloc_new w stepZ) hb3
   clear hb3
   go_wp2_with fail
   refine bodyPost_ret (v := sta ⟨false, ux, 0⟩) ?_ rfl ⟨by rw [HG.out], ?_⟩
   ·simp [results, Tryz.results166, go_sem, k0, k1, k2]
   ·exact ((hB3.setCell (Nat.le_refl _) _).setCell (Nat.le_refl _) _).setCell (Nat.le_refl _) _
  ·have HG : Hid (G = ⟨false, wrd T2, 0⟩) := Lib.hid (by rw [HG0.out, if_neg hu])
   have hu2 : (ue == 0) = false := by simpa using hu
   generalize wrd T2 = wd at *
   go_enter Tryz.func166, Tryz.ntmps166
   go_wp2_with fail
   refine (HCP.out _).mono ?_
   rintro e w1 ⟨rfl, rfl⟩
   go_wp2_with fail
   refine (HTP.out _).mono ?_
   rintro e w1 ⟨rfl, rfl⟩
   go_wp2_with fail
   refine (HUQ.out _ HB0.out).mono ?_
   rintro e w3 ⟨rfl, hb3⟩
   have hB3 : Below w.heap.size w w3 := HB0.out.trans (hb3.mono HB0.out.size)
   obtain ⟨hz1, k0, k1, k2, hfz, -⟩ := new_step (W := w.alloc stepZ) (b := w.heap.size) (heap_alloc_new w stepZ) hb3
   clear hb3
   go_wp2_with fail
   refine (HWD.out _).mono ?_
   rintro e w4 ⟨rfl, rfl⟩
   go_wp2_with fail
   refine bodyPost_ret (v := sta ⟨false, wd, 0⟩) ?_ rfl ⟨by rw [HG.out], ?_⟩
   ·simp [results, Tryz.results166, go_sem, k0, k1, k2]
   ·exact ((hB3.setCell (Nat.le_refl _) _).setCell (Nat.le_refl _) _).setCell (Nat.le_refl _) _
end
section
open Go.RowKit Np Rw Vp Pw
theorem rightStep_any (s : St) (w : World) (hs : s.name.length ≤ maxLen) (hT : Tabs w) : Calls Tryz.prog 168 #[sta s] w fun e w' => e = .returned (.bool (rightS s)) ∧ Below w.heap.size w w' := by
 obtain ⟨p, nm, n⟩ := s
 have hb := (Below.refl w.heap.size w).alloc (Nat.le_refl _) (.cells #[.bool p, .string ⟨nm.toArray⟩, .int .i64 n] 49)
 have HB := Lib.hid hb
 have HV := Lib.hid (valid_any ⟨nm.toArray⟩ (w.alloc (.cells #[.bool p, .string ⟨nm.toArray⟩, .int .i64 n] 49)) hs (hT.below hb))
 clear hb hT
 cases p with
 | true =>
  have HL : Hid (rightS ⟨true, nm, n⟩ = (decide (nm = []) && decide (0 ≤ n) && decide (n ≤ 1000000))) := Lib.hid (by unfold rightS; rw [if_pos rfl])
  generalize rightS ⟨true, nm, n⟩ = b at *
  by_cases h1 : nm = []
  ·subst h1
   by_cases h2 : 0 ≤ n
   ·have HR : Hid (b = decide (n ≤ 1000000)) := Lib.hid (by rw [HL.out]; simp [h2])
    go_enter Tryz.func168, Tryz.ntmps168
    go_wp2_with fail
    go_ret
    exact ⟨ret_bool HR.out.symm, HB.out⟩
   ·have HR : Hid (b = false) := Lib.hid (by rw [HL.out]; simp [h2])
    go_enter Tryz.func168, Tryz.ntmps168
    go_wp2_with fail
    go_ret
    exact ⟨ret_bool HR.out.symm, HB.out⟩
  ·have HR : Hid (b = false) := Lib.hid (by rw [HL.out]; simp [h1])
   have h2 : (nm == []) = false := by simpa using h1
   go_enter Tryz.func168, Tryz.ntmps168
   go_wp2_with fail
   go_ret
   exact ⟨ret_bool HR.out.symm, HB.out⟩
 | false =>
  have HL : Hid (rightS ⟨false, nm, n⟩ = (decide (n = 0) && vld nm)) := Lib.hid (by unfold rightS; rw [if_neg (by simp)])
  generalize rightS ⟨false, nm, n⟩ = b at *
  by_cases h1 : n = 0
  ·subst h1
   have HR : Hid (b = vld nm) := Lib.hid (by rw [HL.out]; simp)
   go_enter Tryz.func168, Tryz.ntmps168
   go_wp2_with fail
   refine HV.out.mono ?_
   rintro e w1 ⟨rfl, hb1⟩
   have HB1 : Hid (Below w.heap.size w w1) := Lib.hid (HB.out.trans (hb1.mono HB.out.size))
   clear hb1
   go_wp2_with fail
   go_ret
   exact ⟨ret_bool HR.out.symm, HB1.out⟩
  ·have HR : Hid (b = false) := Lib.hid (by rw [HL.out]; simp [h1])
   have h2 : (n == 0) = false := by simpa using h1
   go_enter Tryz.func168, Tryz.ntmps168
   go_wp2_with fail
   go_ret
   exact ⟨ret_bool HR.out.symm, HB.out⟩
end
section
open Go.RowKit Np Rw Vp Pw Qp
def bgv : Option (St × Nat) → Value
 | none => .tuple #[sta ⟨false, [], 0⟩, .int .i64 0]
 | some x => .tuple #[sta x.1, .int .i64 x.2]
theorem bgn_at {l : List UInt8} {first : Bool} {a : Nat} (h : ahd l first = a) (h0 : (first && !Lib.hasPrefix l [46, 91] && !Lib.hasPrefix l [46]) = false) :
  bgn l first = if rightS (gss (l.drop a)) && Lib.hasPrefix (l.drop a) (stT (gss (l.drop a))) then some (gss (l.drop a), a + (stT (gss (l.drop a))).length) else none := by
 unfold bgn
 rw [h0, h]
 rfl
abbrev stepO (g : St) : Obj := .cells #[.bool g.part, .string ⟨g.name.toArray⟩, .int .i64 g.n] 49
theorem own_step {W w3 : World} {b : Nat} (g : St) (hZ : W.heap[b]? = some (stepO g)) (hb : Below W.heap.size W w3) :
  b < w3.heap.size ∧ w3.cell? ⟨b, 0, none⟩ = some (.bool g.part) ∧ w3.cell? ⟨b, 1, none⟩ = some (.string ⟨g.name.toArray⟩) ∧ w3.cell? ⟨b, 2, none⟩ = some (.int .i64 g.n) ∧ w3.heap[b]? = some (stepO g) := by
 have hs : b < W.heap.size := (Array.getElem?_eq_some_iff.1 hZ).1
 have zz : w3.heap[b]? = some (stepO g) := (hb.block _ hs).trans hZ
 refine ⟨(Array.getElem?_eq_some_iff.1 zz).1, ?_, ?_, ?_, zz⟩ <;> (rw [Lib.cell_of_heap zz]; rfl)
theorem pre_size {s p : List UInt8} (h : Lib.hasPrefix s p = true) : p.length ≤ s.length := pre_len h
theorem begun_any (s : ByteArray) (first : Bool) (w : World) (hs : s.size ≤ 1000000) (hT : Pv w) :
  Calls Tryz.prog 139 #[.string s, .bool first] w fun e w' => e = .returned (bgv (bgn s.data.toList first)) ∧ Below w.heap.size w w' := by
 have HT := Lib.hid hT
 have HP2 := Lib.hid (Tryz.strings_HasPrefix s ⟨#[46, 91]⟩)
 have HP1 := Lib.hid (Tryz.strings_HasPrefix s ⟨#[46]⟩)
 simp only at HP2
 simp only at HP1
 have HALL : ∀ (S : ByteArray), S.size ≤ 1000000 → Hid (∀ W, Pv W → Calls Tryz.prog 166 #[.string S] W fun e w' => e = .returned (sta (gss S.data.toList)) ∧ Below W.heap.size W w') ∧
   Hid (∀ W, Pv W → Calls Tryz.prog 167 #[sta (gss S.data.toList)] W fun e w' => e = .returned (.string ⟨(stT (gss S.data.toList)).toArray⟩) ∧ Below W.heap.size W w') ∧
   Hid (∀ W, Pv W → Calls Tryz.prog 168 #[sta (gss S.data.toList)] W fun e w' => e = .returned (.bool (rightS (gss S.data.toList))) ∧ Below W.heap.size W w') ∧
   Hid (∀ W, Calls Tryz.prog 165 #[.string S, .string ⟨(stT (gss S.data.toList)).toArray⟩] W fun e w' => e = .returned (.bool (Lib.hasPrefix S.data.toList (stT (gss S.data.toList)))) ∧ w' = W) ∧ (stT (gss S.data.toList)).length ≤ 6000030 := fun S hS => by
  have hl := gss_len S.data.toList
  rw [size_toList] at hl
  refine ⟨Lib.hid fun W hW => guess_any S W (by omega) hW, Lib.hid fun W hW => written_any _ W (by omega) hl.2.1 hl.2.2 hW.pow, Lib.hid fun W hW => rightStep_any _ W (by unfold maxLen; omega) hW.tabs, Lib.hid fun W => Tryz.strings_HasPrefix S ⟨(stT (gss S.data.toList)).toArray⟩ W, ?_⟩
  have hi := Lib.itoa_length_le _ hl.2.1 hl.2.2
  have hw := wrs_le (gss S.data.toList).name
  have hq := quo_len (gss S.data.toList).name
  unfold stT
  split
  ·simp; omega
  ·split <;> simp <;> omega
 have hb0 : Below w.heap.size w (w.alloc (.cells #[.bool false, .string ⟨#[]⟩, .int .i64 0] 49)) := (Below.refl _ _).alloc (Nat.le_refl _) _
 have HB0 := Lib.hid hb0
 clear hT hb0
 cases first with
 | false =>
  have HR := Lib.hid (bgn_at (l := s.data.toList) (first := false) (a := 0) rfl rfl)
  obtain ⟨HG, HWR, HRS, HPF, hTL⟩ := HALL s hs
  rw [List.drop_zero] at HR
  generalize gss s.data.toList = G at *
  generalize stT G = T at *
  generalize rightS G = rb at *
  generalize Lib.hasPrefix s.data.toList T = pb at *
  generalize bgn s.data.toList false = R at *
  go_enter Tryz.func139, Tryz.ntmps139
  go_wp2_with fail
  refine (HG.out _ (HT.out.below HB0.out)).mono ?_
  rintro e w1 ⟨rfl, hb1⟩
  have hB1 : Below w.heap.size w w1 := HB0.out.trans (hb1.mono HB0.out.size)
  obtain ⟨hz1, -, -, -, -, hr1⟩ := new_step (W := w.alloc stepZ) (b := w.heap.size) (heap_alloc_new w stepZ) hb1
  clear hb1
  go_wp2_with fail
  have hb2 : Below w.heap.size w (w1.alloc (stepO G)) := hB1.alloc hB1.size _
  refine (HWR.out _ (HT.out.below hb2)).mono ?_
  rintro e w2 ⟨rfl, hb3⟩
  have hB2 : Below w.heap.size w w2 := hb2.trans (hb3.mono hb2.size)
  have hb12 : Below w1.heap.size w1 w2 := ((Below.refl _ _).alloc (Nat.le_refl _) (stepO G)).trans (hb3.mono (by simp))
  obtain ⟨hz2, g0, g1, g2, hzz⟩ := own_step (W := w1.alloc (stepO G)) (b := w1.heap.size) G (heap_alloc_new w1 (stepO G)) hb3
  obtain ⟨-, -, -, -, -, hr2⟩ := new_step (W := w1) hr1 hb12
  clear hb3 hb2 hz1 hb12 hr1
  go_wp2_with fail
  refine (HRS.out _ (HT.out.below hB2)).mono ?_
  rintro e w3 ⟨rfl, hb3⟩
  have hB3 : Below w.heap.size w w3 := hB2.trans (hb3.mono hB2.size)
  obtain ⟨hz3, q0, q1, q2, -⟩ := own_step (W := w2) G hzz hb3
  obtain ⟨hz4, k0, k1, k2, hfz, -⟩ := new_step (W := w2) hr2 hb3
  clear hb3 g0 g1 g2 hz2 hzz hB2 hB1 hr2
  cases rb with
  | true =>
   go_wp2_with fail
   refine (HPF.out _).mono ?_
   rintro e w4 ⟨rfl, rfl⟩
   cases pb with
   | true =>
    have HRR : Hid (R = some (G, 0 + T.length)) := Lib.hid (by rw [HR.out]; rfl)
    go_wp2_with fail
    refine bodyPost_ret (v := .tuple #[sta G, .int .i64 (0 + T.length : Nat)]) ?_ rfl ⟨by rw [HRR.out]; rfl, ?_⟩
    ·simp [results, Tryz.results139, go_sem, k0, k1, k2]
    ·exact ((hB3.setCell (Nat.le_refl _) _).setCell (Nat.le_refl _) _).setCell (Nat.le_refl _) _
   | false =>
    have HRR : Hid (R = none) := Lib.hid (by rw [HR.out]; rfl)
    go_wp2_with fail
    refine bodyPost_ret (v := .tuple #[sta ⟨false, [], 0⟩, .int .i64 0]) ?_ rfl ⟨by rw [HRR.out]; rfl, ?_⟩
    ·simp [results, Tryz.results139, go_sem, k0, k1, k2]
    ·exact ((hB3.setCell (Nat.le_refl _) _).setCell (Nat.le_refl _) _).setCell (Nat.le_refl _) _
  | false =>
   have HRR : Hid (R = none) := Lib.hid (by rw [HR.out]; rfl)
   go_wp2_with fail
   refine bodyPost_ret (v := .tuple #[sta ⟨false, [], 0⟩, .int .i64 0]) ?_ rfl ⟨by rw [HRR.out]; rfl, ?_⟩
   ·simp [results, Tryz.results139, go_sem, k0, k1, k2]
   ·exact ((hB3.setCell (Nat.le_refl _) _).setCell (Nat.le_refl _) _).setCell (Nat.le_refl _) _
 | true =>
  cases h2 : Lib.hasPrefix s.data.toList [46, 91] with
  | true =>
   have hsz := pre_size h2
   rw [size_toList] at hsz
   have hsz1 : 1 ≤ s.size := by simp at hsz; omega
   have HR := Lib.hid (bgn_at (l := s.data.toList) (first := true) (a := 1) (by unfold ahd; rw [h2]; rfl) (by rw [h2]; rfl))
   simp only [h2] at HP2
   generalize bgn s.data.toList true = R at *
   obtain ⟨HG, HWR, HRS, HPF, hTL⟩ := HALL (s.extract 1 s.size) (by rw [ByteArray.size_extract]; omega)
   simp only [ext_tail] at HG HWR HRS HPF hTL
   generalize gss (s.data.toList.drop 1) = G at *
   generalize stT G = T at *
   generalize rightS G = rb at *
   generalize Lib.hasPrefix (s.data.toList.drop 1) T = pb at *
   clear h2 hsz
   go_enter Tryz.func139, Tryz.ntmps139
   go_wp2_with fail
   refine (HP2.out _).mono ?_
   rintro e w0 ⟨rfl, rfl⟩
   go_wp2_with fail
   refine (HG.out _ (HT.out.below HB0.out)).mono ?_
   rintro e w1 ⟨rfl, hb1⟩
   have hB1 : Below w.heap.size w w1 := HB0.out.trans (hb1.mono HB0.out.size)
   obtain ⟨hz1, -, -, -, -, hr1⟩ := new_step (W := w.alloc stepZ) (b := w.heap.size) (heap_alloc_new w stepZ) hb1
   clear hb1
   go_wp2_with fail
   have hb2 : Below w.heap.size w (w1.alloc (stepO G)) := hB1.alloc hB1.size _
   refine (HWR.out _ (HT.out.below hb2)).mono ?_
   rintro e w2 ⟨rfl, hb3⟩
   have hB2 : Below w.heap.size w w2 := hb2.trans (hb3.mono hb2.size)
   have hb12 : Below w1.heap.size w1 w2 := ((Below.refl _ _).alloc (Nat.le_refl _) (stepO G)).trans (hb3.mono (by simp))
   obtain ⟨hz2, g0, g1, g2, hzz⟩ := own_step (W := w1.alloc (stepO G)) (b := w1.heap.size) G (heap_alloc_new w1 (stepO G)) hb3
   obtain ⟨-, -, -, -, -, hr2⟩ := new_step (W := w1) hr1 hb12
   clear hb3 hb2 hz1 hb12 hr1
   go_wp2_with fail
   refine (HRS.out _ (HT.out.below hB2)).mono ?_
   rintro e w3 ⟨rfl, hb3⟩
   have hB3 : Below w.heap.size w w3 := hB2.trans (hb3.mono hB2.size)
   obtain ⟨hz3, q0, q1, q2, -⟩ := own_step (W := w2) G hzz hb3
   obtain ⟨hz4, k0, k1, k2, hfz, -⟩ := new_step (W := w2) hr2 hb3
   clear hb3 g0 g1 g2 hz2 hzz hB2 hB1 hr2
   cases rb with
   | true =>
    go_wp2_with fail
    refine (HPF.out _).mono ?_
    rintro e w4 ⟨rfl, rfl⟩
    cases pb with
    | true =>
     have HRR : Hid (R = some (G, 1 + T.length)) := Lib.hid (by rw [HR.out]; rfl)
     go_wp2_with fail
     refine bodyPost_ret (v := .tuple #[sta G, .int .i64 (1 + T.length : Nat)]) ?_ rfl ⟨by rw [HRR.out]; rfl, ?_⟩
     ·simp [results, Tryz.results139, go_sem, k0, k1, k2]
     ·exact ((hB3.setCell (Nat.le_refl _) _).setCell (Nat.le_refl _) _).setCell (Nat.le_refl _) _
    | false =>
     have HRR : Hid (R = none) := Lib.hid (by rw [HR.out]; rfl)
     go_wp2_with fail
     refine bodyPost_ret (v := .tuple #[sta ⟨false, [], 0⟩, .int .i64 0]) ?_ rfl ⟨by rw [HRR.out]; rfl, ?_⟩
     ·simp [results, Tryz.results139, go_sem, k0, k1, k2]
     ·exact ((hB3.setCell (Nat.le_refl _) _).setCell (Nat.le_refl _) _).setCell (Nat.le_refl _) _
   | false =>
    have HRR : Hid (R = none) := Lib.hid (by rw [HR.out]; rfl)
    go_wp2_with fail
    refine bodyPost_ret (v := .tuple #[sta ⟨false, [], 0⟩, .int .i64 0]) ?_ rfl ⟨by rw [HRR.out]; rfl, ?_⟩
    ·simp [results, Tryz.results139, go_sem, k0, k1, k2]
    ·exact ((hB3.setCell (Nat.le_refl _) _).setCell (Nat.le_refl _) _).setCell (Nat.le_refl _) _
  | false =>
   simp only [h2] at HP2
   cases h1 : Lib.hasPrefix s.data.toList [46] with
   | true =>
    have HR := Lib.hid (bgn_at (l := s.data.toList) (first := true) (a := 0) (by unfold ahd; rw [h2]; rfl) (by rw [h1]; simp))
    simp only [h1] at HP1
    rw [List.drop_zero] at HR
    generalize bgn s.data.toList true = R at *
    obtain ⟨HG, HWR, HRS, HPF, hTL⟩ := HALL s hs
    generalize gss s.data.toList = G at *
    generalize stT G = T at *
    generalize rightS G = rb at *
    generalize Lib.hasPrefix s.data.toList T = pb at *
    clear h1 h2
    go_enter Tryz.func139, Tryz.ntmps139
    go_wp2_with fail
    refine (HP2.out _).mono ?_
    rintro e w0 ⟨rfl, rfl⟩
    go_wp2_with fail
    refine (HP1.out _).mono ?_
    rintro e w0 ⟨rfl, rfl⟩
    go_wp2_with fail
    refine (HG.out _ (HT.out.below HB0.out)).mono ?_
    rintro e w1 ⟨rfl, hb1⟩
    have hB1 : Below w.heap.size w w1 := HB0.out.trans (hb1.mono HB0.out.size)
    obtain ⟨hz1, -, -, -, -, hr1⟩ := new_step (W := w.alloc stepZ) (b := w.heap.size) (heap_alloc_new w stepZ) hb1
    clear hb1
    go_wp2_with fail
    have hb2 : Below w.heap.size w (w1.alloc (stepO G)) := hB1.alloc hB1.size _
    refine (HWR.out _ (HT.out.below hb2)).mono ?_
    rintro e w2 ⟨rfl, hb3⟩
    have hB2 : Below w.heap.size w w2 := hb2.trans (hb3.mono hb2.size)
    have hb12 : Below w1.heap.size w1 w2 := ((Below.refl _ _).alloc (Nat.le_refl _) (stepO G)).trans (hb3.mono (by simp))
    obtain ⟨hz2, g0, g1, g2, hzz⟩ := own_step (W := w1.alloc (stepO G)) (b := w1.heap.size) G (heap_alloc_new w1 (stepO G)) hb3
    obtain ⟨-, -, -, -, -, hr2⟩ := new_step (W := w1) hr1 hb12
    clear hb3 hb2 hz1 hb12 hr1
    go_wp2_with fail
    refine (HRS.out _ (HT.out.below hB2)).mono ?_
    rintro e w3 ⟨rfl, hb3⟩
    have hB3 : Below w.heap.size w w3 := hB2.trans (hb3.mono hB2.size)
    obtain ⟨hz3, q0, q1, q2, -⟩ := own_step (W := w2) G hzz hb3
    obtain ⟨hz4, k0, k1, k2, hfz, -⟩ := new_step (W := w2) hr2 hb3
    clear hb3 g0 g1 g2 hz2 hzz hB2 hB1 hr2
    cases rb with
    | true =>
     go_wp2_with fail
     refine (HPF.out _).mono ?_
     rintro e w4 ⟨rfl, rfl⟩
     cases pb with
     | true =>
      have HRR : Hid (R = some (G, 0 + T.length)) := Lib.hid (by rw [HR.out]; rfl)
      go_wp2_with fail
      refine bodyPost_ret (v := .tuple #[sta G, .int .i64 (0 + T.length : Nat)]) ?_ rfl ⟨by rw [HRR.out]; rfl, ?_⟩
      ·simp [results, Tryz.results139, go_sem, k0, k1, k2]
      ·exact ((hB3.setCell (Nat.le_refl _) _).setCell (Nat.le_refl _) _).setCell (Nat.le_refl _) _
     | false =>
      have HRR : Hid (R = none) := Lib.hid (by rw [HR.out]; rfl)
      go_wp2_with fail
      refine bodyPost_ret (v := .tuple #[sta ⟨false, [], 0⟩, .int .i64 0]) ?_ rfl ⟨by rw [HRR.out]; rfl, ?_⟩
      ·simp [results, Tryz.results139, go_sem, k0, k1, k2]
      ·exact ((hB3.setCell (Nat.le_refl _) _).setCell (Nat.le_refl _) _).setCell (Nat.le_refl _) _
    | false =>
     have HRR : Hid (R = none) := Lib.hid (by rw [HR.out]; rfl)
     go_wp2_with fail
     refine bodyPost_ret (v := .tuple #[sta ⟨false, [], 0⟩, .int .i64 0]) ?_ rfl ⟨by rw [HRR.out]; rfl, ?_⟩
     ·simp [results, Tryz.results139, go_sem, k0, k1, k2]
     ·exact ((hB3.setCell (Nat.le_refl _) _).setCell (Nat.le_refl _) _).setCell (Nat.le_refl _) _
   | false =>
    have HR : Hid (bgn s.data.toList true = none) := Lib.hid (by unfold bgn; rw [h1, h2]; rfl)
    simp only [h1] at HP1
    generalize bgn s.data.toList true = R at *
    clear h1 h2
    go_enter Tryz.func139, Tryz.ntmps139
    go_wp2_with fail
    refine (HP2.out _).mono ?_
    rintro e w0 ⟨rfl, rfl⟩
    go_wp2_with fail
    refine (HP1.out _).mono ?_
    rintro e w0 ⟨rfl, rfl⟩
    go_wp2_with fail
    refine bodyPost_ret (v := .tuple #[sta ⟨false, [], 0⟩, .int .i64 0]) (by simp [results, Tryz.results139, go_sem]) rfl ⟨by rw [HR.out]; rfl, ?_⟩
    exact (Below.refl _ _).alloc (Nat.le_refl _) _
end
end Go.Proofs.YtldioobbfkaebaaGreatDoor
