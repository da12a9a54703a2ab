/-
  Joined: QUnq, TxT.
-/
import Derived.Test.YtbgciajfjllciaaGreatDoorTextDeepJ3
import Derived.Test.YtbgciajfjllciaaGreatDoorTextDeepJ1
import Derived.Test.YtbgciajfjllciaaGreatDoorTextDeepJ19

/-
  What quote's Unquote is.
-/
namespace Go.Proofs.YtbgciajfjllciaaGreatDoor
open Go.RowKit Go.Maps Np Up Qp



theorem pre34 (l : List UInt8) : Lib.hasPrefix l [34] = decide (bt l 0 = 34) := by
  cases l with
  | nil => rfl
  | cons c r =>
    rw [bt_cons, Bool.eq_iff_iff, decide_eq_true_eq]
    unfold Lib.hasPrefix
    simp [List.isPrefixOf, ← UInt8.toNat_inj]
    omega
theorem b34 : (ByteArray.mk #[34]).data.toList = [34] := rfl

/-- Where Unquote stands. -/
def Ui (R : List UInt8 × Nat × Int) (l out : List UInt8) (frm pos : Nat) : Prop :=
  (pos < frm → frm ≤ l.length ∧ unq out (l.drop frm) frm = R ∧ ∀ j, pos ≤ j → j < frm → bt l j < 128) ∧ (frm ≤ pos → unq (out ++ (l.drop frm).take (pos - frm)) (l.drop pos) pos = R)
section
variable {R : List UInt8 × Nat × Int} {l out : List UInt8} {frm pos : Nat}
theorem Ui.skip (h : Ui R l out frm pos) (hp : pos < frm) : Ui R l out frm (pos + 1) := by
  obtain ⟨h1, h2, h3⟩ := h.1 hp
  refine ⟨fun hq => ⟨h1, h2, fun j hj hj2 => h3 j (by omega) hj2⟩, fun hq => ?_⟩
  obtain rfl : frm = pos + 1 := by omega
  rw [Nat.sub_self, List.take_zero, List.append_nil]
  exact h2
theorem Ui.mark (h : Ui R l out frm pos) (hp : frm ≤ pos) (hb : bt (l.drop pos) 0 = 34) : R = (out ++ (l.drop frm).take (pos - frm), pos + 1, 0) := by
  rw [← h.2 hp, unq_mark _ _ hb]
theorem Ui.bad (h : Ui R l out frm pos) (hp : frm ≤ pos) (hb : bt (l.drop pos) 0 ≠ 34) (ht : tk (l.drop pos) = none) : R = ([], pos, 1) := by
  rw [← h.2 hp, unq_bad _ _ hb ht]
theorem Ui.plain (h : Ui R l out frm pos) (hp : frm ≤ pos) (hl : l.drop pos ≠ []) (hb : bt (l.drop pos) 0 ≠ 34) (hb2 : bt (l.drop pos) 0 ≠ 92) (hb3 : 32 ≤ bt (l.drop pos) 0) {n : Nat} (hn : runeN (l.drop pos) = n) (hn0 : n ≠ 0) : Ui R l out frm (pos + n) := by
  refine ⟨fun hq => by omega, fun _ => ?_⟩
  have ht : tk (l.drop pos) = some ((l.drop pos).take n, n) := by
    rw [tk, if_neg hb2, hn, if_neg (by omega)]
  have h1 := h.2 hp
  rw [unq_step _ _ hl hb ht, List.drop_drop, List.append_assoc] at h1
  rw [show pos + n - frm = (pos - frm) + n by omega, List.take_add, List.drop_drop, show frm + (pos - frm) = pos by omega]
  exact h1
theorem Ui.esc (h : Ui R l out frm pos) (hp : frm ≤ pos) (hl : l.drop pos ≠ []) (hb : bt (l.drop pos) 0 = 92) {r n : Nat} (he : es (l.drop pos) = some (r, n)) : Ui R l (out ++ (l.drop frm).take (pos - frm) ++ Lib.encodeRune (r : Int)) (pos + n) (pos + 1) := by
  obtain ⟨h1, h2, h3, h4⟩ := es_some he
  rw [List.length_drop] at h1
  have ht : tk (l.drop pos) = some (Lib.encodeRune (r : Int), n) := by
    rw [tk, if_pos hb, he]; rfl
  have h5 := h.2 hp
  rw [unq_step _ _ hl (by rw [hb]; decide) ht, List.drop_drop] at h5
  refine ⟨fun _ => ⟨by omega, h5, fun j hj hj2 => ?_⟩, fun hq => by omega⟩
  have := h4 (j - pos) (by omega) (by omega)
  rw [bt_drop, show pos + (j - pos) = j by omega] at this
  exact this
theorem Ui.noesc (h : Ui R l out frm pos) (hp : frm ≤ pos) (hb : bt (l.drop pos) 0 = 92) (he : es (l.drop pos) = none) : R = ([], pos, 1) :=
  h.bad hp (by rw [hb]; decide) (by rw [tk, if_pos hb, he]; rfl)
theorem Ui.over (h : Ui R l out frm pos) (hp : l.length ≤ pos) : R = ([], pos, 1) := by
  have hq : frm ≤ pos := by
    rcases Nat.lt_or_ge pos frm with h1 | h1
    · have := (h.1 h1).1; omega
    · exact h1
  rw [← h.2 hq, List.drop_of_length_le hp, unq_nil]
end
theorem MapAt_others {e : TypeId} {b mb n : Nat} {f : Int → Option Int} {w w' : World} (h : MapAt w mb n f) (k : Lib.OthersKept e (some b) w w') (hne : mb ≠ b) : MapAt w' mb n f := by
  obtain ⟨D, ⟨es, clock, h1, h2⟩, h3⟩ := h
  exact ⟨D, ⟨es, clock, k mb _ h1 (fun e => hne (Option.some.inj e)) (fun _ _ e => by cases e), h2⟩, h3⟩
theorem MapAt_iter {K mb n : Nat} {f : Int → Option Int} {s : ByteArray} {pos : Nat} {w : World} (h : MapAt w mb n f) (hit : w.heap[K]? = some (.stringIter s pos)) (p : Nat) : MapAt (w.iterAt K s p) mb n f := by
  obtain ⟨D, ⟨es, clock, h1, h2⟩, h3⟩ := h
  have hne : mb ≠ K := by
    rintro rfl
    rw [hit] at h1
    cases h1
  exact ⟨D, ⟨es, clock, (Lib.iterAt_other w K mb s p hne).trans h1, h2⟩, h3⟩
theorem MapAt_ne {B b mb n : Nat} {f : Int → Option Int} {l : List UInt8} {w : World} (h : MapAt w mb n f) (hI : IsB B b l w) : mb ≠ b := by
  obtain ⟨D, ⟨es, clock, h1, h2⟩, h3⟩ := h
  rintro rfl
  rcases hI with ⟨_, v, hbk, _⟩ | ⟨_, v, hbk, _⟩ <;> (rw [h1] at hbk; cases hbk)
/-- What the letters' variable holds. -/
def Sv (w : World) (v : Value) : Prop := v = .map none ∨ ∃ mb, v = .map (some mb) ∧ MapAt w mb 8 blF
theorem Sv.iter {K : Nat} {s : ByteArray} {pos : Nat} {w : World} {v : Value} (h : Sv w v) (hit : w.heap[K]? = some (.stringIter s pos)) (p : Nat) : Sv (w.iterAt K s p) v :=
  h.imp id fun ⟨mb, h1, h2⟩ => ⟨mb, h1, MapAt_iter h2 hit p⟩
theorem Er.low {B : Nat} {w w' : World} (h : Er w) (hb : Below B w w') (hB : w.heap.size ≤ B) : Er w' := h.below (hb.mono hB)
theorem enc_len (r : Int) : (Lib.encodeRune r).length ≤ 4 := by
  rw [Lib.encodeRune, List.length_map]
  exact (Lib.encodeRuneZ_length r).2

set_option maxRecDepth 100000 in
set_option maxHeartbeats 8000000 in
theorem unquote_any (s : ByteArray) (w : World) (hs : s.size ≤ 1073741824) (hE : Er w) :
    Calls Tryz.prog 68 #[.string s] w fun e w' => e = .returned (uqv (unqs s.data.toList)) ∧ Below w.heap.size w w' := by
  have hB : Below w.heap.size w w := Below.refl _ _
  by_cases h34 : bt s.data.toList 0 = 34
  · have HP : Hid (Lib.hasPrefix s.data.toList [34] = true) := Lib.hid (by rw [pre34, decide_eq_true h34])
    have HF : Hid (unqs s.data.toList = unq [] (s.data.toList.drop 1) 1) := Lib.hid (by rw [unqs, if_pos h34])
    generalize unqs s.data.toList = R at HF ⊢
    go_enter Tryz.func68, Tryz.ntmps68
    go_wp2_with (go_at_call 71; refine (Tryz.strings_HasPrefix _ _ _).mono ?_; rintro e w1 ⟨rfl, rfl⟩; rw [b34, HP.out])
    have hl1 : 1 ≤ s.size := by
      have := ne_of_bt (l := s.data.toList) (k := 0) (by omega)
      rw [size_toList] at this
      omega
    have HU : Hid (Ui R s.data.toList [] 1 0) := Lib.hid ⟨fun _ => ⟨by rw [size_toList]; exact hl1, HF.out.symm, fun j _ hj => by rw [show j = 0 by omega, h34]; decide⟩, fun h => by omega⟩
    clear HF h34 HP
    generalize hbk : w1.heap.size = b at *
    have hfresh : IsB b b [] (w1.alloc (.cells #[.pointer none, .slice none 0 0] 63)) := by
      have := Lib.IsBuilderF.of (Lib.fresh_isBuilder 63 5 w1)
      rw [hbk] at this
      exact this
    have hba : Below b w1 (w1.alloc (.cells #[.pointer none, .slice none 0 0] 63)) := (Below.refl _ _).alloc (by omega) _
    go_loopw [6, 7] (fun sv u wr => ∃ (frm pos : Nat) (out : List UInt8), u = .int .i64 frm ∧ IsB b b out wr ∧ wr.heap[b + 1]? = some (.stringIter s pos) ∧ Below b w1 wr ∧ pos ≤ s.size ∧ frm ≤ s.size ∧ out.length ≤ 4 * frm ∧ Sv wr sv ∧ Hid (Ui R s.data.toList out frm pos)) (fun _ _ wr => s.size - wr.iterPos (b + 1))
    case atStart =>
      refine ⟨1, 0, [], rfl, hfresh.alloc _, ?_, hba.alloc (by simp; omega) _, by omega, by omega, by simp, .inl rfl, HU⟩
      have := World.iter_heap (w1.alloc (.cells #[.pointer none, .slice none 0 0] 63)) s 0
      simp only [World.size_alloc, hbk] at this
      exact this
    case round =>
      obtain ⟨frm, pos, out, rfl, hI, hit, hbw, hpl, hfl, hol, hSv, HQ⟩ := hrel
      have hIlt := IsB_lt hI
      have hszb : b ≤ wr.heap.size := by omega
      by_cases hp : pos < s.size
      · have hnx : ∀ ty, (Instr.next (.pointer (some ⟨b + 1, 0, none⟩)) true ty).run Tryz.prog wr = _ := fun ty => Lib.run_next_any_at wr (b + 1) s pos ty hit hp
        have hne := drop_ne s pos hp
        have hbp : bt (s.data.toList.drop pos) 0 = s[pos].toNat := by
          have := bt_at' s pos 0 (by omega); simpa using this
        by_cases hlo : s[pos].toNat < 128
        · have hdl := dec_low (l := s.data.toList.drop pos) (by omega)
          rw [hbp] at hdl
          rw [dec_at, hdl] at hnx
          simp only at hnx
          have hI2 := hI.iterAt hit (pos + 1)
          have hit2 := Lib.iterAt_heap wr (b + 1) s pos (pos + 1) hit
          have hbw2 := Lib.below_iterAt hbw (k := b + 1) (by omega) s (pos + 1)
          have hSv2 := hSv.iter hit (pos + 1)
          have hsz2 : b ≤ (wr.iterAt (b + 1) s (pos + 1)).heap.size := by rw [Lib.iterAt_size]; omega
          by_cases hsk : pos < frm
          · have HN : Hid (Ui R s.data.toList out frm (pos + 1)) := Lib.hid (HQ.out.skip hsk)
            clear HQ hne hbp hdl
            go_wp2_with fail
            go_roundw
            case rel => exact ⟨frm, pos + 1, out, rfl, hI2, hit2, hbw2, by omega, hfl, hol, hSv2, HN⟩
            case measure =>
              simp only [World.iterPos, hit2, hit]
              omega
          have hfp : frm ≤ pos := by omega
          have hnsk : ¬ (pos : Int) < (frm : Int) := by omega
          by_cases h34 : s[pos].toNat = 34
          · have HN : Hid (R = (out ++ (s.data.toList.drop frm).take (pos - frm), pos + 1, 0)) := Lib.hid (HQ.out.mark hfp (by rw [hbp, h34]))
            have hq : ((s[pos].toNat : Int) == 34) = true := by rw [beq_iff_eq]; omega
            clear HQ hne hbp hdl h34
            go_wp2_with fail
            refine (Tryz.writeString b b _ _ _ hI2 (by rw [Lib.byteCells_length, ByteArray.size_extract]; omega) hsz2).mono ?_
            rintro e w4 ⟨rfl, h4, b4, -⟩
            rw [ext_cells, ← Lib.byteCells_append] at h4
            have hsz4 := Nat.le_trans hsz2 b4.size
            go_wp2_with fail
            refine (Tryz.Builder_String_any_k b b _ _ (.inr h4) hsz4).mono ?_
            rintro e w6 ⟨rfl, _, b6, _⟩
            go_wp2_with fail
            go_ret3
            exact ⟨by rw [HN.out]; rfl, by first | exact (hbw2.trans b4).trans b6 | (rw [hbk]; exact (hbw2.trans b4).trans b6)⟩
          have hq34 : ((s[pos].toNat : Int) == 34) = false := by rw [beq_eq_false_iff_ne]; omega
          by_cases h92 : s[pos].toNat = 92
          · have hq92 : ((s[pos].toNat : Int) == 92) = true := by rw [beq_iff_eq]; omega
            have hq30 : ∀ (w : World) (r : Option Nat), (binOp .eql 105 (.map r) (.map none)).run Tryz.prog w = .ok (.bool r.isNone) w := fun w r => run_eql_map_nil w _ _ _ r Tryz.underlying105
            have hes : (s.extract pos s.size).size ≤ 1073741824 := by rw [ByteArray.size_extract]; omega
            have hee := ext_end s pos
            cases he : es (s.data.toList.drop pos) with
            | none =>
              have HN : Hid (R = ([], pos, 1)) := Lib.hid (HQ.out.noesc hfp (by rw [hbp, h92]) he)
              have HES : Hid (es (s.extract pos s.size).data.toList = none) := Lib.hid (by rw [hee, he])
              clear HQ hne hbp hdl h92 hee he h34
              rcases hSv2 with rfl | ⟨mb, rfl, hM2⟩
              · clear hSv
                go_wp2_with fail
                refine (byLetter_any _).mono ?_
                rintro e w4 ⟨rfl, hM4, b4⟩
                have hI4 := IsB_kept hI2 b4
                have hit4 := iter_kept hit2 b4
                have hbw4 := hbw2.trans (b4.mono hsz2)
                have hsz4 := Nat.le_trans hsz2 b4.size
                have hE4 := hE.low hbw4 (Nat.le_of_eq hbk)
                go_wp2_with fail
                refine (escape_any _ 8 _ _ hes hE4 hM4).mono ?_
                rintro e w5 ⟨rfl, b5⟩
                rw [HES.out, escV]
                have hI5 := IsB_kept hI4 b5
                have hit5 := iter_kept hit4 b5
                have hbw5 := hbw4.trans (b5.mono hsz4)
                have hsz5 := Nat.le_trans hsz4 b5.size
                have hM5 := hM4.below b5 hM4.lt
                have hne5 := MapAt_ne hM5 hI5
                go_wp2_with fail
                all_goals go_ret3
                all_goals exact ⟨by rw [HN.out]; rfl, by first | exact hbw5 | (rw [hbk]; exact hbw5)⟩
              · clear hSv
                have hI4 := hI2; have hit4 := hit2; have hbw4 := hbw2; have hsz4 := hsz2; have hM4 := hM2
                have hE4 := hE.low hbw4 (Nat.le_of_eq hbk)
                clear hI2 hit2 hbw2 hM2 hsz2
                go_wp2_with fail
                refine (escape_any _ 8 _ _ hes hE4 hM4).mono ?_
                rintro e w5 ⟨rfl, b5⟩
                rw [HES.out, escV]
                have hI5 := IsB_kept hI4 b5
                have hit5 := iter_kept hit4 b5
                have hbw5 := hbw4.trans (b5.mono hsz4)
                have hsz5 := Nat.le_trans hsz4 b5.size
                have hM5 := hM4.below b5 hM4.lt
                have hne5 := MapAt_ne hM5 hI5
                go_wp2_with fail
                all_goals go_ret3
                all_goals exact ⟨by rw [HN.out]; rfl, by first | exact hbw5 | (rw [hbk]; exact hbw5)⟩
            | some x =>
              obtain ⟨r, n⟩ := x
              obtain ⟨e1, e2, e3, -⟩ := es_some he
              rw [List.length_drop, size_toList] at e1
              have HN : Hid (Ui R s.data.toList (out ++ (s.data.toList.drop frm).take (pos - frm) ++ Lib.encodeRune (r : Int)) (pos + n) (pos + 1)) := Lib.hid (HQ.out.esc hfp hne (by rw [hbp, h92]) he)
              have hrn : r ≤ 1114111 := by unfold ru at e2; omega
              have hn2 : 2 ≤ n := by omega
              have hlen : (out ++ (s.data.toList.drop frm).take (pos - frm) ++ Lib.encodeRune (r : Int)).length ≤ 4 * (pos + n) := by
                have := enc_len (r : Int)
                rw [List.length_append, List.length_append, List.length_take]
                omega
              have HES : Hid (es (s.extract pos s.size).data.toList = some (r, n)) := Lib.hid (by rw [hee, he])
              have hn0 : ((n : Int) == 0) = false := by rw [beq_eq_false_iff_ne]; omega
              clear HQ hne hbp hdl h92 hee he h34 e2 e3
              rcases hSv2 with rfl | ⟨mb, rfl, hM2⟩
              · clear hSv
                go_wp2_with fail
                refine (byLetter_any _).mono ?_
                rintro e w4 ⟨rfl, hM4, b4⟩
                have hI4 := IsB_kept hI2 b4
                have hit4 := iter_kept hit2 b4
                have hbw4 := hbw2.trans (b4.mono hsz2)
                have hsz4 := Nat.le_trans hsz2 b4.size
                have hE4 := hE.low hbw4 (Nat.le_of_eq hbk)
                go_wp2_with fail
                refine (escape_any _ 8 _ _ hes hE4 hM4).mono ?_
                rintro e w5 ⟨rfl, b5⟩
                rw [HES.out, escV]
                have hI5 := IsB_kept hI4 b5
                have hit5 := iter_kept hit4 b5
                have hbw5 := hbw4.trans (b5.mono hsz4)
                have hsz5 := Nat.le_trans hsz4 b5.size
                have hM5 := hM4.below b5 hM4.lt
                have hne5 := MapAt_ne hM5 hI5
                go_wp2_with fail
                refine (Tryz.writeString b b _ _ _ hI5 (by rw [Lib.byteCells_length, ByteArray.size_extract]; omega) hsz5).mono ?_
                rintro e w6 ⟨rfl, h6, b6, k6⟩
                rw [ext_cells, ← Lib.byteCells_append] at h6
                have hsz6 := Nat.le_trans hsz5 b6.size
                have hit6 := k6.iter hit5 (by omega)
                have hM6 := MapAt_others hM5 k6 hne5
                clear k6
                go_wp2_with fail
                refine (Tryz.writeRune b b _ _ (by omega) (by omega) _ (.inr h6) (by rw [Lib.byteCells_length, List.length_append, List.length_take]; omega) hsz6).mono ?_
                rintro e w7 ⟨rfl, h7, b7, k7⟩
                rw [← Lib.byteCells_encodeRune, ← Lib.byteCells_append] at h7
                have hit7 := k7.iter hit6 (by omega)
                have hM7 := MapAt_others hM6 k7 hne5
                clear k7
                go_wp2_with fail
                go_roundw
                case rel => exact ⟨pos + n, pos + 1, _, by go_num, .inr h7, hit7, (hbw5.trans b6).trans b7, by omega, by omega, hlen, .inr ⟨_, rfl, hM7⟩, HN⟩
                case measure =>
                  simp only [World.iterPos, hit7, hit]
                  omega
              · clear hSv
                have hI4 := hI2; have hit4 := hit2; have hbw4 := hbw2; have hsz4 := hsz2; have hM4 := hM2
                have hE4 := hE.low hbw4 (Nat.le_of_eq hbk)
                clear hI2 hit2 hbw2 hM2 hsz2
                go_wp2_with fail
                refine (escape_any _ 8 _ _ hes hE4 hM4).mono ?_
                rintro e w5 ⟨rfl, b5⟩
                rw [HES.out, escV]
                have hI5 := IsB_kept hI4 b5
                have hit5 := iter_kept hit4 b5
                have hbw5 := hbw4.trans (b5.mono hsz4)
                have hsz5 := Nat.le_trans hsz4 b5.size
                have hM5 := hM4.below b5 hM4.lt
                have hne5 := MapAt_ne hM5 hI5
                go_wp2_with fail
                refine (Tryz.writeString b b _ _ _ hI5 (by rw [Lib.byteCells_length, ByteArray.size_extract]; omega) hsz5).mono ?_
                rintro e w6 ⟨rfl, h6, b6, k6⟩
                rw [ext_cells, ← Lib.byteCells_append] at h6
                have hsz6 := Nat.le_trans hsz5 b6.size
                have hit6 := k6.iter hit5 (by omega)
                have hM6 := MapAt_others hM5 k6 hne5
                clear k6
                go_wp2_with fail
                refine (Tryz.writeRune b b _ _ (by omega) (by omega) _ (.inr h6) (by rw [Lib.byteCells_length, List.length_append, List.length_take]; omega) hsz6).mono ?_
                rintro e w7 ⟨rfl, h7, b7, k7⟩
                rw [← Lib.byteCells_encodeRune, ← Lib.byteCells_append] at h7
                have hit7 := k7.iter hit6 (by omega)
                have hM7 := MapAt_others hM6 k7 hne5
                clear k7
                go_wp2_with fail
                go_roundw
                case rel => exact ⟨pos + n, pos + 1, _, by go_num, .inr h7, hit7, (hbw5.trans b6).trans b7, by omega, by omega, hlen, .inr ⟨_, rfl, hM7⟩, HN⟩
                case measure =>
                  simp only [World.iterPos, hit7, hit]
                  omega
          have hq92 : ((s[pos].toNat : Int) == 92) = false := by rw [beq_eq_false_iff_ne]; omega
          by_cases h32 : s[pos].toNat < 32
          · have HN : Hid (R = ([], pos, 1)) := Lib.hid (HQ.out.bad hfp (by rw [hbp]; exact h34) (by rw [tk, if_neg (by rw [hbp]; exact h92), if_pos (.inl (by rw [hbp]; exact h32))]))
            clear HQ hne hbp hdl
            go_wp2_with fail
            all_goals go_ret3
            all_goals exact ⟨by rw [HN.out]; rfl, by first | exact hbw2 | (rw [hbk]; exact hbw2)⟩
          · have hrn := runeN_one (l := s.data.toList.drop pos) (by omega)
            have HN : Hid (Ui R s.data.toList out frm (pos + 1)) := Lib.hid (HQ.out.plain hfp hne (by rw [hbp]; exact h34) (by rw [hbp]; exact h92) (by omega) hrn (by decide))
            have HS : Hid (∀ w, Calls Tryz.prog 93 #[.int .i32 (s[pos].toNat : Nat), .string (s.extract pos s.size)] w fun e w' => e = .returned (.bool false) ∧ w = w') := Lib.hid (by
              intro w
              have h := stray_any s[pos].toNat (s.extract pos s.size) w (by rw [ext_end]; exact hne) (by rw [ext_end, hdl])
              rw [ext_end, hrn] at h
              exact h)
            clear HQ hne hbp hdl hrn
            go_wp2_with (go_at_call 93; refine (HS.out _).mono ?_; rintro e w4 ⟨rfl, rfl⟩)
            go_roundw
            case rel => exact ⟨frm, pos + 1, out, rfl, hI2, hit2, hbw2, by omega, hfl, hol, hSv2, HN⟩
            case measure =>
              simp only [World.iterPos, hit2, hit]
              omega
        · have hfp : frm ≤ pos := by
            rcases Nat.lt_or_ge pos frm with h1 | h1
            · have := (HQ.out.1 h1).2.2 pos (Nat.le_refl _) h1
              rw [← Nat.add_zero pos, ← bt_drop, hbp] at this
              omega
            · exact h1
          have hnsk : ¬ (pos : Int) < (frm : Int) := by omega
          have hdh := (dec_high hne (by rw [hbp]; omega)).1
          have hwd := dec_width _ hne
          rw [List.length_drop, size_toList] at hwd
          have hdg := dec_good (l := s.data.toList.drop pos)
          have hstr : ∀ w, Calls Tryz.prog 93 #[.int .i32 ((Utf8.decode s pos).1 : Nat), .string (s.extract pos s.size)] w fun e w' => e = .returned (.bool (decide (runeN (s.data.toList.drop pos) = 0))) ∧ w = w' := by
            intro w
            have h := stray_any (Utf8.decode s pos).1 (s.extract pos s.size) w (by rw [ext_end]; exact hne) (by rw [ext_end, dec_at])
            rw [ext_end] at h
            exact h
          rw [dec_at] at hnx hstr
          have hrl := Lib.decodeL_rune (s.data.toList.drop pos)
          generalize hD : Lib.decodeL (s.data.toList.drop pos) = Dc at hnx hdh hwd hstr hdg hrl
          obtain ⟨r, n⟩ := Dc
          simp only at hnx hdh hwd hstr hdg hrl
          have HS := Lib.hid hstr
          have hI2 := hI.iterAt hit (pos + n)
          have hit2 := Lib.iterAt_heap wr (b + 1) s pos (pos + n) hit
          have hbw2 := Lib.below_iterAt hbw (k := b + 1) (by omega) s (pos + n)
          have hSv2 := hSv.iter hit (pos + n)
          obtain ⟨hn1, hn2⟩ := hwd
          have hq34 : ((r : Int) == 34) = false := by rw [beq_eq_false_iff_ne]; omega
          have hq92 : ((r : Int) == 92) = false := by rw [beq_eq_false_iff_ne]; omega
          have hq32 : ¬ (r : Int) < 32 := by omega
          by_cases h0 : runeN (s.data.toList.drop pos) = 0
          · have HN : Hid (R = ([], pos, 1)) := Lib.hid (HQ.out.bad hfp (by rw [hbp]; omega) (by rw [tk, if_neg (by rw [hbp]; omega), if_pos (.inr h0)]))
            have HD : Hid (decide (runeN (s.data.toList.drop pos) = 0) = true) := Lib.hid (decide_eq_true h0)
            clear HQ hne hbp hdh hstr hdg hD h0 hlo hrl
            go_wp2_with (go_at_call 93; refine (HS.out _).mono ?_; rintro e w4 ⟨rfl, rfl⟩; rw [HD.out])
            all_goals go_ret3
            all_goals exact ⟨by rw [HN.out]; rfl, by first | exact hbw2 | (rw [hbk]; exact hbw2)⟩
          · have HN : Hid (Ui R s.data.toList out frm (pos + n)) := Lib.hid (HQ.out.plain hfp hne (by rw [hbp]; omega) (by rw [hbp]; omega) (by rw [hbp]; omega) (hdg h0).symm (by omega))
            have HD : Hid (decide (runeN (s.data.toList.drop pos) = 0) = false) := Lib.hid (decide_eq_false h0)
            clear HQ hne hbp hdh hstr hdg hD h0 hlo hrl
            go_wp2_with (go_at_call 93; refine (HS.out _).mono ?_; rintro e w4 ⟨rfl, rfl⟩; rw [HD.out])
            go_roundw
            case rel => exact ⟨frm, pos + n, out, rfl, hI2, hit2, hbw2, by omega, hfl, hol, hSv2, HN⟩
            case measure =>
              simp only [World.iterPos, hit2, hit]
              omega
      · have hnx : ∀ ty, (Instr.next (.pointer (some ⟨b + 1, 0, none⟩)) true ty).run Tryz.prog wr = _ := fun ty => Lib.run_next_end_at wr (b + 1) s pos ty hit hp
        have HN : Hid (R = ([], s.size, 1)) := Lib.hid (by
          rw [HQ.out.over (by rw [size_toList]; omega), show pos = s.size by omega])
        clear HQ
        go_wp2_with fail
        all_goals go_ret3
        all_goals exact ⟨by rw [HN.out]; rfl, by first | exact hbw | (rw [hbk]; exact hbw)⟩
  · have HP : Hid (Lib.hasPrefix s.data.toList [34] = false) := Lib.hid (by rw [pre34, decide_eq_false h34])
    have HF : Hid (unqs s.data.toList = ([], 0, 1)) := Lib.hid (by rw [unqs, if_neg h34])
    clear h34
    go_enter Tryz.func68, Tryz.ntmps68
    go_wp2_with (go_at_call 71; refine (Tryz.strings_HasPrefix _ _ _).mono ?_; rintro e w1 ⟨rfl, rfl⟩; rw [b34, HP.out])
    all_goals go_ret3
    all_goals exact ⟨by rw [HF.out]; rfl, hB⟩
end Go.Proofs.YtbgciajfjllciaaGreatDoor

/-
  Plain words: a value's text is read as it, whatever stands behind that is no numeral. No program stands here.
-/
namespace Go.Proofs.YtbgciajfjllciaaGreatDoor
namespace Tp
open Go.RowKit Np Rw Vp Up Qp

def lit (ln : Bool) (d : Nat) (t : Tr Nd) : List Nd × List UInt8 := (flat (nmd [] t), prT ln (d + 1) t)
def oit (ln : Bool) (d : Nat) (t : Tr Nd) : Pr × List UInt8 := ((t.nd.name, flat (nmd [] t)), prN ln t.nd.name ++ prT ln (d + 1) t)
theorem prK_list (ln : Bool) (d : Nat) : ∀ ts, prK ln d false ts = tl (prL ln (d + 1)) (ts.map (lit ln d)) ++ prL ln d
  | [] => by rw [prK_nil]; rfl
  | t :: ts => by rw [prK_cons, prK_list ln d ts]; simp [tl, lit]
theorem prK_obj (ln : Bool) (d : Nat) : ∀ ts, prK ln d true ts = tl (prL ln (d + 1)) (ts.map (oit ln d)) ++ prL ln d
  | [] => by rw [prK_nil]; rfl
  | t :: ts => by rw [prK_cons, prK_obj ln d ts]; simp [tl, oit]

theorem printN_hd {n : Nd} (hr : right n = true) : ∃ a T, printN n.s n.neg n.e = a :: T ∧ (a.toNat = 45 ∨ 48 ≤ a.toNat ∧ a.toNat ≤ 57) := by
  have h := readF_first (l := printN n.s n.neg n.e) (by rw [print_back hr])
  cases hp : printN n.s n.neg n.e with
  | nil => rw [hp] at h; simp [bt] at h
  | cons a T => rw [hp] at h; exact ⟨a, T, rfl, h⟩
/-- The first byte. -/
theorem prT_hd (ln : Bool) (d : Nat) (n : Nd) (ks : List (Tr Nd)) (hp : plainN n = true) : ∃ a T, prT ln d (.mk n ks) = a :: T ∧ blk a.toNat = false ∧ a.toNat ≠ 93 ∧ a.toNat ≠ 125 := by
  rw [prT_mk]
  by_cases h5 : n.kind = 5
  · rw [if_pos h5]; exact ⟨91, _, rfl, by decide, by decide, by decide⟩
  rw [if_neg h5]
  by_cases h6 : n.kind = 6
  · rw [if_pos h6]; exact ⟨123, _, rfl, by decide, by decide, by decide⟩
  rw [if_neg h6]
  unfold scT
  by_cases hw : n.kind = 0 ∨ n.kind = 1 ∨ n.kind = 2
  · rw [if_pos hw]
    unfold wordT
    split
    · exact ⟨110, _, rfl, by decide, by decide, by decide⟩
    · split
      · exact ⟨102, _, rfl, by decide, by decide, by decide⟩
      · exact ⟨116, _, rfl, by decide, by decide, by decide⟩
  rw [if_neg hw]
  by_cases h3 : n.kind = 3
  · rw [if_pos h3]
    have hr : right { n with name := [] } = true := by
      unfold plainN at hp
      rw [if_neg hw, if_pos h3] at hp
      exact hp
    obtain ⟨a, T, h1, h2⟩ := printN_hd hr
    refine ⟨a, T, h1, ?_, by omega, by omega⟩
    simp [blk]; omega
  · rw [if_neg h3]; exact ⟨34, _, rfl, by decide, by decide, by decide⟩

theorem fd_reads {S : List UInt8} {n : Nat} {ln : Bool} {nm T : List UInt8} {v : List Nd} (hv : Lib.validD nm = true) (h : Reads (vlR S n) S (v, T)) : Reads (fdR (vlR S n) S) S ((nm, v), prN ln nm ++ T) := by
  intro i B Q hB hd hQ
  simp only at hd ⊢
  have e : prN ln nm ++ T ++ Q = quo nm ++ (58 :: ((if ln = true then [32] else []) ++ (T ++ Q))) := by simp [prN]
  rw [e] at hd
  have h1 : sk S i = i + B.length := sk_blanks hd hB (fun y hy => by simp [quo] at hy; subst hy; decide)
  have h2 := drop_of hd
  have h3 : stR S (i + B.length) = .ok nm (i + B.length + (quo nm).length) := by
    unfold stR
    rw [h2, quo_back nm _ hv]
    rfl
  have h4 := drop_of h2
  have h5 := sk_here h4 (by decide)
  have h6 : S.drop (i + B.length + (quo nm).length + 1) = (if ln = true then [32] else []) ++ (T ++ Q) := drop_of (a := [58]) h4
  have h7 := h _ (if ln = true then [32] else []) Q (by cases ln <;> (intro c hc; simp at hc); subst hc; decide) h6 hQ
  unfold fdR
  rw [h1, h3]
  show (if bt S (sk S (i + B.length + (quo nm).length)) = 58 then _ else _) = _
  rw [h5, if_pos (show bt S _ = 58 from bt_of h4), h7]
  refine congrArg (Rs.ok _) ?_
  simp only [List.length_append, prN, List.length_cons]
  omega
theorem fold_snoc (L : List (List Nd × List UInt8)) : ∀ acc, L.foldl (fun a y => snoc a y.1) acc = acc ++ L.map (·.1) := by
  induction L with
  | nil => simp
  | cons x L ih => intro acc; rw [List.foldl_cons, ih]; simp [snoc]
theorem fold_put (L : List (Pr × List UInt8)) : ∀ acc : List Pr, ((acc ++ L.map (·.1)).map (·.1)).Nodup → L.foldl (fun a y => putP a y.1) acc = acc ++ L.map (·.1) := by
  induction L with
  | nil => simp
  | cons x L ih =>
    intro acc h
    have hx : x.1.1 ∉ acc.map (·.1) := by
      rw [List.map_append, List.nodup_append] at h
      intro hm
      exact h.2.2 _ hm _ (by simp) rfl
    rw [List.foldl_cons, putP_new acc x.1 hx, ih]
    · simp
    · simpa using h

theorem kids_okP {n : Nd} {ks : List (Tr Nd)} (h1 : okT many (.mk n ks)) (h2 : rightT (.mk n ks) = true) : ∀ u ∈ ks, okT many u ∧ rightT u = true := by
  have := val_kids (t := nmd [] (.mk n ks)) (Val.clr h1 h2)
  rwa [nmd_ks] at this
theorem kid_lessP {n : Nd} {ks : List (Tr Nd)} {u : Tr Nd} (hu : u ∈ ks) : (flat u).length < (flat (.mk n ks)).length := by
  obtain ⟨a, c, rfl⟩ := List.append_of_mem hu
  rw [flat_mk, flats_append, flats_cons]
  simp; omega
theorem wo_back {S Q : List UInt8} {j : Nat} {k : Int} (hk : k = 0 ∨ k = 1 ∨ k = 2) (h : S.drop j = wordT k ++ Q) : woR S j = .ok [hdN k 0] (j + (wordT k).length) ∧ (bt S j = 110 ∨ bt S j = 102 ∨ bt S j = 116) := by
  have hb : bt S j = bt (wordT k ++ Q) 0 := by
    have : bt (S.drop j) 0 = bt S j := by rw [bt_drop, Nat.add_zero]
    rw [← this, h]
  rcases hk with rfl | rfl | rfl
  · refine ⟨?_, .inl (by rw [hb]; rfl)⟩
    unfold woR; rw [h, if_pos (by rfl)]; rfl
  · refine ⟨?_, .inr (.inl (by rw [hb]; rfl))⟩
    unfold woR; rw [h, if_neg (by show ¬ (Lib.hasPrefix (102 :: ([97, 108, 115, 101] ++ Q)) wNull = true); simp [Lib.hasPrefix, wNull]), if_pos (by simp [Lib.hasPrefix, wFalse, wordT])]; rfl
  · refine ⟨?_, .inr (.inr (by rw [hb]; rfl))⟩
    unfold woR; rw [h, if_neg (by simp [Lib.hasPrefix, wNull, wordT, wTrue]), if_neg (by simp [Lib.hasPrefix, wFalse, wordT, wTrue]), if_pos (by simp [Lib.hasPrefix, wTrue, wordT])]; rfl

theorem back (ln : Bool) (S : List UInt8) : ∀ (N : Nat) (t : Tr Nd) (d n : Nat), (flat t).length ≤ N → okT many t → rightT t = true → depth t ≤ n → Reads (vlR S n) S (flat (nmd [] t), prT ln d t)
  | 0, t, _, _, hN, _, _, _ => by have := flat_pos t; omega
  | N + 1, .mk nd ks, d, n, hN, h1, h2, hd => by
    intro i B Q hB h hQ
    simp only at h ⊢
    have hval : Val (nmd [] (.mk nd ks)) := Val.clr h1 h2
    have hpl : plainN nd = true := by rw [rightT_mk, Bool.and_eq_true] at h2; exact h2.1
    obtain ⟨a, T0, hT, ha, -, -⟩ := prT_hd ln d nd ks hpl
    have hsk : sk S i = i + B.length := sk_blanks h hB (fun y hy => by rw [hT] at hy; injection hy with hy; subst hy; exact ha)
    have hj := drop_of h
    have hsj : sk S (i + B.length) = i + B.length := by rw [← hsk, sk_sk]
    rw [vlR_sk, hsk]
    generalize i + B.length = j at hj hsj ⊢
    have hks : nd.kind ≠ 5 → nd.kind ≠ 6 → ks = [] := fun h5 h6 => by
      have h3 := (plainN_many hpl).2 h5 h6
      have h4 : nd.many = ks.length := (okT_mk.1 h1).1
      exact List.eq_nil_of_length_eq_zero (by omega)
    have hkid : ∀ u ∈ ks, okT many u ∧ rightT u = true := kids_okP h1 h2
    -- what is no list and no object
    have sc : ∀ arr obj, nd.kind ≠ 5 → nd.kind ≠ 6 → vl1 S arr obj j = .ok (flat (nmd [] (.mk nd ks))) (j + (prT ln d (.mk nd ks)).length) := by
      intro arr obj h5 h6
      have hk0 := hks h5 h6
      subst hk0
      have hfl : flat (nmd [] (.mk nd [])) = [nmN [] nd] := by rw [nmd, flat_mk]; rfl
      have hpt : prT ln d (.mk nd []) = scT nd := by rw [prT_mk, if_neg h5, if_neg h6]
      rw [hfl, hpt]
      rw [hpt] at hj
      by_cases hw : nd.kind = 0 ∨ nd.kind = 1 ∨ nd.kind = 2
      · have e : scT nd = wordT nd.kind := by unfold scT; rw [if_pos hw]
        rw [e] at hj ⊢
        obtain ⟨g1, g2⟩ := wo_back hw hj
        have hn : nmN [] nd = hdN nd.kind 0 := by
          unfold plainN at hpl
          rw [if_pos hw] at hpl
          simp at hpl
          obtain ⟨⟨⟨p1, p2⟩, p3⟩, p4⟩ := hpl
          obtain ⟨a1, a2, a3, a4, a5, a6⟩ := nd
          simp only at p1 p2 p3 p4
          subst p1 p2 p3 p4
          rfl
        unfold vl1
        rw [if_neg (by omega), if_neg (by omega), if_neg (by omega), if_neg (by omega), g1, hn]
      · by_cases h3 : nd.kind = 3
        · have e : scT nd = printN nd.s nd.neg nd.e := by unfold scT; rw [if_neg hw, if_pos h3]
          rw [e] at hj ⊢
          have hr : right (nmN [] nd) = true := by
            unfold plainN at hpl
            rw [if_neg hw, if_pos h3] at hpl
            exact hpl
          obtain ⟨g1, g2⟩ := nu_back (n := nmN [] nd) hr hj hQ
          unfold vl1
          rw [if_neg (by omega), if_neg (by omega), if_neg (by omega), if_pos g2, g1]
          rfl
        · have e : scT nd = quo nd.s := by unfold scT; rw [if_neg hw, if_neg h3]
          rw [e] at hj ⊢
          have h4 : nd.kind = 4 := by
            unfold plainN at hpl
            rw [if_neg hw, if_neg h3] at hpl
            by_cases h4 : nd.kind = 4
            · exact h4
            · rw [if_neg h4, if_neg (by omega)] at hpl; cases hpl
          unfold plainN at hpl
          rw [if_neg hw, if_neg h3, if_pos h4] at hpl
          simp at hpl
          obtain ⟨⟨⟨p1, p2⟩, p3⟩, p4⟩ := hpl
          have hb : bt S j = 34 := bt_of (c := 34) (R := wrs nd.s ++ [34] ++ Q) (by rw [hj]; simp [quo])
          have hq : stR S j = .ok nd.s (j + (quo nd.s).length) := by unfold stR; rw [hj, quo_back nd.s Q p2]; rfl
          unfold vl1
          rw [if_neg (by omega), if_neg (by omega), if_pos hb, hq]
          obtain ⟨a1, a2, a3, a4, a5, a6⟩ := nd
          simp only at p1 p3 p4 h4
          subst p1 p3 p4 h4
          rfl
    by_cases h5 : nd.kind = 5
    · obtain ⟨n, rfl⟩ : ∃ m, n = m + 1 := ⟨n - 1, by rw [depth_mk, if_pos (show cont nd.kind = true by rw [h5]; rfl)] at hd; omega⟩
      have hdk : depths ks ≤ n := by rw [depth_mk, if_pos (show cont nd.kind = true by rw [h5]; rfl)] at hd; omega
      rw [vlR_succ, hsj]
      have hpt : prT ln d (.mk nd ks) = 91 :: (prB ln d false ks ++ [93]) := by rw [prT_mk, if_pos h5]
      have hbj : bt S j = 91 := bt_of (c := 91) (R := prB ln d false ks ++ [93] ++ Q) (by rw [hj, hpt]; rfl)
      have hpart : ptR (vlR S n) snoc [] S 93 j = .ok (ks.map fun u => (lit ln d u).1) (j + (prT ln d (.mk nd ks)).length) := by
        cases ks with
        | nil =>
          rw [hpt, prB_nil] at hj ⊢
          exact part_none (c := 93) (by decide) [] 91 j Q (by rw [hj]; rfl)
        | cons t ts =>
          have e : prB ln d false (t :: ts) = prL ln (d + 1) ++ ((lit ln d t).2 ++ (tl (prL ln (d + 1)) (ts.map (lit ln d)) ++ prL ln d)) := by rw [prB_cons, prK_list]; simp [lit]
          have hrd : ∀ y ∈ lit ln d t :: ts.map (lit ln d), Reads (vlR S n) S y := by
            intro y hy
            rw [← List.map_cons] at hy
            obtain ⟨u, hu, rfl⟩ := List.mem_map.1 hy
            have hlen : (flat u).length ≤ N := by
              have := kid_lessP (n := nd) hu; omega
            have hb := back ln S N u (d + 1) n hlen (hkid u hu).1 (hkid u hu).2 (Nat.le_trans (depths_le hu) hdk)
            exact hb
          obtain ⟨a', T', g1, g2, g3⟩ : ∃ a T, (lit ln d t).2 = a :: T ∧ blk a.toNat = false ∧ a.toNat ≠ (93 : UInt8).toNat := by
            cases t with
            | mk n2 k2 =>
              have hp2 : plainN n2 = true := by have := (hkid (.mk n2 k2) (by simp)).2; rw [rightT_mk, Bool.and_eq_true] at this; exact this.1
              obtain ⟨a, T, g1, g2, g3, g4⟩ := prT_hd ln (d + 1) n2 k2 hp2
              exact ⟨a, T, g1, g2, g3⟩
          have hp := part_back (put := snoc) (c := 93) (P := prL ln (d + 1)) (E := prL ln d) (blk_prL _ _) (blk_prL _ _) (by decide) (by decide) (by decide) [] (lit ln d t) (ts.map (lit ln d)) 91 j Q hrd ⟨a', T', g1, g2, g3⟩ (by rw [hj, hpt, e]; simp)
          have hp2 : ptR (vlR S n) snoc [] S 93 j = _ := hp
          rw [hp2, fold_snoc]
          · refine congr (congrArg Rs.ok ?_) ?_
            · simp [Function.comp_def]
            · rw [hpt, e]; simp only [List.length_cons, List.length_append, List.length_nil]; omega
      unfold vl1
      rw [if_pos hbj]
      show mapR liV (ptR (vlR S n) snoc [] S 93 j) = _
      rw [hpart]
      show Rs.ok (liV _) _ = _
      refine congr (congrArg Rs.ok ?_) rfl
      have := arr_again hval h5
      exact this
    by_cases h6 : nd.kind = 6
    · have hnm := hval.named h6
      have hnames : ∀ u ∈ ks, Lib.validD u.nd.name = true := fun u hu => hnm.2 u hu
      have hnodup : (ks.map fun u => u.nd.name).Nodup := (List.pairwise_map.2 hnm.1).imp (fun {a b} hab (e : a = b) => by subst e; exact List.lt_irrefl a hab)
      obtain ⟨n, rfl⟩ : ∃ m, n = m + 1 := ⟨n - 1, by rw [depth_mk, if_pos (show cont nd.kind = true by rw [h6]; rfl)] at hd; omega⟩
      have hdk : depths ks ≤ n := by rw [depth_mk, if_pos (show cont nd.kind = true by rw [h6]; rfl)] at hd; omega
      rw [vlR_succ, hsj]
      have hpt : prT ln d (.mk nd ks) = 123 :: (prB ln d true ks ++ [125]) := by rw [prT_mk, if_neg h5, if_pos h6]
      have hbj : bt S j = 123 := bt_of (c := 123) (R := prB ln d true ks ++ [125] ++ Q) (by rw [hj, hpt]; rfl)
      have hpart : ptR (fdR (vlR S n) S) putP [] S 125 j = .ok (ks.map fun u => (oit ln d u).1) (j + (prT ln d (.mk nd ks)).length) := by
        cases ks with
        | nil =>
          rw [hpt, prB_nil] at hj ⊢
          exact part_none (c := 125) (by decide) [] 123 j Q (by rw [hj]; rfl)
        | cons t ts =>
          have e : prB ln d true (t :: ts) = prL ln (d + 1) ++ ((oit ln d t).2 ++ (tl (prL ln (d + 1)) (ts.map (oit ln d)) ++ prL ln d)) := by rw [prB_cons, prK_obj]; simp [oit]
          have hrd : ∀ y ∈ oit ln d t :: ts.map (oit ln d), Reads (fdR (vlR S n) S) S y := by
            intro y hy
            rw [← List.map_cons] at hy
            obtain ⟨u, hu, rfl⟩ := List.mem_map.1 hy
            have hlen : (flat u).length ≤ N := by
              have := kid_lessP (n := nd) hu; omega
            have hb := back ln S N u (d + 1) n hlen (hkid u hu).1 (hkid u hu).2 (Nat.le_trans (depths_le hu) hdk)
            exact fd_reads (hnames u hu) hb
          obtain ⟨a', T', g1, g2, g3⟩ : ∃ a T, (oit ln d t).2 = a :: T ∧ blk a.toNat = false ∧ a.toNat ≠ (125 : UInt8).toNat := by
            exact ⟨34, _, rfl, by decide, by decide⟩
          have hp := part_back (put := putP) (c := 125) (P := prL ln (d + 1)) (E := prL ln d) (blk_prL _ _) (blk_prL _ _) (by decide) (by decide) (by decide) [] (oit ln d t) (ts.map (oit ln d)) 123 j Q hrd ⟨a', T', g1, g2, g3⟩ (by rw [hj, hpt, e]; simp)
          have hp2 : ptR (fdR (vlR S n) S) putP [] S 125 j = _ := hp
          rw [hp2, fold_put]
          · refine congr (congrArg Rs.ok ?_) ?_
            · simp [Function.comp_def]
            · rw [hpt, e]; simp only [List.length_cons, List.length_append, List.length_nil]; omega
          · have := hnodup
            simpa [Function.comp_def, oit] using this
      unfold vl1
      rw [if_neg (by rw [hbj]; decide), if_pos hbj]
      show mapR obV (ptR (fdR (vlR S n) S) putP [] S 125 j) = _
      rw [hpart]
      show Rs.ok (obV _) _ = _
      refine congr (congrArg Rs.ok ?_) rfl
      have := (obj_again hval h6).2
      unfold obV
      rw [List.map_map, List.map_map]
      exact this
    cases n with
    | zero => rw [vlR_zero, hsj]; exact sc _ _ h5 h6
    | succ n => rw [vlR_succ, hsj]; exact sc _ _ h5 h6
end Tp
end Go.Proofs.YtbgciajfjllciaaGreatDoor
