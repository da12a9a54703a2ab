/-
  Joined: ShelfV, ValW1, QUnq.
-/
import Derived.Shelf.Unicode.ValidAny
import Derived.Test.YtafbojiojeemoaaGreatDoorProg
import Derived.Test.YtafbojiojeemoaaGreatDoorRefW6
import Derived.Test.YtafbojiojeemoaaGreatDoorTextCutJ3
import Derived.Test.YtafbojiojeemoaaGreatDoorTextCutJ1

/-
  Contracts of library functions, at this translation.
-/
namespace Go.Proofs
open Go.Shelf
def Tryz.laysValid_ren : Go.Shelf.Ren := ⟨fun | 196 => 85 | 259 => 120 | n => n, fun | 9 => 9 | 4 => 4 | 3 => 3 | 5 => 5 | 12 => 12 | 119 => 142 | 0 => 0 | 46 => 146 | 139 => 145 | 138 => 144 | 53 => 175 | n => n, fun | 3 => 1 | 4 => 2 | n => n⟩
theorem Tryz.laysValid : Go.Proofs.Lays.n196 Tryz.prog Tryz.laysValid_ren := {
  mixed := by kernel_rfl
  f196 := Tryz.func85.trans (congrArg some (by kernel_rfl))
  f259 := Tryz.func120.trans (congrArg some (by kernel_rfl))
  t0 := Tryz.underlying0
  a0 := Tryz.isAgg0
  z0 := Tryz.sizeOf0
  v0 := Tryz.zeroValue0
  t3 := Tryz.underlying3
  a3 := Tryz.isAgg3
  z3 := Tryz.sizeOf3
  v3 := Tryz.zeroValue3
  t4 := Tryz.underlying4
  a4 := Tryz.isAgg4
  z4 := Tryz.sizeOf4
  v4 := Tryz.zeroValue4
  t5 := Tryz.underlying5
  a5 := Tryz.isAgg5
  z5 := Tryz.sizeOf5
  v5 := Tryz.zeroValue5
  t9 := Tryz.underlying9
  a9 := Tryz.isAgg9
  z9 := Tryz.sizeOf9
  v9 := Tryz.zeroValue9
  t12 := Tryz.underlying12
  a12 := Tryz.isAgg12
  z12 := Tryz.sizeOf12
  v12 := Tryz.zeroValue12
  t46 := Tryz.underlying146
  a46 := Tryz.isAgg146
  z46 := Tryz.sizeOf146
  v46 := Tryz.zeroValue146
  t53 := Tryz.underlying175
  a53 := Tryz.isAgg175
  z53 := Tryz.sizeOf175
  v53 := Tryz.zeroValue175
  t119 := Tryz.underlying142
  a119 := Tryz.isAgg142
  z119 := Tryz.sizeOf142
  t138 := Tryz.underlying144
  a138 := Tryz.isAgg144
  z138 := Tryz.sizeOf144
  v138 := Tryz.zeroValue144
  t139 := Tryz.underlying145
  a139 := Tryz.isAgg145
  z139 := Tryz.sizeOf145
  v139 := Tryz.zeroValue145
  g3 := by kernel_rfl
  g4 := by kernel_rfl }
end Go.Proofs

/-
  What val's small functions answer: holdsParts, isObject, lets, rightNode, begin; the library's ValidString.
-/
namespace Go.Proofs.YtafbojiojeemoaaGreatDoor
open Go.RowKit Np Rw Vp

/-- The library's two tables on UTF-8, as they are laid. -/
def Tabs (w : World) : Prop := Lib.Utf8Tabs 1 2 w
theorem Tabs.below {w w' : World} (h : Tabs w) (hb : Below w.heap.size w w') : Tabs w' := Utf8Tabs_below h hb
theorem valid_any (s : ByteArray) (w : World) (hs : s.size ≤ maxLen) (hT : Tabs w) :
    Calls Tryz.prog 85 #[.string s] w fun e w' => e = .returned (.bool (vld s.data.toList)) ∧ Below w.heap.size w w' :=
  Any.utf8_ValidString Tryz.laysValid s w (by unfold maxLen at hs; omega) hT



/-- A holder's value. -/
abbrev hda (h : Hd) : Value := .agg #[.int .i64 h.kind, .int .i64 h.left, .bool h.begun, .string ⟨h.ahead.toArray⟩]
def hdc (h : Hd) : List Value := [.int .i64 h.kind, .int .i64 h.left, .bool h.begun, .string ⟨h.ahead.toArray⟩]


end Go.Proofs.YtafbojiojeemoaaGreatDoor

/-
  What quote's Unquote is.
-/
namespace Go.Proofs.YtafbojiojeemoaaGreatDoor
open Go.RowKit Go.Maps Np Up Qp



theorem pre34 (l : List UInt8) : Lib.hasPrefix l [34] = decide (bt l 0 = 34) := by
  cases l with
  | nil => rfl
  | cons c r =>
    rw [bt_cons, Bool.eq_iff_iff, decide_eq_true_eq]
    unfold Lib.hasPrefix
    simp [List.isPrefixOf, ← UInt8.toNat_inj]
    omega
theorem b34 : (ByteArray.mk #[34]).data.toList = [34] := rfl

/-- Where Unquote stands. -/
def Ui (R : List UInt8 × Nat × Int) (l out : List UInt8) (frm pos : Nat) : Prop :=
  (pos < frm → frm ≤ l.length ∧ unq out (l.drop frm) frm = R ∧ ∀ j, pos ≤ j → j < frm → bt l j < 128) ∧ (frm ≤ pos → unq (out ++ (l.drop frm).take (pos - frm)) (l.drop pos) pos = R)
section
variable {R : List UInt8 × Nat × Int} {l out : List UInt8} {frm pos : Nat}
theorem Ui.skip (h : Ui R l out frm pos) (hp : pos < frm) : Ui R l out frm (pos + 1) := by
  obtain ⟨h1, h2, h3⟩ := h.1 hp
  refine ⟨fun hq => ⟨h1, h2, fun j hj hj2 => h3 j (by omega) hj2⟩, fun hq => ?_⟩
  obtain rfl : frm = pos + 1 := by omega
  rw [Nat.sub_self, List.take_zero, List.append_nil]
  exact h2
theorem Ui.mark (h : Ui R l out frm pos) (hp : frm ≤ pos) (hb : bt (l.drop pos) 0 = 34) : R = (out ++ (l.drop frm).take (pos - frm), pos + 1, 0) := by
  rw [← h.2 hp, unq_mark _ _ hb]
theorem Ui.bad (h : Ui R l out frm pos) (hp : frm ≤ pos) (hb : bt (l.drop pos) 0 ≠ 34) (ht : tk (l.drop pos) = none) : R = ([], pos, 1) := by
  rw [← h.2 hp, unq_bad _ _ hb ht]
theorem Ui.plain (h : Ui R l out frm pos) (hp : frm ≤ pos) (hl : l.drop pos ≠ []) (hb : bt (l.drop pos) 0 ≠ 34) (hb2 : bt (l.drop pos) 0 ≠ 92) (hb3 : 32 ≤ bt (l.drop pos) 0) {n : Nat} (hn : runeN (l.drop pos) = n) (hn0 : n ≠ 0) : Ui R l out frm (pos + n) := by
  refine ⟨fun hq => by omega, fun _ => ?_⟩
  have ht : tk (l.drop pos) = some ((l.drop pos).take n, n) := by
    rw [tk, if_neg hb2, hn, if_neg (by omega)]
  have h1 := h.2 hp
  rw [unq_step _ _ hl hb ht, List.drop_drop, List.append_assoc] at h1
  rw [show pos + n - frm = (pos - frm) + n by omega, List.take_add, List.drop_drop, show frm + (pos - frm) = pos by omega]
  exact h1
theorem Ui.esc (h : Ui R l out frm pos) (hp : frm ≤ pos) (hl : l.drop pos ≠ []) (hb : bt (l.drop pos) 0 = 92) {r n : Nat} (he : es (l.drop pos) = some (r, n)) : Ui R l (out ++ (l.drop frm).take (pos - frm) ++ Lib.encodeRune (r : Int)) (pos + n) (pos + 1) := by
  obtain ⟨h1, h2, h3, h4⟩ := es_some he
  rw [List.length_drop] at h1
  have ht : tk (l.drop pos) = some (Lib.encodeRune (r : Int), n) := by
    rw [tk, if_pos hb, he]; rfl
  have h5 := h.2 hp
  rw [unq_step _ _ hl (by rw [hb]; decide) ht, List.drop_drop] at h5
  refine ⟨fun _ => ⟨by omega, h5, fun j hj hj2 => ?_⟩, fun hq => by omega⟩
  have := h4 (j - pos) (by omega) (by omega)
  rw [bt_drop, show pos + (j - pos) = j by omega] at this
  exact this
theorem Ui.noesc (h : Ui R l out frm pos) (hp : frm ≤ pos) (hb : bt (l.drop pos) 0 = 92) (he : es (l.drop pos) = none) : R = ([], pos, 1) :=
  h.bad hp (by rw [hb]; decide) (by rw [tk, if_pos hb, he]; rfl)
theorem Ui.over (h : Ui R l out frm pos) (hp : l.length ≤ pos) : R = ([], pos, 1) := by
  have hq : frm ≤ pos := by
    rcases Nat.lt_or_ge pos frm with h1 | h1
    · have := (h.1 h1).1; omega
    · exact h1
  rw [← h.2 hq, List.drop_of_length_le hp, unq_nil]
end
theorem MapAt_others {e : TypeId} {b mb n : Nat} {f : Int → Option Int} {w w' : World} (h : MapAt w mb n f) (k : Lib.OthersKept e (some b) w w') (hne : mb ≠ b) : MapAt w' mb n f := by
  obtain ⟨D, ⟨es, clock, h1, h2⟩, h3⟩ := h
  exact ⟨D, ⟨es, clock, k mb _ h1 (fun e => hne (Option.some.inj e)) (fun _ _ e => by cases e), h2⟩, h3⟩
theorem MapAt_iter {K mb n : Nat} {f : Int → Option Int} {s : ByteArray} {pos : Nat} {w : World} (h : MapAt w mb n f) (hit : w.heap[K]? = some (.stringIter s pos)) (p : Nat) : MapAt (w.iterAt K s p) mb n f := by
  obtain ⟨D, ⟨es, clock, h1, h2⟩, h3⟩ := h
  have hne : mb ≠ K := by
    rintro rfl
    rw [hit] at h1
    cases h1
  exact ⟨D, ⟨es, clock, (Lib.iterAt_other w K mb s p hne).trans h1, h2⟩, h3⟩
theorem MapAt_ne {B b mb n : Nat} {f : Int → Option Int} {l : List UInt8} {w : World} (h : MapAt w mb n f) (hI : IsB B b l w) : mb ≠ b := by
  obtain ⟨D, ⟨es, clock, h1, h2⟩, h3⟩ := h
  rintro rfl
  rcases hI with ⟨_, v, hbk, _⟩ | ⟨_, v, hbk, _⟩ <;> (rw [h1] at hbk; cases hbk)
/-- What the letters' variable holds. -/
def Sv (w : World) (v : Value) : Prop := v = .map none ∨ ∃ mb, v = .map (some mb) ∧ MapAt w mb 8 blF
theorem Sv.iter {K : Nat} {s : ByteArray} {pos : Nat} {w : World} {v : Value} (h : Sv w v) (hit : w.heap[K]? = some (.stringIter s pos)) (p : Nat) : Sv (w.iterAt K s p) v :=
  h.imp id fun ⟨mb, h1, h2⟩ => ⟨mb, h1, MapAt_iter h2 hit p⟩
theorem Er.low {B : Nat} {w w' : World} (h : Er w) (hb : Below B w w') (hB : w.heap.size ≤ B) : Er w' := h.below (hb.mono hB)
theorem enc_len (r : Int) : (Lib.encodeRune r).length ≤ 4 := by
  rw [Lib.encodeRune, List.length_map]
  exact (Lib.encodeRuneZ_length r).2

set_option maxRecDepth 100000 in
set_option maxHeartbeats 8000000 in
theorem unquote_any (s : ByteArray) (w : World) (hs : s.size ≤ 1073741824) (hE : Er w) :
    Calls Tryz.prog 96 #[.string s] w fun e w' => e = .returned (uqv (unqs s.data.toList)) ∧ Below w.heap.size w w' := by
  have hB : Below w.heap.size w w := Below.refl _ _
  by_cases h34 : bt s.data.toList 0 = 34
  · have HP : Hid (Lib.hasPrefix s.data.toList [34] = true) := Lib.hid (by rw [pre34, decide_eq_true h34])
    have HF : Hid (unqs s.data.toList = unq [] (s.data.toList.drop 1) 1) := Lib.hid (by rw [unqs, if_pos h34])
    generalize unqs s.data.toList = R at HF ⊢
    go_enter Tryz.func96, Tryz.ntmps96
    go_wp2_with (go_at_call 82; refine (Tryz.strings_HasPrefix _ _ _).mono ?_; rintro e w1 ⟨rfl, rfl⟩; rw [b34, HP.out])
    have hl1 : 1 ≤ s.size := by
      have := ne_of_bt (l := s.data.toList) (k := 0) (by omega)
      rw [size_toList] at this
      omega
    have HU : Hid (Ui R s.data.toList [] 1 0) := Lib.hid ⟨fun _ => ⟨by rw [size_toList]; exact hl1, HF.out.symm, fun j _ hj => by rw [show j = 0 by omega, h34]; decide⟩, fun h => by omega⟩
    clear HF h34 HP
    generalize hbk : w1.heap.size = b at *
    have hfresh : IsB b b [] (w1.alloc (.cells #[.pointer none, .slice none 0 0] 65)) := by
      have := Lib.IsBuilderF.of (Lib.fresh_isBuilder 65 5 w1)
      rw [hbk] at this
      exact this
    have hba : Below b w1 (w1.alloc (.cells #[.pointer none, .slice none 0 0] 65)) := (Below.refl _ _).alloc (by omega) _
    go_loopw [6, 7] (fun sv u wr => ∃ (frm pos : Nat) (out : List UInt8), u = .int .i64 frm ∧ IsB b b out wr ∧ wr.heap[b + 1]? = some (.stringIter s pos) ∧ Below b w1 wr ∧ pos ≤ s.size ∧ frm ≤ s.size ∧ out.length ≤ 4 * frm ∧ Sv wr sv ∧ Hid (Ui R s.data.toList out frm pos)) (fun _ _ wr => s.size - wr.iterPos (b + 1))
    case atStart =>
      refine ⟨1, 0, [], rfl, hfresh.alloc _, ?_, hba.alloc (by simp; omega) _, by omega, by omega, by simp, .inl rfl, HU⟩
      have := World.iter_heap (w1.alloc (.cells #[.pointer none, .slice none 0 0] 65)) s 0
      simp only [World.size_alloc, hbk] at this
      exact this
    case round =>
      obtain ⟨frm, pos, out, rfl, hI, hit, hbw, hpl, hfl, hol, hSv, HQ⟩ := hrel
      have hIlt := IsB_lt hI
      have hszb : b ≤ wr.heap.size := by omega
      by_cases hp : pos < s.size
      · have hnx : ∀ ty, (Instr.next (.pointer (some ⟨b + 1, 0, none⟩)) true ty).run Tryz.prog wr = _ := fun ty => Lib.run_next_any_at wr (b + 1) s pos ty hit hp
        have hne := drop_ne s pos hp
        have hbp : bt (s.data.toList.drop pos) 0 = s[pos].toNat := by
          have := bt_at' s pos 0 (by omega); simpa using this
        by_cases hlo : s[pos].toNat < 128
        · have hdl := dec_low (l := s.data.toList.drop pos) (by omega)
          rw [hbp] at hdl
          rw [dec_at, hdl] at hnx
          simp only at hnx
          have hI2 := hI.iterAt hit (pos + 1)
          have hit2 := Lib.iterAt_heap wr (b + 1) s pos (pos + 1) hit
          have hbw2 := Lib.below_iterAt hbw (k := b + 1) (by omega) s (pos + 1)
          have hSv2 := hSv.iter hit (pos + 1)
          have hsz2 : b ≤ (wr.iterAt (b + 1) s (pos + 1)).heap.size := by rw [Lib.iterAt_size]; omega
          by_cases hsk : pos < frm
          · have HN : Hid (Ui R s.data.toList out frm (pos + 1)) := Lib.hid (HQ.out.skip hsk)
            clear HQ hne hbp hdl
            go_wp2_with fail
            go_roundw
            case rel => exact ⟨frm, pos + 1, out, rfl, hI2, hit2, hbw2, by omega, hfl, hol, hSv2, HN⟩
            case measure =>
              simp only [World.iterPos, hit2, hit]
              omega
          have hfp : frm ≤ pos := by omega
          have hnsk : ¬ (pos : Int) < (frm : Int) := by omega
          by_cases h34 : s[pos].toNat = 34
          · have HN : Hid (R = (out ++ (s.data.toList.drop frm).take (pos - frm), pos + 1, 0)) := Lib.hid (HQ.out.mark hfp (by rw [hbp, h34]))
            have hq : ((s[pos].toNat : Int) == 34) = true := by rw [beq_iff_eq]; omega
            clear HQ hne hbp hdl h34
            go_wp2_with fail
            refine (Tryz.writeString b b _ _ _ hI2 (by rw [Lib.byteCells_length, ByteArray.size_extract]; omega) hsz2).mono ?_
            rintro e w4 ⟨rfl, h4, b4, -⟩
            rw [ext_cells, ← Lib.byteCells_append] at h4
            have hsz4 := Nat.le_trans hsz2 b4.size
            go_wp2_with fail
            refine (Tryz.Builder_String_any_k b b _ _ (.inr h4) hsz4).mono ?_
            rintro e w6 ⟨rfl, _, b6, _⟩
            go_wp2_with fail
            go_ret3
            exact ⟨by rw [HN.out]; rfl, by first | exact (hbw2.trans b4).trans b6 | (rw [hbk]; exact (hbw2.trans b4).trans b6)⟩
          have hq34 : ((s[pos].toNat : Int) == 34) = false := by rw [beq_eq_false_iff_ne]; omega
          by_cases h92 : s[pos].toNat = 92
          · have hq92 : ((s[pos].toNat : Int) == 92) = true := by rw [beq_iff_eq]; omega
            have hq30 : ∀ (w : World) (r : Option Nat), (binOp .eql 124 (.map r) (.map none)).run Tryz.prog w = .ok (.bool r.isNone) w := fun w r => run_eql_map_nil w _ _ _ r Tryz.underlying124
            have hes : (s.extract pos s.size).size ≤ 1073741824 := by rw [ByteArray.size_extract]; omega
            have hee := ext_end s pos
            cases he : es (s.data.toList.drop pos) with
            | none =>
              have HN : Hid (R = ([], pos, 1)) := Lib.hid (HQ.out.noesc hfp (by rw [hbp, h92]) he)
              have HES : Hid (es (s.extract pos s.size).data.toList = none) := Lib.hid (by rw [hee, he])
              clear HQ hne hbp hdl h92 hee he h34
              rcases hSv2 with rfl | ⟨mb, rfl, hM2⟩
              · clear hSv
                go_wp2_with fail
                refine (byLetter_any _).mono ?_
                rintro e w4 ⟨rfl, hM4, b4⟩
                have hI4 := IsB_kept hI2 b4
                have hit4 := iter_kept hit2 b4
                have hbw4 := hbw2.trans (b4.mono hsz2)
                have hsz4 := Nat.le_trans hsz2 b4.size
                have hE4 := hE.low hbw4 (Nat.le_of_eq hbk)
                go_wp2_with fail
                refine (escape_any _ 8 _ _ hes hE4 hM4).mono ?_
                rintro e w5 ⟨rfl, b5⟩
                rw [HES.out, escV]
                have hI5 := IsB_kept hI4 b5
                have hit5 := iter_kept hit4 b5
                have hbw5 := hbw4.trans (b5.mono hsz4)
                have hsz5 := Nat.le_trans hsz4 b5.size
                have hM5 := hM4.below b5 hM4.lt
                have hne5 := MapAt_ne hM5 hI5
                go_wp2_with fail
                all_goals go_ret3
                all_goals exact ⟨by rw [HN.out]; rfl, by first | exact hbw5 | (rw [hbk]; exact hbw5)⟩
              · clear hSv
                have hI4 := hI2; have hit4 := hit2; have hbw4 := hbw2; have hsz4 := hsz2; have hM4 := hM2
                have hE4 := hE.low hbw4 (Nat.le_of_eq hbk)
                clear hI2 hit2 hbw2 hM2 hsz2
                go_wp2_with fail
                refine (escape_any _ 8 _ _ hes hE4 hM4).mono ?_
                rintro e w5 ⟨rfl, b5⟩
                rw [HES.out, escV]
                have hI5 := IsB_kept hI4 b5
                have hit5 := iter_kept hit4 b5
                have hbw5 := hbw4.trans (b5.mono hsz4)
                have hsz5 := Nat.le_trans hsz4 b5.size
                have hM5 := hM4.below b5 hM4.lt
                have hne5 := MapAt_ne hM5 hI5
                go_wp2_with fail
                all_goals go_ret3
                all_goals exact ⟨by rw [HN.out]; rfl, by first | exact hbw5 | (rw [hbk]; exact hbw5)⟩
            | some x =>
              obtain ⟨r, n⟩ := x
              obtain ⟨e1, e2, e3, -⟩ := es_some he
              rw [List.length_drop, size_toList] at e1
              have HN : Hid (Ui R s.data.toList (out ++ (s.data.toList.drop frm).take (pos - frm) ++ Lib.encodeRune (r : Int)) (pos + n) (pos + 1)) := Lib.hid (HQ.out.esc hfp hne (by rw [hbp, h92]) he)
              have hrn : r ≤ 1114111 := by unfold ru at e2; omega
              have hn2 : 2 ≤ n := by omega
              have hlen : (out ++ (s.data.toList.drop frm).take (pos - frm) ++ Lib.encodeRune (r : Int)).length ≤ 4 * (pos + n) := by
                have := enc_len (r : Int)
                rw [List.length_append, List.length_append, List.length_take]
                omega
              have HES : Hid (es (s.extract pos s.size).data.toList = some (r, n)) := Lib.hid (by rw [hee, he])
              have hn0 : ((n : Int) == 0) = false := by rw [beq_eq_false_iff_ne]; omega
              clear HQ hne hbp hdl h92 hee he h34 e2 e3
              rcases hSv2 with rfl | ⟨mb, rfl, hM2⟩
              · clear hSv
                go_wp2_with fail
                refine (byLetter_any _).mono ?_
                rintro e w4 ⟨rfl, hM4, b4⟩
                have hI4 := IsB_kept hI2 b4
                have hit4 := iter_kept hit2 b4
                have hbw4 := hbw2.trans (b4.mono hsz2)
                have hsz4 := Nat.le_trans hsz2 b4.size
                have hE4 := hE.low hbw4 (Nat.le_of_eq hbk)
                go_wp2_with fail
                refine (escape_any _ 8 _ _ hes hE4 hM4).mono ?_
                rintro e w5 ⟨rfl, b5⟩
                rw [HES.out, escV]
                have hI5 := IsB_kept hI4 b5
                have hit5 := iter_kept hit4 b5
                have hbw5 := hbw4.trans (b5.mono hsz4)
                have hsz5 := Nat.le_trans hsz4 b5.size
                have hM5 := hM4.below b5 hM4.lt
                have hne5 := MapAt_ne hM5 hI5
                go_wp2_with fail
                refine (Tryz.writeString b b _ _ _ hI5 (by rw [Lib.byteCells_length, ByteArray.size_extract]; omega) hsz5).mono ?_
                rintro e w6 ⟨rfl, h6, b6, k6⟩
                rw [ext_cells, ← Lib.byteCells_append] at h6
                have hsz6 := Nat.le_trans hsz5 b6.size
                have hit6 := k6.iter hit5 (by omega)
                have hM6 := MapAt_others hM5 k6 hne5
                clear k6
                go_wp2_with fail
                refine (Tryz.writeRune b b _ _ (by omega) (by omega) _ (.inr h6) (by rw [Lib.byteCells_length, List.length_append, List.length_take]; omega) hsz6).mono ?_
                rintro e w7 ⟨rfl, h7, b7, k7⟩
                rw [← Lib.byteCells_encodeRune, ← Lib.byteCells_append] at h7
                have hit7 := k7.iter hit6 (by omega)
                have hM7 := MapAt_others hM6 k7 hne5
                clear k7
                go_wp2_with fail
                go_roundw
                case rel => exact ⟨pos + n, pos + 1, _, by go_num, .inr h7, hit7, (hbw5.trans b6).trans b7, by omega, by omega, hlen, .inr ⟨_, rfl, hM7⟩, HN⟩
                case measure =>
                  simp only [World.iterPos, hit7, hit]
                  omega
              · clear hSv
                have hI4 := hI2; have hit4 := hit2; have hbw4 := hbw2; have hsz4 := hsz2; have hM4 := hM2
                have hE4 := hE.low hbw4 (Nat.le_of_eq hbk)
                clear hI2 hit2 hbw2 hM2 hsz2
                go_wp2_with fail
                refine (escape_any _ 8 _ _ hes hE4 hM4).mono ?_
                rintro e w5 ⟨rfl, b5⟩
                rw [HES.out, escV]
                have hI5 := IsB_kept hI4 b5
                have hit5 := iter_kept hit4 b5
                have hbw5 := hbw4.trans (b5.mono hsz4)
                have hsz5 := Nat.le_trans hsz4 b5.size
                have hM5 := hM4.below b5 hM4.lt
                have hne5 := MapAt_ne hM5 hI5
                go_wp2_with fail
                refine (Tryz.writeString b b _ _ _ hI5 (by rw [Lib.byteCells_length, ByteArray.size_extract]; omega) hsz5).mono ?_
                rintro e w6 ⟨rfl, h6, b6, k6⟩
                rw [ext_cells, ← Lib.byteCells_append] at h6
                have hsz6 := Nat.le_trans hsz5 b6.size
                have hit6 := k6.iter hit5 (by omega)
                have hM6 := MapAt_others hM5 k6 hne5
                clear k6
                go_wp2_with fail
                refine (Tryz.writeRune b b _ _ (by omega) (by omega) _ (.inr h6) (by rw [Lib.byteCells_length, List.length_append, List.length_take]; omega) hsz6).mono ?_
                rintro e w7 ⟨rfl, h7, b7, k7⟩
                rw [← Lib.byteCells_encodeRune, ← Lib.byteCells_append] at h7
                have hit7 := k7.iter hit6 (by omega)
                have hM7 := MapAt_others hM6 k7 hne5
                clear k7
                go_wp2_with fail
                go_roundw
                case rel => exact ⟨pos + n, pos + 1, _, by go_num, .inr h7, hit7, (hbw5.trans b6).trans b7, by omega, by omega, hlen, .inr ⟨_, rfl, hM7⟩, HN⟩
                case measure =>
                  simp only [World.iterPos, hit7, hit]
                  omega
          have hq92 : ((s[pos].toNat : Int) == 92) = false := by rw [beq_eq_false_iff_ne]; omega
          by_cases h32 : s[pos].toNat < 32
          · have HN : Hid (R = ([], pos, 1)) := Lib.hid (HQ.out.bad hfp (by rw [hbp]; exact h34) (by rw [tk, if_neg (by rw [hbp]; exact h92), if_pos (.inl (by rw [hbp]; exact h32))]))
            clear HQ hne hbp hdl
            go_wp2_with fail
            all_goals go_ret3
            all_goals exact ⟨by rw [HN.out]; rfl, by first | exact hbw2 | (rw [hbk]; exact hbw2)⟩
          · have hrn := runeN_one (l := s.data.toList.drop pos) (by omega)
            have HN : Hid (Ui R s.data.toList out frm (pos + 1)) := Lib.hid (HQ.out.plain hfp hne (by rw [hbp]; exact h34) (by rw [hbp]; exact h92) (by omega) hrn (by decide))
            have HS : Hid (∀ w, Calls Tryz.prog 132 #[.int .i32 (s[pos].toNat : Nat), .string (s.extract pos s.size)] w fun e w' => e = .returned (.bool false) ∧ w = w') := Lib.hid (by
              intro w
              have h := stray_any s[pos].toNat (s.extract pos s.size) w (by rw [ext_end]; exact hne) (by rw [ext_end, hdl])
              rw [ext_end, hrn] at h
              exact h)
            clear HQ hne hbp hdl hrn
            go_wp2_with (go_at_call 132; refine (HS.out _).mono ?_; rintro e w4 ⟨rfl, rfl⟩)
            go_roundw
            case rel => exact ⟨frm, pos + 1, out, rfl, hI2, hit2, hbw2, by omega, hfl, hol, hSv2, HN⟩
            case measure =>
              simp only [World.iterPos, hit2, hit]
              omega
        · have hfp : frm ≤ pos := by
            rcases Nat.lt_or_ge pos frm with h1 | h1
            · have := (HQ.out.1 h1).2.2 pos (Nat.le_refl _) h1
              rw [← Nat.add_zero pos, ← bt_drop, hbp] at this
              omega
            · exact h1
          have hnsk : ¬ (pos : Int) < (frm : Int) := by omega
          have hdh := (dec_high hne (by rw [hbp]; omega)).1
          have hwd := dec_width _ hne
          rw [List.length_drop, size_toList] at hwd
          have hdg := dec_good (l := s.data.toList.drop pos)
          have hstr : ∀ w, Calls Tryz.prog 132 #[.int .i32 ((Utf8.decode s pos).1 : Nat), .string (s.extract pos s.size)] w fun e w' => e = .returned (.bool (decide (runeN (s.data.toList.drop pos) = 0))) ∧ w = w' := by
            intro w
            have h := stray_any (Utf8.decode s pos).1 (s.extract pos s.size) w (by rw [ext_end]; exact hne) (by rw [ext_end, dec_at])
            rw [ext_end] at h
            exact h
          rw [dec_at] at hnx hstr
          have hrl := Lib.decodeL_rune (s.data.toList.drop pos)
          generalize hD : Lib.decodeL (s.data.toList.drop pos) = Dc at hnx hdh hwd hstr hdg hrl
          obtain ⟨r, n⟩ := Dc
          simp only at hnx hdh hwd hstr hdg hrl
          have HS := Lib.hid hstr
          have hI2 := hI.iterAt hit (pos + n)
          have hit2 := Lib.iterAt_heap wr (b + 1) s pos (pos + n) hit
          have hbw2 := Lib.below_iterAt hbw (k := b + 1) (by omega) s (pos + n)
          have hSv2 := hSv.iter hit (pos + n)
          obtain ⟨hn1, hn2⟩ := hwd
          have hq34 : ((r : Int) == 34) = false := by rw [beq_eq_false_iff_ne]; omega
          have hq92 : ((r : Int) == 92) = false := by rw [beq_eq_false_iff_ne]; omega
          have hq32 : ¬ (r : Int) < 32 := by omega
          by_cases h0 : runeN (s.data.toList.drop pos) = 0
          · have HN : Hid (R = ([], pos, 1)) := Lib.hid (HQ.out.bad hfp (by rw [hbp]; omega) (by rw [tk, if_neg (by rw [hbp]; omega), if_pos (.inr h0)]))
            have HD : Hid (decide (runeN (s.data.toList.drop pos) = 0) = true) := Lib.hid (decide_eq_true h0)
            clear HQ hne hbp hdh hstr hdg hD h0 hlo hrl
            go_wp2_with (go_at_call 132; refine (HS.out _).mono ?_; rintro e w4 ⟨rfl, rfl⟩; rw [HD.out])
            all_goals go_ret3
            all_goals exact ⟨by rw [HN.out]; rfl, by first | exact hbw2 | (rw [hbk]; exact hbw2)⟩
          · have HN : Hid (Ui R s.data.toList out frm (pos + n)) := Lib.hid (HQ.out.plain hfp hne (by rw [hbp]; omega) (by rw [hbp]; omega) (by rw [hbp]; omega) (hdg h0).symm (by omega))
            have HD : Hid (decide (runeN (s.data.toList.drop pos) = 0) = false) := Lib.hid (decide_eq_false h0)
            clear HQ hne hbp hdh hstr hdg hD h0 hlo hrl
            go_wp2_with (go_at_call 132; refine (HS.out _).mono ?_; rintro e w4 ⟨rfl, rfl⟩; rw [HD.out])
            go_roundw
            case rel => exact ⟨frm, pos + n, out, rfl, hI2, hit2, hbw2, by omega, hfl, hol, hSv2, HN⟩
            case measure =>
              simp only [World.iterPos, hit2, hit]
              omega
      · have hnx : ∀ ty, (Instr.next (.pointer (some ⟨b + 1, 0, none⟩)) true ty).run Tryz.prog wr = _ := fun ty => Lib.run_next_end_at wr (b + 1) s pos ty hit hp
        have HN : Hid (R = ([], s.size, 1)) := Lib.hid (by
          rw [HQ.out.over (by rw [size_toList]; omega), show pos = s.size by omega])
        clear HQ
        go_wp2_with fail
        all_goals go_ret3
        all_goals exact ⟨by rw [HN.out]; rfl, by first | exact hbw | (rw [hbk]; exact hbw)⟩
  · have HP : Hid (Lib.hasPrefix s.data.toList [34] = false) := Lib.hid (by rw [pre34, decide_eq_false h34])
    have HF : Hid (unqs s.data.toList = ([], 0, 1)) := Lib.hid (by rw [unqs, if_neg h34])
    clear h34
    go_enter Tryz.func96, Tryz.ntmps96
    go_wp2_with (go_at_call 82; refine (Tryz.strings_HasPrefix _ _ _).mono ?_; rintro e w1 ⟨rfl, rfl⟩; rw [b34, HP.out])
    all_goals go_ret3
    all_goals exact ⟨by rw [HF.out]; rfl, hB⟩
end Go.Proofs.YtafbojiojeemoaaGreatDoor
