/-
  Joined: Kb, TxM, QUtf, ValW11, TxD.
-/
import Derived.Test.YtfeiolklhkclgaaGreatDoorBase
import Derived.Laws.Pointers
import Derived.Test.YtfeiolklhkclgaaGreatDoorTextBlanksJ1
import Derived.Test.YtfeiolklhkclgaaGreatDoorMem
import Derived.Lib.FrozenHead
import Derived.Recover
import Derived.Test.YtfeiolklhkclgaaGreatDoorQEsc
import Derived.Test.YtfeiolklhkclgaaGreatDoorTextBlanksJ6
import Derived.IntWalk
import Derived.StillTailTactics
import Derived.Defers

/-
  Words for memory: all but one block is kept. Of no function.
-/
namespace Go.Proofs.YtfeiolklhkclgaaGreatDoor
open Go.RowKit

/-- Below B all but one block is as it was. -/
structure Kb (B rb : Nat) (w w' : World) : Prop where
  os : w'.os = w.os
  tape : w'.tape = w.tape
  output : w'.output = w.output
  size : w.heap.size ≤ w'.heap.size
  block : ∀ k, k < B → k ≠ rb → w'.heap[k]? = w.heap[k]?
theorem Kb.refl (B rb : Nat) (w : World) : Kb B rb w w := ⟨rfl, rfl, rfl, Nat.le_refl _, fun _ _ _ => rfl⟩
theorem Kb.trans {B rb : Nat} {a b c : World} (h : Kb B rb a b) (k : Kb B rb b c) : Kb B rb a c :=
  ⟨k.os.trans h.os, k.tape.trans h.tape, k.output.trans h.output, Nat.le_trans h.size k.size, fun i hi hr => (k.block i hi hr).trans (h.block i hi hr)⟩
theorem Kb.mono {B B' rb : Nat} {w w' : World} (h : Kb B rb w w') (hB : B' ≤ B) : Kb B' rb w w' := ⟨h.os, h.tape, h.output, h.size, fun k hk hr => h.block k (Nat.lt_of_lt_of_le hk hB) hr⟩
/-- One call behind another. -/
theorem Kb.after {rb : Nat} {a b c : World} (h : Kb a.heap.size rb a b) (k : Kb b.heap.size rb b c) : Kb a.heap.size rb a c := h.trans (k.mono h.size)
theorem Kb.of {B rb : Nat} {w w' : World} (h : Below B w w') : Kb B rb w w' := ⟨h.os, h.tape, h.output, h.size, fun k hk _ => h.block k hk⟩
theorem Kb.below {B C rb : Nat} {w w' : World} (h : Kb B rb w w') (h1 : C ≤ B) (h2 : C ≤ rb) : Below C w w' := ⟨h.os, h.tape, h.output, h.size, fun k hk => h.block k (by omega) (by omega)⟩
theorem Kb.drewN {B rb : Nat} {a w : World} (h : Kb B rb a w) (n : Nat) : Kb B rb a (w.drewN n) := ⟨h.os, h.tape, h.output, h.size, h.block⟩
theorem Kb.drew {B rb : Nat} {a w : World} (h : Kb B rb a w) : Kb B rb a w.drew := ⟨h.os, h.tape, h.output, h.size, h.block⟩
theorem Kb.set {B rb : Nat} {a w : World} (h : Kb B rb a w) (o : Nat) (u : Value) : Kb B rb a (w.setCell ⟨rb, o, none⟩ u) :=
  h.trans ⟨rfl, rfl, rfl, by simp [World.setCell], fun k _ hr => Below.heap_setCell _ _ _ _ hr⟩
theorem Kb.setHigh {B rb : Nat} {a w : World} (h : Kb B rb a w) {p : Addr} (hp : B ≤ p.block) (u : Value) : Kb B rb a (w.setCell p u) :=
  h.trans ⟨rfl, rfl, rfl, by simp [World.setCell], fun k hk _ => Below.heap_setCell _ _ _ _ (by omega)⟩
theorem Kb.alloc {B rb : Nat} {a w : World} (h : Kb B rb a w) (hB : B ≤ w.heap.size) (o : Obj) : Kb B rb a (w.alloc o) :=
  h.trans ⟨rfl, rfl, rfl, by simp, fun k hk _ => Below.heap_alloc _ _ _ (by omega)⟩
theorem Kb.grown {B rb : Nat} {a w w' : World} {row : Option Nat} (h : Kb B rb a w) (hg : w.grownBy w' row) (hB : B ≤ w.heap.size) (hr : ∀ k, row = some k → B ≤ k) : Kb B rb a w' :=
  h.trans ⟨hg.os, hg.tape, hg.output, hg.size, fun k hk _ => hg.block k (by omega) (fun e => by have := hr k e.symm; omega)⟩
theorem Kb.cell {B rb : Nat} {w w' : World} (h : Kb B rb w w') {p : Addr} (hp : p.block < B) (hr : p.block ≠ rb) : w'.cell? p = w.cell? p := World.cell?_of_block (w := w) (h.block p.block hp hr)
theorem Kb.frozen {B rb : Nat} {w w' : World} (h : Kb B rb w w') {p : Addr} (hp : p.block < B) (hr : p.block ≠ rb) : w'.frozen? p = w.frozen? p := World.frozen?_of_block (w := w) (h.block p.block hp hr)
end Go.Proofs.YtfeiolklhkclgaaGreatDoor

/-
  Words for memory: the reader of a text, in its block; all else is kept. What next, takes and needs are.
-/
namespace Go.Proofs.YtfeiolklhkclgaaGreatDoor
open Go.RowKit Np Up Qp Tp

/-- A reader in a block. -/
def Rd (rb : Nat) (s : ByteArray) (i d : Nat) (w : World) : Prop := w.heap[rb]? = some (.cells #[.string s, .int .i64 i, .int .i64 d] 50 (0, 0))
section
variable {rb : Nat} {s : ByteArray} {i d : Nat} {w w' : World}
theorem Rd.lt (h : Rd rb s i d w) : rb < w.heap.size := (Array.getElem?_eq_some_iff.1 h).1
theorem Rd.c0 (h : Rd rb s i d w) : w.cell? ⟨rb, 0, none⟩ = some (.string s) := by rw [Lib.cell_of_heap h]; rfl
theorem Rd.c1 (h : Rd rb s i d w) : w.cell? ⟨rb, 1, none⟩ = some (.int .i64 i) := by rw [Lib.cell_of_heap h]; rfl
theorem Rd.c2 (h : Rd rb s i d w) : w.cell? ⟨rb, 2, none⟩ = some (.int .i64 d) := by rw [Lib.cell_of_heap h]; rfl
theorem Rd.fz (h : Rd rb s i d w) (o : Nat) : w.frozen? ⟨rb, o, none⟩ = false := Lib.frozen_of_heap h o
theorem Rd.to (h : Rd rb s i d w) (k : Nat) : Rd rb s k d (w.setCell ⟨rb, 1, none⟩ (.int .i64 k)) := by
  unfold Rd at *; simp [World.setCell, Array.getElem?_modify, h]
theorem Rd.up (h : Rd rb s i d w) : Rd rb s (i + 1) d (w.setCell ⟨rb, 1, none⟩ (.int .i64 ((i : Int) + 1))) := h.to (i + 1)
theorem Rd.into (h : Rd rb s i d w) (k : Nat) : Rd rb s i k (w.setCell ⟨rb, 2, none⟩ (.int .i64 k)) := by
  unfold Rd at *; simp [World.setCell, Array.getElem?_modify, h]
theorem Rd.drewN (h : Rd rb s i d w) (n : Nat) : Rd rb s i d (w.drewN n) := h
theorem Rd.drew (h : Rd rb s i d w) : Rd rb s i d w.drew := h
theorem Rd.alloc (h : Rd rb s i d w) (o : Obj) : Rd rb s i d (w.alloc o) := (Below.heap_alloc w o rb h.lt).trans h
theorem Rd.below (h : Rd rb s i d w) {B : Nat} (hb : Below B w w') (hB : rb < B) : Rd rb s i d w' := (hb.block rb hB).trans h
theorem Rd.other (h : Rd rb s i d w) {p : Addr} (hp : p.block ≠ rb) (u : Value) : Rd rb s i d (w.setCell p u) := (Below.heap_setCell w p u rb (Ne.symm hp)).trans h
theorem Rd.grown (h : Rd rb s i d w) {row : Option Nat} (hg : w.grownBy w' row) (hr : row ≠ some rb) : Rd rb s i d w' := (hg.block rb h.lt (Ne.symm hr)).trans h
end
/-- A row of nodes lies in no reader's block. -/
theorem Nds.kb {rb : Nat} {s : ByteArray} {i d : Nat} {w w' : World} {v : Value} {l : List Nd} (h : Nds w v l) (hr : Rd rb s i d w) (hb : Kb w.heap.size rb w w') : Nds w' v l := by
  obtain ⟨A, c, hv, hc, hm, hz, H⟩ := h
  refine ⟨A, c, hv, hc, hm, hz, fun h0 => ?_⟩
  obtain ⟨g, o, hA, hg, hx⟩ := H h0
  have hne : g ≠ rb := by
    rintro rfl
    have := hx 0 _ (List.getElem?_eq_getElem h0) 5 _ rfl
    rw [Lib.cell_of_heap hr] at this
    simp at this
  refine ⟨g, o, hA, Nat.lt_of_lt_of_le hg hb.size, fun k x hk j u hu => ?_⟩
  exact (hb.cell (p := ⟨g, o + k * 6 + j, none⟩) hg hne).trans (hx k x hk j u hu)

/-- How a text's fault is told. -/
def flt (e : Int) (p : Nat) : Ending := .panicked [{ v := .iface 48 (.agg #[.int .i64 e, .int .i64 p]), recovered := false }]
def atOf (rb : Nat) (w : World) : Nat := (intOf ((w.cell? ⟨rb, 1, none⟩).getD .nilIface)).toNat
theorem Rd.atOf {rb : Nat} {s : ByteArray} {i d : Nat} {w : World} (h : Rd rb s i d w) : atOf rb w = i := by
  unfold Go.Proofs.YtfeiolklhkclgaaGreatDoor.atOf; rw [h.c1]; simp [intOf]

theorem bt_rd (s : ByteArray) (k : Nat) (h : k < s.size) : s[k].toNat = bt s.data.toList k := by
  simp [bt, List.getD_eq_getElem?_getD, List.getElem?_eq_getElem (show k < s.data.toList.length from h)]
  rfl

set_option maxHeartbeats 2000000 in
theorem next_any (rb : Nat) (s : ByteArray) (i d : Nat) (w : World) (hr : Rd rb s i d w) (hi : i ≤ s.size) (hs : s.size ≤ 200000) :
    Calls Tryz.prog 23 #[.pointer (some ⟨rb, 0, none⟩)] w fun e w' => e = .returned (.int .u8 (bt s.data.toList (sk s.data.toList i))) ∧ Rd rb s (sk s.data.toList i) d w' ∧ Kb w.heap.size rb w w' := by
  have HW : Hid (Rd rb s i d w) := Lib.hid hr
  generalize hS : sk s.data.toList i = T
  have HT := Lib.hid hS; clear hS
  clear hr
  go_enter Tryz.func23, Tryz.ntmps23
  go_wp2
  go_loopw [] (fun wr => ∃ k : Nat, k ≤ s.size ∧ Hid (sk s.data.toList k = T) ∧ Hid (Rd rb s k d wr) ∧ Hid (Kb w.heap.size rb w wr)) (fun wr => s.size - atOf rb wr)
  case atStart => exact ⟨i, hi, HT, HW, Lib.hid (Kb.refl _ _ _)⟩
  case round =>
    obtain ⟨k, hk, HK, HR, HB⟩ := hrel
    have c0 := HR.out.c0
    have c1 := HR.out.c1
    have f1 := HR.out.fz 1
    by_cases hlt : k < s.size
    · have hb := bt_rd s k hlt
      by_cases hbl : blk (bt s.data.toList k) = true
      · have HN : Hid (sk s.data.toList (k + 1) = T) := Lib.hid (by rw [← HK.out, sk_blk (S := s.data.toList) hlt hbl])
        have hb0 : ((bt s.data.toList k : Int) == 32) = true ∨ ((bt s.data.toList k : Int) == 9) = true ∨ ((bt s.data.toList k : Int) == 10) = true ∨ ((bt s.data.toList k : Int) == 13) = true := by
          simp [blk] at hbl; simp; omega
        go_wp2_with fail
        go_quiet (fail)
        go_wp2_with fail
        go_quiet (fail)
        go_wp2_with fail
        iterate 4
          · refine ⟨⟨k + 1, by omega, HN, ?_, ?_⟩, ?_⟩
            · exact Lib.hid ((HR.out.drewN _).up)
            · exact Lib.hid ((HB.out.drewN _).set 1 _)
            · rw [(Rd.up (HR.out.drewN _)).atOf, HR.out.atOf]
              omega
        · exfalso
          rcases hb0 with h | h | h | h <;> simp_all
      · have hb1 : ((bt s.data.toList k : Int) == 32) = false ∧ ((bt s.data.toList k : Int) == 9) = false ∧ ((bt s.data.toList k : Int) == 10) = false ∧ ((bt s.data.toList k : Int) == 13) = false := by
          simp [blk] at hbl; simp; omega
        obtain ⟨g0, g1, g2, g3⟩ := hb1
        have hTk : T = k := by rw [← HK.out]; exact sk_not (by simpa using hbl)
        subst hTk
        go_wp2_with fail
        go_quiet (fail)
        go_wp2_with fail
        go_quiet (fail)
        go_wp2_with fail
        go_ret
        exact ⟨rfl, HR.out.drewN _, HB.out.drewN _⟩
    · have hTk : T = k := by rw [← HK.out]; exact sk_over (by show s.size ≤ k; omega)
      subst hTk
      have hb : bt s.data.toList T = 0 := bt_of_ge (by show s.size ≤ T; omega)
      go_wp2_with fail
      go_quiet (fail)
      go_wp2_with fail
      go_ret
      exact ⟨by rw [hb]; rfl, HR.out.drewN _, HB.out.drewN _⟩

/-- Does a mark stand next; and where it goes on. -/
def isAt (S : List UInt8) (i c : Nat) : Bool := decide (bt S (sk S i) = c)
def past (S : List UInt8) (i c : Nat) : Nat := if isAt S i c = true then sk S i + 1 else sk S i
theorem isAt_iff {S : List UInt8} {i c : Nat} : isAt S i c = true ↔ bt S (sk S i) = c := by simp [isAt]
theorem past_le {S : List UInt8} {i c : Nat} (h : i ≤ S.length) (hc : c ≠ 0) : past S i c ≤ S.length := by
  have := sk_le h
  unfold past
  split
  · rename_i h1
    have := bt_lt (S := S) (k := sk S i) (by rw [isAt_iff.1 h1]; exact hc)
    omega
  · omega

set_option maxHeartbeats 1000000 in
theorem takes_any (rb : Nat) (s : ByteArray) (i d c : Nat) (w : World) (hr : Rd rb s i d w) (hi : i ≤ s.size) (hs : s.size ≤ 200000) :
    Calls Tryz.prog 82 #[.pointer (some ⟨rb, 0, none⟩), .int .u8 c] w fun e w' => e = .returned (.bool (isAt s.data.toList i c)) ∧ Rd rb s (past s.data.toList i c) d w' ∧ Kb w.heap.size rb w w' := by
  have HX := Lib.hid (next_any rb s i d w hr hi hs)
  have hT : sk s.data.toList i ≤ s.size := sk_le (S := s.data.toList) hi
  have HP : Hid (past s.data.toList i c = if isAt s.data.toList i c = true then sk s.data.toList i + 1 else sk s.data.toList i) := Lib.hid rfl
  have HI : Hid (isAt s.data.toList i c = decide (bt s.data.toList (sk s.data.toList i) = c)) := Lib.hid rfl
  generalize past s.data.toList i c = Q at *
  generalize isAt s.data.toList i c = I at *
  generalize sk s.data.toList i = T at *
  generalize bt s.data.toList T = b at *
  clear hr
  go_enter Tryz.func82, Tryz.ntmps82
  go_wp2_with (go_at_call 23; refine HX.out.mono ?_)
  rintro e w1 ⟨rfl, hr1, hk1⟩
  have HR := Lib.hid hr1
  have HK := Lib.hid hk1
  have c1 := hr1.c1
  have f1 := hr1.fz 1
  clear hr1 hk1
  by_cases h : b = c
  · have hd : ((b : Int) == (c : Int)) = true := by simp [h]
    have HQ : Hid (I = true ∧ Q = T + 1) := Lib.hid (by have h1 : I = true := by rw [HI.out]; simpa using h
                                                        exact ⟨h1, by rw [HP.out, if_pos h1]⟩)
    clear h
    go_wp2
    go_ret
    exact ⟨ret_bool HQ.out.1.symm, by rw [HQ.out.2]; exact HR.out.up, HK.out.set 1 _⟩
  · have hd : ((b : Int) == (c : Int)) = false := by simp; omega
    have HQ : Hid (I = false ∧ Q = T) := Lib.hid (by have h1 : I = false := by rw [HI.out]; simpa using h
                                                     exact ⟨h1, by rw [HP.out, h1]; rfl⟩)
    clear h
    go_wp2
    go_ret
    exact ⟨ret_bool HQ.out.1.symm, by rw [HQ.out.2]; exact HR.out, HK.out⟩

set_option maxHeartbeats 1000000 in
theorem needs_any (rb : Nat) (s : ByteArray) (i d c : Nat) (w : World) (hr : Rd rb s i d w) (hi : i ≤ s.size) (hs : s.size ≤ 200000) :
    Calls Tryz.prog 61 #[.pointer (some ⟨rb, 0, none⟩), .int .u8 c] w fun e w' => Kb w.heap.size rb w w' ∧
      (isAt s.data.toList i c = true ∧ e = .returned (.tuple #[]) ∧ Rd rb s (sk s.data.toList i + 1) d w' ∨ isAt s.data.toList i c = false ∧ e = flt 1 (sk s.data.toList i)) := by
  have HX := Lib.hid (takes_any rb s i d c w hr hi hs)
  have HP : Hid (past s.data.toList i c = if isAt s.data.toList i c = true then sk s.data.toList i + 1 else sk s.data.toList i) := Lib.hid rfl
  generalize past s.data.toList i c = Q at *
  generalize isAt s.data.toList i c = I at *
  generalize sk s.data.toList i = T at *
  clear hr
  go_enter Tryz.func61, Tryz.ntmps61
  go_wp2_with (go_at_call 82; refine HX.out.mono ?_)
  rintro e w1 ⟨rfl, hr1, hk1⟩
  cases I
  · have h1 : Q = T := by rw [HP.out]; rfl
    subst h1
    have HR := Lib.hid hr1
    have HK := Lib.hid hk1
    have c1 := hr1.c1
    clear hr1 hk1
    go_wp2
    exact ⟨rfl, HK.out, rfl⟩
  · have h1 : Q = T + 1 := by rw [HP.out]; rfl
    subst h1
    have HR := Lib.hid hr1
    have HK := Lib.hid hk1
    clear hr1 hk1
    go_wp2
    go_end0
    exact ⟨HK.out, rfl, HR.out⟩
end Go.Proofs.YtfeiolklhkclgaaGreatDoor

/-
  What quote's Utf is.
-/
namespace Go.Proofs.YtfeiolklhkclgaaGreatDoor
open Go.RowKit Np Up Qp

theorem ext_end (s : ByteArray) (k : Nat) : (s.extract k s.size).data.toList = s.data.toList.drop k := by
  have h := Lib.extract_toList s k s.size
  rw [ByteArray.toList_eq] at h
  rw [h, List.take_of_length_le (by simp)]
theorem drop_ne (s : ByteArray) (k : Nat) (h : k < s.size) : s.data.toList.drop k ≠ [] := by
  intro h'; have := congrArg List.length h'; rw [List.length_drop, size_toList, List.length_nil] at this; omega
/-- The rune at a place, and its width. -/
theorem dec_at (s : ByteArray) (k : Nat) : Utf8.decode s k = Lib.decodeL (s.data.toList.drop k) := (Lib.decodeL_drop s k).symm
theorem dec_width (l : List UInt8) (hl : l ≠ []) : 1 ≤ (Lib.decodeL l).2 ∧ (Lib.decodeL l).2 ≤ l.length := ⟨Lib.decodeL_width l, Lib.decodeL_le l hl⟩
theorem dec_good {l : List UInt8} (h : runeN l ≠ 0) : (Lib.decodeL l).2 = runeN l := by
  rcases decode_rune l with ⟨h0, _⟩ | ⟨_, h1, _⟩
  · exact absurd h0 h
  · exact h1

end Go.Proofs.YtfeiolklhkclgaaGreatDoor

/-
  What val's Object answers.
-/
namespace Go.Proofs.YtfeiolklhkclgaaGreatDoor
open Go.RowKit Np Rw Vp

/-- What val.Object hands back. -/
def GivesO (w : World) (names : List (List UInt8)) (L : List (List Nd)) (e : Ending) (w' : World) : Prop := ∃ v', e = .returned (.tuple #[v', .int .i64 (objE names L)]) ∧ OwnN w.heap.size w' v' (objV names L) ∧ Below w.heap.size w w'
theorem GivesO.bad {w w' : World} {names : List (List UInt8)} {L : List (List Nd)} {e : Ending} (h : objB names L = false) (he : e = .returned (.tuple #[.slice none 0 0, .int .i64 4])) (hb : Below w.heap.size w w') : GivesO w names L e w' :=
  ⟨_, by rw [objE, h]; exact he, by rw [objV, h]; exact Own.nil _, hb⟩

/-- So far no name is wrong, or there twice. -/
def GoodTo (names : List (List UInt8)) (p : List Nat) (k : Nat) : Prop :=
  (∀ i j, i < k → p[i]? = some j → vld (atN names j) = true) ∧ (∀ i a b, i + 1 < k → p[i]? = some a → p[i + 1]? = some b → atN names a ≠ atN names b)

theorem GoodTo.next {names : List (List UInt8)} {p : List Nat} {k at_ : Nat} (h : GoodTo names p k) (ha : p[k]? = some at_) (hv : vld (atN names at_) = true) (hn : ∀ a, 0 < k → p[k - 1]? = some a → atN names a ≠ atN names at_) : GoodTo names p (k + 1) := by
  refine ⟨fun i j hi hj => ?_, fun i a b hi h1 h2 => ?_⟩
  · by_cases e : i = k
    · subst e; rw [ha] at hj; injection hj with hj; rw [← hj]; exact hv
    · exact h.1 i j (by omega) hj
  · by_cases e : i + 1 = k
    · subst e; rw [ha] at h2; injection h2 with h2; rw [← h2]; exact hn a (by omega) h1
    · exact h.2 i a b (by omega) h1 h2

set_option maxRecDepth 100000 in
set_option maxHeartbeats 4000000 in
theorem object_any (v u : Value) (names : List (List UInt8)) (L : List (List Nd)) (w : World) (hv : Sts w v names) (hu : Vls w u L) (hn : names.length ≤ 65536) (hb2 : (L.map List.length).sum ≤ 131072) (hsh : ∀ s ∈ names, s.length ≤ maxLen) (hT : Tabs w) :
    Calls Tryz.prog 62 #[v, u] w (GivesO w names L) := by
  have HV := Lib.hid hv
  have HU := Lib.hid hu
  have HT := Lib.hid hT
  have HSH := Lib.hid hsh
  clear hsh hT
  obtain ⟨us, hul, hu, hur⟩ := hu
  obtain ⟨A, c, rfl, hc, hcm, -, H⟩ := hv
  obtain ⟨A2, c2, rfl, hc2, hcm2, -, H2⟩ := hu
  by_cases hl : names.length = L.length
  · have hlu : us.length = names.length := by omega
    rw [hlu] at H2 HU hc2 ⊢
    have HL := Lib.hid hl
    have HH := Lib.hid H
    have HH2 := Lib.hid H2
    have HUL := Lib.hid hul
    have HUR := Lib.hid hur
    have HLU := Lib.hid hlu
    clear hl hul hlu H H2 hur
    generalize hnn : names.length = n at *
    have HN := Lib.hid hnn; clear hnn
    go_enter Tryz.func62, Tryz.ntmps62
    go_wp2_with (go_at_call 85; refine (byName_len _ names n _ HN.out HV.out hn).mono ?_; rintro e w1 ⟨PA, pc, p, rfl, hpv, hpl, hp, hB1⟩)
    have HPL := Lib.hid hpl
    have HP := Lib.hid hp
    have HB1 := Lib.hid hB1
    have HPV := Lib.hid hpv
    have HPX : Hid (0 < n → ∃ g o : Nat, PA = some ⟨g, o, none⟩ ∧ g < w1.heap.size ∧ ∀ k x, (p.map Int.ofNat)[k]? = some x → CellsAt w1 g (o + k * 1) (inc x)) := Lib.hid (fun h0 => by
      obtain ⟨g, o, c, h1, h2, h3, h4, h5⟩ := hpv.opened (by rw [List.length_map, hpl]; exact h0)
      injection h1 with e1 _ _
      exact ⟨g, o, e1, h4, h5⟩)
    clear hp hB1 hpv hpl
    go_loopw [22] (fun i wr => ∃ k : Nat, k ≤ n ∧ i = .int .i64 k ∧ Below w1.heap.size w1 wr ∧ GoodTo names p k) (fun i _ => n - (intOf i).toNat)
    case atStart => exact ⟨0, Nat.zero_le _, rfl, Below.refl _ _, ⟨fun i j h => by omega, fun i a b h => by omega⟩⟩
    case round =>
      obtain ⟨k, hk, rfl, hbr, hgood⟩ := hrel
      have HBR := Lib.hid hbr
      have HG := Lib.hid hgood
      have hBw : Below w.heap.size w wr := Below.after HB1.out hbr
      have HBW := Lib.hid hBw
      clear hbr hgood hBw
      by_cases hlt : k < n
      · obtain ⟨pg, po, rfl, hpg, hpx⟩ := HPX.out (by omega)
        obtain ⟨at_, hat⟩ : ∃ a, p[k]? = some a := ⟨_, List.getElem?_eq_getElem (by rw [HPL.out]; exact hlt)⟩
        have hatn : at_ < n := by have := HP.out.lt (List.mem_of_getElem? hat); rwa [HN.out] at this
        have hatx : names[at_]? = some (atN names at_) := by rw [atN, List.getD_eq_getElem?_getD, List.getElem?_eq_getElem (by rw [HN.out]; exact hatn)]; rfl
        obtain ⟨g, o, rfl, hg, hx⟩ := HH.out (by omega)
        have pc0 := (HBR.out.cell (p := ⟨pg, po + k, none⟩) hpg).trans (hpx k at_ (by rw [List.getElem?_map, hat]; rfl)).int
        have nc0 := (HBW.out.cell (p := ⟨g, o + at_, none⟩) hg).trans (hx at_ _ hatx).st
        have hatI : (at_ : Int) < n := by omega
        have HAT := Lib.hid hat
        have HVA : Hid ((ByteArray.mk (atN names at_).toArray).size ≤ maxLen) := Lib.hid (HSH.out _ (List.mem_of_getElem? hatx))
        have HTW : Hid (Tabs wr) := Lib.hid (HT.out.below HBW.out)
        clear hat hatx
        cases k with
        | zero =>
          have hk0 : decide ((0 : Int) < (0 : Nat)) = false := by simp
          have hk1 : decide ((0 : Nat) < 0) = false := by simp
          simp only [Int.natCast_zero, Nat.add_zero] at hk0 pc0 ⊢
          cases hvl : vld (atN names at_) with
          | false =>
            have HVL := Lib.hid hvl
            clear hvl
            go_wp2_with fail
            go_quiet (fail)
            go_wp2_with (go_at_call 86; refine (valid_any _ _ HVA.out (HTW.out.below (drewN_below (Below.refl _ _) _))).mono ?_; rintro e w2 ⟨rfl, hb2⟩; rw [show vld (ByteArray.mk (atN names at_).toArray).data.toList = false from HVL.out])
            go_ret2
            exact GivesO.bad (by rw [objB, HP.out.wrong (List.mem_of_getElem? HAT.out) HVL.out, Bool.and_false]) rfl (Below.after HBW.out (Below.after (drewN_below (Below.refl _ _) _) hb2))
          | true =>
            have HVL := Lib.hid hvl
            clear hvl
            go_wp2_with fail
            go_quiet (fail)
            go_wp2_with (go_at_call 86; refine (valid_any _ _ HVA.out (HTW.out.below (drewN_below (Below.refl _ _) _))).mono ?_; rintro e w2 ⟨rfl, hb2⟩; rw [show vld (ByteArray.mk (atN names at_).toArray).data.toList = true from HVL.out])
            go_roundw
            case rel => exact ⟨0 + 1, by omega, by go_num, Below.after HBR.out (Below.after (drewN_below (Below.refl _ _) _) hb2), HG.out.next HAT.out HVL.out (fun a h => by omega)⟩
            case measure => simp [intOf]; omega
        | succ k =>
          obtain ⟨pr, hpr⟩ : ∃ a, p[k]? = some a := ⟨_, List.getElem?_eq_getElem (by rw [HPL.out]; omega)⟩
          have hprn : pr < n := by have := HP.out.lt (List.mem_of_getElem? hpr); rwa [HN.out] at this
          have hprx : names[pr]? = some (atN names pr) := by rw [atN, List.getD_eq_getElem?_getD, List.getElem?_eq_getElem (by rw [HN.out]; exact hprn)]; rfl
          have qc0 := (HBR.out.cell (p := ⟨pg, po + k, none⟩) hpg).trans (hpx k pr (by rw [List.getElem?_map, hpr]; rfl)).int
          have mc0 := (HBW.out.cell (p := ⟨g, o + pr, none⟩) hg).trans (hx pr _ hprx).st
          have hprI : (pr : Int) < n := by omega
          have HPR := Lib.hid hpr
          clear hpr hprx hpx hx
          have hk0 : decide ((0 : Int) < (k + 1 : Nat)) = true := by simp
          have hk1 : decide (0 < k + 1) = true := by simp
          have hki : (k : Int) < n := by omega
          have hkn : k < n := by omega
          generalize hans : atN names at_ = nm at *
          generalize hbns : atN names pr = nb at *
          have HA := Lib.hid hans
          have HB := Lib.hid hbns
          clear hans hbns
          by_cases he : nb = nm
          · have HE := Lib.hid he
            subst he
            have hw1 : IntKind.i64.wrap ((k + 1 : Nat) - 1 : Int) = k := (IntWalk.i64_in _ (by omega)).trans (by omega)
            go_wp2_with fail
            go_quiet (fail)
            go_wp2_with fail
            go_ret2
            exact GivesO.bad (by rw [objB, HP.out.same HPR.out HAT.out (by rw [HA.out, HB.out]), Bool.and_false]) rfl (Below.after HBW.out (drewN_below (Below.refl _ _) _))
          · have hne : (nb == nm) = false := by simp [he]
            have hw1 : IntKind.i64.wrap ((k + 1 : Nat) - 1 : Int) = k := (IntWalk.i64_in _ (by omega)).trans (by omega)
            have HNE := Lib.hid he
            cases hvl : vld nm with
            | false =>
              have HVL := Lib.hid hvl
              clear hvl
              go_wp2_with fail
              go_quiet (fail)
              go_wp2_with (go_at_call 86; refine (valid_any _ _ HVA.out (HTW.out.below (drewN_below (Below.refl _ _) _))).mono ?_; rintro e w2 ⟨rfl, hb2⟩; rw [show vld (ByteArray.mk nm.toArray).data.toList = false from HVL.out])
              go_ret2
              exact GivesO.bad (by rw [objB, HP.out.wrong (List.mem_of_getElem? HAT.out) (by rw [HA.out]; exact HVL.out), Bool.and_false]) rfl (Below.after HBW.out (Below.after (drewN_below (Below.refl _ _) _) hb2))
            | true =>
              have HVL := Lib.hid hvl
              clear hvl
              go_wp2_with fail
              go_quiet (fail)
              go_wp2_with (go_at_call 86; refine (valid_any _ _ HVA.out (HTW.out.below (drewN_below (Below.refl _ _) _))).mono ?_; rintro e w2 ⟨rfl, hb2⟩; rw [show vld (ByteArray.mk nm.toArray).data.toList = true from HVL.out])
              go_roundw
              case rel => exact ⟨k + 1 + 1, by omega, by go_num, Below.after HBR.out (Below.after (drewN_below (Below.refl _ _) _) hb2), HG.out.next HAT.out (by rw [HA.out]; exact HVL.out) (fun a _ h => by
                have h' : p[k]? = some a := h
                rw [HPR.out] at h'
                injection h' with h'
                rw [← h', HA.out, HB.out]; exact HNE.out)⟩
              case measure => simp [intOf]; omega
      · obtain rfl : k = n := by omega
        have hgd := HP.out.good (fun i hi => by
            obtain ⟨j, hj, rfl⟩ := List.getElem_of_mem hi
            exact HG.out.1 j _ (by rw [← HPL.out]; exact hj) (List.getElem?_eq_getElem hj))
          (fun i a b h1 h2 => HG.out.2 i a b (by
            have := (List.getElem?_eq_some_iff.1 h2).1
            rw [HPL.out] at this; exact this) h1 h2)
        have HO : Hid (objB names L = true) := Lib.hid (by rw [objB, hgd.1, HN.out, HL.out]; simp)
        have HPA := Lib.hid (HP.out.pairs (L := L) (by rw [HN.out]; exact HL.out) hgd.2)
        clear hgd
        obtain ⟨wo, rfl⟩ : ∃ wo : World, wo = wr := ⟨_, rfl⟩
        have HVL : Hid (Vls wo (.slice A2 k c2) L) := Lib.hid (Rowz.below HU.out (HBW.out))
        have hb1 : L.length ≤ 65536 := by rw [← HL.out]; exact hn
        go_wp2_with (go_at_call 83; refine (head_any 6 _ L _ HVL.out (Nat.le_trans hb1 (by decide)) hb2).mono ?_; rintro e w2 ⟨v2, rfl, ho2, hB2⟩)
        have HO2 := Lib.hid ho2
        have HB2 := Lib.hid hB2
        clear ho2 hB2
        have hbs : w.heap.size ≤ wo.heap.size := HBW.out.size
        go_loopw [10, 58] (fun vv i w3 => ∃ j : Nat, j ≤ k ∧ i = .int .i64 j ∧ OwnN wo.heap.size w3 vv (hdN 6 L.length :: laid ((p.take j).map fun x => (atN names x, atL L x))) ∧ Below wo.heap.size wo w3) (fun _ i _ => k - (intOf i).toNat)
        case atStart => exact ⟨0, Nat.zero_le _, rfl, HO2.out, HB2.out⟩
        case round =>
          obtain ⟨j, hj, rfl, hown, hb3⟩ := hrel
          have HO3 := Lib.hid hown
          have HB3 := Lib.hid hb3
          have HBR3 : Hid (Below w1.heap.size w1 wr) := Lib.hid (Below.after HBR.out hb3)
          have HBW3 : Hid (Below w.heap.size w wr) := Lib.hid (Below.after HBW.out hb3)
          clear hown hb3
          by_cases hlt2 : j < k
          · obtain ⟨pg, po, rfl, hpg, hpx⟩ := HPX.out (by omega)
            obtain ⟨at_, hat⟩ : ∃ a, p[j]? = some a := ⟨_, List.getElem?_eq_getElem (by rw [HPL.out]; exact hlt2)⟩
            have hatn : at_ < k := by have := HP.out.lt (List.mem_of_getElem? hat); rwa [HN.out] at this
            have hatx : names[at_]? = some (atN names at_) := by rw [atN, List.getD_eq_getElem?_getD, List.getElem?_eq_getElem (by rw [HN.out]; exact hatn)]; rfl
            have hatl : L[at_]? = some (atL L at_) := by rw [atL, List.getD_eq_getElem?_getD, List.getElem?_eq_getElem (by rw [← HL.out]; exact hatn)]; rfl
            obtain ⟨g, o, rfl, hg, hx⟩ := HH.out (by omega)
            obtain ⟨g2, o2, rfl, hg2, hx2⟩ := HH2.out (by omega)
            obtain ⟨x, hux⟩ : ∃ a, us[at_]? = some a := ⟨_, List.getElem?_eq_getElem (by rw [HLU.out]; exact hatn)⟩
            have pc0 := (HBR3.out.cell (p := ⟨pg, po + j, none⟩) hpg).trans (hpx j at_ (by rw [List.getElem?_map, hat]; rfl)).int
            have nc0 := (HBW3.out.cell (p := ⟨g, o + at_, none⟩) hg).trans (hx at_ _ hatx).st
            have lc0 := (HBW3.out.cell (p := ⟨g2, o2 + at_, none⟩) hg2).trans (hx2 at_ _ hux).one
            have hatI : (at_ : Int) < k := by omega
            have HRX : Hid (Nds wr x (atL L at_)) := Lib.hid ((HUR.out at_ _ _ hux hatl).below HBW3.out)
            have HTK : Hid ((p.take (j + 1)).map (fun x => (atN names x, atL L x)) = (p.take j).map (fun x => (atN names x, atL L x)) ++ [(atN names at_, atL L at_)]) := Lib.hid (by rw [List.take_add_one, hat]; simp)
            have HLG : Hid ((hdN 6 L.length :: laid ((p.take j).map fun x => (atN names x, atL L x))).length + (atL L at_).length ≤ 200000) := Lib.hid (by
              have h1 := HP.out.long (L := L) (by rw [HN.out]; exact HL.out) (j + 1)
              rw [HTK.out, laid_snoc, List.length_append, setNm_len] at h1
              simp only at h1
              rw [List.length_cons]; omega)
            clear hat hatx hatl hx hx2 hpx hux
            go_wp2_with fail
            go_still_tail 9, (by kernel_rfl)
            change wpList _ _ _ _ _ wr.drew
            have HO4 : Hid (OwnN wo.heap.size wr.drew u10 (hdN 6 L.length :: laid ((p.take j).map fun x => (atN names x, atL L x)))) := Lib.hid HO3.out.drew
            have HR4 : Hid (Nds wr.drew x (atL L at_)) := Lib.hid (HRX.out.below (Below.refl _ _).drew)
            have HB5 : Hid (Below wo.heap.size wo wr.drew) := Lib.hid HB3.out.drew
            clear pc0 nc0 lc0
            generalize wr.drew = w4 at HO4 HR4 HB5 ⊢
            go_wp2_with (go_at_call 84; refine (lay_any wo.heap.size _ _ _ _ _ _ HO4.out HR4.out HB5.out.size HLG.out).mono ?_; rintro e w5 ⟨v5, rfl, ho5, hg5⟩)
            have HO5 := Lib.hid ho5
            have HG5 := Lib.hid hg5
            clear ho5 hg5
            go_roundw
            case rel => exact ⟨j + 1, by omega, by go_num, by rw [HTK.out, laid_snoc]; exact HO5.out, HB5.out.trans (HO4.out.kept HG5.out HB5.out.size)⟩
            case measure => simp [intOf]; omega
          · have HE : Hid (p.take j = p) := Lib.hid (List.take_of_length_le (by rw [HPL.out]; omega))
            go_wp2_with fail
            go_ret2
            refine ⟨_, by rw [objE, HO.out]; rfl, ?_, HBW3.out⟩
            rw [objV, HO.out, if_pos rfl, HPA.out, ← HE.out]
            exact HO3.out.mono HBW.out.size
  · have hne : ((names.length : Int) != us.length) = true := by simp; omega
    have HO : Hid (objB names L = false) := Lib.hid (by simp [objB, hl])
    clear hl hul H H2 hur
    generalize names.length = n at *
    generalize us.length = m at *
    go_enter Tryz.func62, Tryz.ntmps62
    go_wp2_with fail
    go_ret2
    exact GivesO.bad HO.out rfl (Below.refl _ _)
end Go.Proofs.YtfeiolklhkclgaaGreatDoor

/-
  What Parse's deferred closure does.
-/
namespace Go.Proofs.YtfeiolklhkclgaaGreatDoor
open Go.RowKit Np Up Qp Tp

theorem catch_idle (a b c : Nat) (w : World) :
    CallsD Tryz.prog 21 #[.pointer (some ⟨a, 0, none⟩), .pointer (some ⟨b, 0, none⟩), .pointer (some ⟨c, 0, none⟩)] .returning w fun e u' w' => e = .returned (.tuple #[]) ∧ u' = .returning ∧ w' = w := by
  refine callsD_of_wpS Tryz.func21 rfl fun c₀ cs hu => ?_
  apply wpS_seq
  apply wpS_region
  simp [wpOpsS, go_sem, recoverD, hu, Tryz.ntmps21, Exit.thenS]
  apply wpS_seq
  apply wpS_region
  simp [wpOpsS, go_sem, Exit.thenS]
  refine wpS_cond (t := false) (by simp [Act.eval, Array.replicate]) ?_
  simp only [Bool.false_eq_true, if_false]
  refine wpS_of_wp (wp_skip ?_)
  cases c₀
  simp_all [bodyPostS, results, Tryz.results21]
theorem catch_world {a b c : Nat} {u0 u1 u2 x y z : Value} {T0 T1 T2 : Nat} {w : World} (hab : a ≠ b) (hac : a ≠ c) (hbc : b ≠ c) (h0 : w.heap[a]? = some (.cells #[u0] T0 (0, 0))) (h1 : w.heap[b]? = some (.cells #[u1] T1 (0, 0))) (h2 : w.heap[c]? = some (.cells #[u2] T2 (0, 0))) (o : Obj) :
    ((((w.setCell ⟨a, 0, none⟩ x).setCell ⟨b, 0, none⟩ y).setCell ⟨c, 0, none⟩ z).alloc o).drew.heap[a]? = some (.cells #[x] T0 (0, 0)) ∧ ((((w.setCell ⟨a, 0, none⟩ x).setCell ⟨b, 0, none⟩ y).setCell ⟨c, 0, none⟩ z).alloc o).drew.heap[b]? = some (.cells #[y] T1 (0, 0)) ∧ ((((w.setCell ⟨a, 0, none⟩ x).setCell ⟨b, 0, none⟩ y).setCell ⟨c, 0, none⟩ z).alloc o).drew.heap[c]? = some (.cells #[z] T2 (0, 0)) ∧
    w.heap.size ≤ ((((w.setCell ⟨a, 0, none⟩ x).setCell ⟨b, 0, none⟩ y).setCell ⟨c, 0, none⟩ z).alloc o).drew.heap.size ∧ ((((w.setCell ⟨a, 0, none⟩ x).setCell ⟨b, 0, none⟩ y).setCell ⟨c, 0, none⟩ z).alloc o).drew.os = w.os ∧ ((((w.setCell ⟨a, 0, none⟩ x).setCell ⟨b, 0, none⟩ y).setCell ⟨c, 0, none⟩ z).alloc o).drew.tape = w.tape ∧ ((((w.setCell ⟨a, 0, none⟩ x).setCell ⟨b, 0, none⟩ y).setCell ⟨c, 0, none⟩ z).alloc o).drew.output = w.output ∧
    ∀ k, k < w.heap.size → ¬ k = a → ¬ k = b → ¬ k = c → ((((w.setCell ⟨a, 0, none⟩ x).setCell ⟨b, 0, none⟩ y).setCell ⟨c, 0, none⟩ z).alloc o).drew.heap[k]? = w.heap[k]? := by
  have e : ∀ k, k < w.heap.size → ((((w.setCell ⟨a, 0, none⟩ x).setCell ⟨b, 0, none⟩ y).setCell ⟨c, 0, none⟩ z).alloc o).drew.heap[k]? = (((w.setCell ⟨a, 0, none⟩ x).setCell ⟨b, 0, none⟩ y).setCell ⟨c, 0, none⟩ z).heap[k]? := fun k hk => Below.heap_alloc _ _ _ (by simpa using hk)
  refine ⟨?_, ?_, ?_, by show _ ≤ ((((w.setCell ⟨a, 0, none⟩ x).setCell ⟨b, 0, none⟩ y).setCell ⟨c, 0, none⟩ z).alloc o).heap.size; simp, rfl, rfl, rfl, fun k hk ha hb hc => ?_⟩
  · rw [e a (lt_of_block h0)]; simp [World.setCell, Array.getElem?_modify, h0, Ne.symm hab, Ne.symm hac]
  · rw [e b (lt_of_block h1)]; simp [World.setCell, Array.getElem?_modify, h1, hab, Ne.symm hbc]
  · rw [e c (lt_of_block h2)]; simp [World.setCell, Array.getElem?_modify, h2, hac, hbc]
  · rw [e k hk]
    exact ((Below.heap_setCell _ _ _ _ hc).trans (Below.heap_setCell _ _ _ _ hb)).trans (Below.heap_setCell _ _ _ _ ha)

set_option maxRecDepth 100000 in
set_option maxHeartbeats 2000000 in
theorem catch_fault (a b c : Nat) (er q : Int) (u0 u1 u2 : Value) (older : List PanicEntry) (w : World) (hab : a ≠ b) (hac : a ≠ c) (hbc : b ≠ c) (h0 : w.heap[a]? = some (.cells #[u0] 24 (0, 0))) (h1 : w.heap[b]? = some (.cells #[u1] 3 (0, 0))) (h2 : w.heap[c]? = some (.cells #[u2] 25 (0, 0))) :
    CallsD Tryz.prog 21 #[.pointer (some ⟨a, 0, none⟩), .pointer (some ⟨b, 0, none⟩), .pointer (some ⟨c, 0, none⟩)] (.panicking ({ v := .iface 48 (.agg #[.int .i64 er, .int .i64 q]), recovered := false } :: older)) w fun e u' w' =>
      e = .returned (.tuple #[]) ∧ u' = .panicking ({ v := .iface 48 (.agg #[.int .i64 er, .int .i64 q]), recovered := true } :: older) ∧
        w'.heap[a]? = some (.cells #[.slice none 0 0] 24 (0, 0)) ∧ w'.heap[b]? = some (.cells #[.int .i64 q] 3 (0, 0)) ∧ w'.heap[c]? = some (.cells #[.int .i64 er] 25 (0, 0)) ∧ w.heap.size ≤ w'.heap.size ∧ w'.os = w.os ∧ w'.tape = w.tape ∧ w'.output = w.output ∧ ∀ k, k < w.heap.size → k ≠ a → k ≠ b → k ≠ c → w'.heap[k]? = w.heap[k]? := by
  refine callsD_of_wpS Tryz.func21 rfl fun c₀ cs hu => ?_
  apply wpS_seq
  apply wpS_region
  simp [wpOpsS, go_sem, recoverD, hu, Tryz.ntmps21, Exit.thenS]
  apply wpS_seq
  apply wpS_region
  simp [wpOpsS, go_sem, Exit.thenS]
  refine wpS_cond (t := true) (by simp [Act.eval, Array.replicate]) ?_
  simp only [if_true]
  refine wpS_of_wp ?_
  have c0 := cell_of_one h0
  have c1 := cell_of_one h1
  have c2 := cell_of_one h2
  have f0 := free_of_one h0
  have f1 := free_of_one h1
  have f2 := free_of_one h2
  have l0 := lt_of_block h0
  have l1 := lt_of_block h1
  have l2 := lt_of_block h2
  have hta : ∀ w, (Instr.typeAssert (.iface 48 (.agg #[.int .i64 er, .int .i64 q])) 20 48 false).run Tryz.prog w = .ok (.agg #[.int .i64 er, .int .i64 q]) w := fun _ => by kernel_rfl
  have m0 : ¬ a = w.heap.size := by omega
  have m1 : ¬ b = w.heap.size := by omega
  have m2 : ¬ c = w.heap.size := by omega
  go_wp2_with fail
  go_region
  all_goals simp (zetaDelta := true) only [bodyPostS]
  all_goals exact ⟨trivial, _, rfl, .tuple #[], results_none rfl _ _ _, rfl, rfl, catch_world hab hac hbc h0 h1 h2 _⟩
end Go.Proofs.YtfeiolklhkclgaaGreatDoor
