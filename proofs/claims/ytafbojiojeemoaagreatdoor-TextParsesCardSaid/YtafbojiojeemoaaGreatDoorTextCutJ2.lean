/-
  Joined: Kb, TxM, QUtf, TxD.
-/
import Derived.Test.YtafbojiojeemoaaGreatDoorBase
import Derived.Laws.Pointers
import Derived.Test.YtafbojiojeemoaaGreatDoorTextCutJ1
import Derived.Test.YtafbojiojeemoaaGreatDoorMem
import Derived.Lib.FrozenHead
import Derived.Recover
import Derived.Test.YtafbojiojeemoaaGreatDoorQEsc
import Derived.Defers

/-
  Words for memory: all but one block is kept. Of no function.
-/
namespace Go.Proofs.YtafbojiojeemoaaGreatDoor
open Go.RowKit

/-- Below B all but one block is as it was. -/
structure Kb (B rb : Nat) (w w' : World) : Prop where
  os : w'.os = w.os
  tape : w'.tape = w.tape
  output : w'.output = w.output
  size : w.heap.size ≤ w'.heap.size
  block : ∀ k, k < B → k ≠ rb → w'.heap[k]? = w.heap[k]?
theorem Kb.refl (B rb : Nat) (w : World) : Kb B rb w w := ⟨rfl, rfl, rfl, Nat.le_refl _, fun _ _ _ => rfl⟩
theorem Kb.trans {B rb : Nat} {a b c : World} (h : Kb B rb a b) (k : Kb B rb b c) : Kb B rb a c :=
  ⟨k.os.trans h.os, k.tape.trans h.tape, k.output.trans h.output, Nat.le_trans h.size k.size, fun i hi hr => (k.block i hi hr).trans (h.block i hi hr)⟩
theorem Kb.mono {B B' rb : Nat} {w w' : World} (h : Kb B rb w w') (hB : B' ≤ B) : Kb B' rb w w' := ⟨h.os, h.tape, h.output, h.size, fun k hk hr => h.block k (Nat.lt_of_lt_of_le hk hB) hr⟩
/-- One call behind another. -/
theorem Kb.after {rb : Nat} {a b c : World} (h : Kb a.heap.size rb a b) (k : Kb b.heap.size rb b c) : Kb a.heap.size rb a c := h.trans (k.mono h.size)
theorem Kb.of {B rb : Nat} {w w' : World} (h : Below B w w') : Kb B rb w w' := ⟨h.os, h.tape, h.output, h.size, fun k hk _ => h.block k hk⟩
theorem Kb.below {B C rb : Nat} {w w' : World} (h : Kb B rb w w') (h1 : C ≤ B) (h2 : C ≤ rb) : Below C w w' := ⟨h.os, h.tape, h.output, h.size, fun k hk => h.block k (by omega) (by omega)⟩
theorem Kb.drewN {B rb : Nat} {a w : World} (h : Kb B rb a w) (n : Nat) : Kb B rb a (w.drewN n) := ⟨h.os, h.tape, h.output, h.size, h.block⟩
theorem Kb.drew {B rb : Nat} {a w : World} (h : Kb B rb a w) : Kb B rb a w.drew := ⟨h.os, h.tape, h.output, h.size, h.block⟩
theorem Kb.set {B rb : Nat} {a w : World} (h : Kb B rb a w) (o : Nat) (u : Value) : Kb B rb a (w.setCell ⟨rb, o, none⟩ u) :=
  h.trans ⟨rfl, rfl, rfl, by simp [World.setCell], fun k _ hr => Below.heap_setCell _ _ _ _ hr⟩
theorem Kb.setHigh {B rb : Nat} {a w : World} (h : Kb B rb a w) {p : Addr} (hp : B ≤ p.block) (u : Value) : Kb B rb a (w.setCell p u) :=
  h.trans ⟨rfl, rfl, rfl, by simp [World.setCell], fun k hk _ => Below.heap_setCell _ _ _ _ (by omega)⟩
theorem Kb.alloc {B rb : Nat} {a w : World} (h : Kb B rb a w) (hB : B ≤ w.heap.size) (o : Obj) : Kb B rb a (w.alloc o) :=
  h.trans ⟨rfl, rfl, rfl, by simp, fun k hk _ => Below.heap_alloc _ _ _ (by omega)⟩
theorem Kb.grown {B rb : Nat} {a w w' : World} {row : Option Nat} (h : Kb B rb a w) (hg : w.grownBy w' row) (hB : B ≤ w.heap.size) (hr : ∀ k, row = some k → B ≤ k) : Kb B rb a w' :=
  h.trans ⟨hg.os, hg.tape, hg.output, hg.size, fun k hk _ => hg.block k (by omega) (fun e => by have := hr k e.symm; omega)⟩
theorem Kb.cell {B rb : Nat} {w w' : World} (h : Kb B rb w w') {p : Addr} (hp : p.block < B) (hr : p.block ≠ rb) : w'.cell? p = w.cell? p := World.cell?_of_block (w := w) (h.block p.block hp hr)
theorem Kb.frozen {B rb : Nat} {w w' : World} (h : Kb B rb w w') {p : Addr} (hp : p.block < B) (hr : p.block ≠ rb) : w'.frozen? p = w.frozen? p := World.frozen?_of_block (w := w) (h.block p.block hp hr)
end Go.Proofs.YtafbojiojeemoaaGreatDoor

/-
  Words for memory: the reader of a text, in its block; all else is kept. What next, takes and needs are.
-/
namespace Go.Proofs.YtafbojiojeemoaaGreatDoor
open Go.RowKit Np Up Qp Tp

/-- A reader in a block. -/
def Rd (rb : Nat) (s : ByteArray) (i d : Nat) (w : World) : Prop := w.heap[rb]? = some (.cells #[.string s, .int .i64 i, .int .i64 d] 55 (0, 0))
section
variable {rb : Nat} {s : ByteArray} {i d : Nat} {w w' : World}
theorem Rd.lt (h : Rd rb s i d w) : rb < w.heap.size := (Array.getElem?_eq_some_iff.1 h).1
theorem Rd.c0 (h : Rd rb s i d w) : w.cell? ⟨rb, 0, none⟩ = some (.string s) := by rw [Lib.cell_of_heap h]; rfl
theorem Rd.c1 (h : Rd rb s i d w) : w.cell? ⟨rb, 1, none⟩ = some (.int .i64 i) := by rw [Lib.cell_of_heap h]; rfl
theorem Rd.c2 (h : Rd rb s i d w) : w.cell? ⟨rb, 2, none⟩ = some (.int .i64 d) := by rw [Lib.cell_of_heap h]; rfl
theorem Rd.fz (h : Rd rb s i d w) (o : Nat) : w.frozen? ⟨rb, o, none⟩ = false := Lib.frozen_of_heap h o
theorem Rd.to (h : Rd rb s i d w) (k : Nat) : Rd rb s k d (w.setCell ⟨rb, 1, none⟩ (.int .i64 k)) := by
  unfold Rd at *; simp [World.setCell, Array.getElem?_modify, h]
theorem Rd.up (h : Rd rb s i d w) : Rd rb s (i + 1) d (w.setCell ⟨rb, 1, none⟩ (.int .i64 ((i : Int) + 1))) := h.to (i + 1)
theorem Rd.into (h : Rd rb s i d w) (k : Nat) : Rd rb s i k (w.setCell ⟨rb, 2, none⟩ (.int .i64 k)) := by
  unfold Rd at *; simp [World.setCell, Array.getElem?_modify, h]
theorem Rd.drewN (h : Rd rb s i d w) (n : Nat) : Rd rb s i d (w.drewN n) := h
theorem Rd.drew (h : Rd rb s i d w) : Rd rb s i d w.drew := h
theorem Rd.alloc (h : Rd rb s i d w) (o : Obj) : Rd rb s i d (w.alloc o) := (Below.heap_alloc w o rb h.lt).trans h
theorem Rd.below (h : Rd rb s i d w) {B : Nat} (hb : Below B w w') (hB : rb < B) : Rd rb s i d w' := (hb.block rb hB).trans h
theorem Rd.other (h : Rd rb s i d w) {p : Addr} (hp : p.block ≠ rb) (u : Value) : Rd rb s i d (w.setCell p u) := (Below.heap_setCell w p u rb (Ne.symm hp)).trans h
theorem Rd.grown (h : Rd rb s i d w) {row : Option Nat} (hg : w.grownBy w' row) (hr : row ≠ some rb) : Rd rb s i d w' := (hg.block rb h.lt (Ne.symm hr)).trans h
end
/-- A row of nodes lies in no reader's block. -/
theorem Nds.kb {rb : Nat} {s : ByteArray} {i d : Nat} {w w' : World} {v : Value} {l : List Nd} (h : Nds w v l) (hr : Rd rb s i d w) (hb : Kb w.heap.size rb w w') : Nds w' v l := by
  obtain ⟨A, c, hv, hc, hm, hz, H⟩ := h
  refine ⟨A, c, hv, hc, hm, hz, fun h0 => ?_⟩
  obtain ⟨g, o, hA, hg, hx⟩ := H h0
  have hne : g ≠ rb := by
    rintro rfl
    have := hx 0 _ (List.getElem?_eq_getElem h0) 5 _ rfl
    rw [Lib.cell_of_heap hr] at this
    simp at this
  refine ⟨g, o, hA, Nat.lt_of_lt_of_le hg hb.size, fun k x hk j u hu => ?_⟩
  exact (hb.cell (p := ⟨g, o + k * 6 + j, none⟩) hg hne).trans (hx k x hk j u hu)

/-- How a text's fault is told. -/
def flt (e : Int) (p : Nat) : Ending := .panicked [{ v := .iface 53 (.agg #[.int .i64 e, .int .i64 p]), recovered := false }]
def atOf (rb : Nat) (w : World) : Nat := (intOf ((w.cell? ⟨rb, 1, none⟩).getD .nilIface)).toNat
theorem Rd.atOf {rb : Nat} {s : ByteArray} {i d : Nat} {w : World} (h : Rd rb s i d w) : atOf rb w = i := by
  unfold Go.Proofs.YtafbojiojeemoaaGreatDoor.atOf; rw [h.c1]; simp [intOf]

theorem bt_rd (s : ByteArray) (k : Nat) (h : k < s.size) : s[k].toNat = bt s.data.toList k := by
  simp [bt, List.getD_eq_getElem?_getD, List.getElem?_eq_getElem (show k < s.data.toList.length from h)]
  rfl

set_option maxHeartbeats 2000000 in
theorem next_any (rb : Nat) (s : ByteArray) (i d : Nat) (w : World) (hr : Rd rb s i d w) (hi : i ≤ s.size) (hs : s.size ≤ 400000) :
    Calls Tryz.prog 31 #[.pointer (some ⟨rb, 0, none⟩)] w fun e w' => e = .returned (.int .u8 (bt s.data.toList (sk s.data.toList i))) ∧ Rd rb s (sk s.data.toList i) d w' ∧ Kb w.heap.size rb w w' := by
  have HW : Hid (Rd rb s i d w) := Lib.hid hr
  generalize hS : sk s.data.toList i = T
  have HT := Lib.hid hS; clear hS
  clear hr
  go_enter Tryz.func31, Tryz.ntmps31
  go_wp2
  go_loopw [] (fun wr => ∃ k : Nat, k ≤ s.size ∧ Hid (sk s.data.toList k = T) ∧ Hid (Rd rb s k d wr) ∧ Hid (Kb w.heap.size rb w wr)) (fun wr => s.size - atOf rb wr)
  case atStart => exact ⟨i, hi, HT, HW, Lib.hid (Kb.refl _ _ _)⟩
  case round =>
    obtain ⟨k, hk, HK, HR, HB⟩ := hrel
    have c0 := HR.out.c0
    have c1 := HR.out.c1
    have f1 := HR.out.fz 1
    by_cases hlt : k < s.size
    · have hb := bt_rd s k hlt
      by_cases hbl : blk (bt s.data.toList k) = true
      · have HN : Hid (sk s.data.toList (k + 1) = T) := Lib.hid (by rw [← HK.out, sk_blk (S := s.data.toList) hlt hbl])
        have hb0 : ((bt s.data.toList k : Int) == 32) = true ∨ ((bt s.data.toList k : Int) == 9) = true ∨ ((bt s.data.toList k : Int) == 10) = true ∨ ((bt s.data.toList k : Int) == 13) = true := by
          simp [blk] at hbl; simp; omega
        go_wp2_with fail
        go_quiet (fail)
        go_wp2_with fail
        go_quiet (fail)
        go_wp2_with fail
        iterate 4
          · refine ⟨⟨k + 1, by omega, HN, ?_, ?_⟩, ?_⟩
            · exact Lib.hid ((HR.out.drewN _).up)
            · exact Lib.hid ((HB.out.drewN _).set 1 _)
            · rw [(Rd.up (HR.out.drewN _)).atOf, HR.out.atOf]
              omega
        · exfalso
          rcases hb0 with h | h | h | h <;> simp_all
      · have hb1 : ((bt s.data.toList k : Int) == 32) = false ∧ ((bt s.data.toList k : Int) == 9) = false ∧ ((bt s.data.toList k : Int) == 10) = false ∧ ((bt s.data.toList k : Int) == 13) = false := by
          simp [blk] at hbl; simp; omega
        obtain ⟨g0, g1, g2, g3⟩ := hb1
        have hTk : T = k := by rw [← HK.out]; exact sk_not (by simpa using hbl)
        subst hTk
        go_wp2_with fail
        go_quiet (fail)
        go_wp2_with fail
        go_quiet (fail)
        go_wp2_with fail
        go_ret
        exact ⟨rfl, HR.out.drewN _, HB.out.drewN _⟩
    · have hTk : T = k := by rw [← HK.out]; exact sk_over (by show s.size ≤ k; omega)
      subst hTk
      have hb : bt s.data.toList T = 0 := bt_of_ge (by show s.size ≤ T; omega)
      go_wp2_with fail
      go_quiet (fail)
      go_wp2_with fail
      go_ret
      exact ⟨by rw [hb]; rfl, HR.out.drewN _, HB.out.drewN _⟩

/-- Does a mark stand next; and where it goes on. -/
def isAt (S : List UInt8) (i c : Nat) : Bool := decide (bt S (sk S i) = c)
def past (S : List UInt8) (i c : Nat) : Nat := if isAt S i c = true then sk S i + 1 else sk S i
theorem isAt_iff {S : List UInt8} {i c : Nat} : isAt S i c = true ↔ bt S (sk S i) = c := by simp [isAt]
theorem past_le {S : List UInt8} {i c : Nat} (h : i ≤ S.length) (hc : c ≠ 0) : past S i c ≤ S.length := by
  have := sk_le h
  unfold past
  split
  · rename_i h1
    have := bt_lt (S := S) (k := sk S i) (by rw [isAt_iff.1 h1]; exact hc)
    omega
  · omega

set_option maxHeartbeats 1000000 in
theorem takes_any (rb : Nat) (s : ByteArray) (i d c : Nat) (w : World) (hr : Rd rb s i d w) (hi : i ≤ s.size) (hs : s.size ≤ 400000) :
    Calls Tryz.prog 126 #[.pointer (some ⟨rb, 0, none⟩), .int .u8 c] w fun e w' => e = .returned (.bool (isAt s.data.toList i c)) ∧ Rd rb s (past s.data.toList i c) d w' ∧ Kb w.heap.size rb w w' := by
  have HX := Lib.hid (next_any rb s i d w hr hi hs)
  have hT : sk s.data.toList i ≤ s.size := sk_le (S := s.data.toList) hi
  have HP : Hid (past s.data.toList i c = if isAt s.data.toList i c = true then sk s.data.toList i + 1 else sk s.data.toList i) := Lib.hid rfl
  have HI : Hid (isAt s.data.toList i c = decide (bt s.data.toList (sk s.data.toList i) = c)) := Lib.hid rfl
  generalize past s.data.toList i c = Q at *
  generalize isAt s.data.toList i c = I at *
  generalize sk s.data.toList i = T at *
  generalize bt s.data.toList T = b at *
  clear hr
  go_enter Tryz.func126, Tryz.ntmps126
  go_wp2_with (go_at_call 31; refine HX.out.mono ?_)
  rintro e w1 ⟨rfl, hr1, hk1⟩
  have HR := Lib.hid hr1
  have HK := Lib.hid hk1
  have c1 := hr1.c1
  have f1 := hr1.fz 1
  clear hr1 hk1
  by_cases h : b = c
  · have hd : ((b : Int) == (c : Int)) = true := by simp [h]
    have HQ : Hid (I = true ∧ Q = T + 1) := Lib.hid (by have h1 : I = true := by rw [HI.out]; simpa using h
                                                        exact ⟨h1, by rw [HP.out, if_pos h1]⟩)
    clear h
    go_wp2
    go_ret
    exact ⟨ret_bool HQ.out.1.symm, by rw [HQ.out.2]; exact HR.out.up, HK.out.set 1 _⟩
  · have hd : ((b : Int) == (c : Int)) = false := by simp; omega
    have HQ : Hid (I = false ∧ Q = T) := Lib.hid (by have h1 : I = false := by rw [HI.out]; simpa using h
                                                     exact ⟨h1, by rw [HP.out, h1]; rfl⟩)
    clear h
    go_wp2
    go_ret
    exact ⟨ret_bool HQ.out.1.symm, by rw [HQ.out.2]; exact HR.out, HK.out⟩

set_option maxHeartbeats 1000000 in
theorem needs_any (rb : Nat) (s : ByteArray) (i d c : Nat) (w : World) (hr : Rd rb s i d w) (hi : i ≤ s.size) (hs : s.size ≤ 400000) :
    Calls Tryz.prog 94 #[.pointer (some ⟨rb, 0, none⟩), .int .u8 c] w fun e w' => Kb w.heap.size rb w w' ∧
      (isAt s.data.toList i c = true ∧ e = .returned (.tuple #[]) ∧ Rd rb s (sk s.data.toList i + 1) d w' ∨ isAt s.data.toList i c = false ∧ e = flt 1 (sk s.data.toList i)) := by
  have HX := Lib.hid (takes_any rb s i d c w hr hi hs)
  have HP : Hid (past s.data.toList i c = if isAt s.data.toList i c = true then sk s.data.toList i + 1 else sk s.data.toList i) := Lib.hid rfl
  generalize past s.data.toList i c = Q at *
  generalize isAt s.data.toList i c = I at *
  generalize sk s.data.toList i = T at *
  clear hr
  go_enter Tryz.func94, Tryz.ntmps94
  go_wp2_with (go_at_call 126; refine HX.out.mono ?_)
  rintro e w1 ⟨rfl, hr1, hk1⟩
  cases I
  · have h1 : Q = T := by rw [HP.out]; rfl
    subst h1
    have HR := Lib.hid hr1
    have HK := Lib.hid hk1
    have c1 := hr1.c1
    clear hr1 hk1
    go_wp2
    exact ⟨rfl, HK.out, rfl⟩
  · have h1 : Q = T + 1 := by rw [HP.out]; rfl
    subst h1
    have HR := Lib.hid hr1
    have HK := Lib.hid hk1
    clear hr1 hk1
    go_wp2
    go_end0
    exact ⟨HK.out, rfl, HR.out⟩
end Go.Proofs.YtafbojiojeemoaaGreatDoor

/-
  What quote's Utf is.
-/
namespace Go.Proofs.YtafbojiojeemoaaGreatDoor
open Go.RowKit Np Up Qp

theorem ext_end (s : ByteArray) (k : Nat) : (s.extract k s.size).data.toList = s.data.toList.drop k := by
  have h := Lib.extract_toList s k s.size
  rw [ByteArray.toList_eq] at h
  rw [h, List.take_of_length_le (by simp)]
theorem drop_ne (s : ByteArray) (k : Nat) (h : k < s.size) : s.data.toList.drop k ≠ [] := by
  intro h'; have := congrArg List.length h'; rw [List.length_drop, size_toList, List.length_nil] at this; omega
/-- The rune at a place, and its width. -/
theorem dec_at (s : ByteArray) (k : Nat) : Utf8.decode s k = Lib.decodeL (s.data.toList.drop k) := (Lib.decodeL_drop s k).symm
theorem dec_width (l : List UInt8) (hl : l ≠ []) : 1 ≤ (Lib.decodeL l).2 ∧ (Lib.decodeL l).2 ≤ l.length := ⟨Lib.decodeL_width l, Lib.decodeL_le l hl⟩
theorem dec_good {l : List UInt8} (h : runeN l ≠ 0) : (Lib.decodeL l).2 = runeN l := by
  rcases decode_rune l with ⟨h0, _⟩ | ⟨_, h1, _⟩
  · exact absurd h0 h
  · exact h1

end Go.Proofs.YtafbojiojeemoaaGreatDoor

/-
  What Parse's deferred closure does.
-/
namespace Go.Proofs.YtafbojiojeemoaaGreatDoor
open Go.RowKit Np Up Qp Tp

theorem catch_idle (a b c : Nat) (w : World) :
    CallsD Tryz.prog 29 #[.pointer (some ⟨a, 0, none⟩), .pointer (some ⟨b, 0, none⟩), .pointer (some ⟨c, 0, none⟩)] .returning w fun e u' w' => e = .returned (.tuple #[]) ∧ u' = .returning ∧ w' = w := by
  refine callsD_of_wpS Tryz.func29 rfl fun c₀ cs hu => ?_
  apply wpS_seq
  apply wpS_region
  simp [wpOpsS, go_sem, recoverD, hu, Tryz.ntmps29, Exit.thenS]
  apply wpS_seq
  apply wpS_region
  simp [wpOpsS, go_sem, Exit.thenS]
  refine wpS_cond (t := false) (by simp [Act.eval, Array.replicate]) ?_
  simp only [Bool.false_eq_true, if_false]
  refine wpS_of_wp (wp_skip ?_)
  cases c₀
  simp_all [bodyPostS, results, Tryz.results29]
theorem catch_world {a b c : Nat} {u0 u1 u2 x y z : Value} {T0 T1 T2 : Nat} {w : World} (hab : a ≠ b) (hac : a ≠ c) (hbc : b ≠ c) (h0 : w.heap[a]? = some (.cells #[u0] T0 (0, 0))) (h1 : w.heap[b]? = some (.cells #[u1] T1 (0, 0))) (h2 : w.heap[c]? = some (.cells #[u2] T2 (0, 0))) (o : Obj) :
    ((((w.setCell ⟨a, 0, none⟩ x).setCell ⟨b, 0, none⟩ y).setCell ⟨c, 0, none⟩ z).alloc o).drew.heap[a]? = some (.cells #[x] T0 (0, 0)) ∧ ((((w.setCell ⟨a, 0, none⟩ x).setCell ⟨b, 0, none⟩ y).setCell ⟨c, 0, none⟩ z).alloc o).drew.heap[b]? = some (.cells #[y] T1 (0, 0)) ∧ ((((w.setCell ⟨a, 0, none⟩ x).setCell ⟨b, 0, none⟩ y).setCell ⟨c, 0, none⟩ z).alloc o).drew.heap[c]? = some (.cells #[z] T2 (0, 0)) ∧
    w.heap.size ≤ ((((w.setCell ⟨a, 0, none⟩ x).setCell ⟨b, 0, none⟩ y).setCell ⟨c, 0, none⟩ z).alloc o).drew.heap.size ∧ ((((w.setCell ⟨a, 0, none⟩ x).setCell ⟨b, 0, none⟩ y).setCell ⟨c, 0, none⟩ z).alloc o).drew.os = w.os ∧ ((((w.setCell ⟨a, 0, none⟩ x).setCell ⟨b, 0, none⟩ y).setCell ⟨c, 0, none⟩ z).alloc o).drew.tape = w.tape ∧ ((((w.setCell ⟨a, 0, none⟩ x).setCell ⟨b, 0, none⟩ y).setCell ⟨c, 0, none⟩ z).alloc o).drew.output = w.output ∧
    ∀ k, k < w.heap.size → ¬ k = a → ¬ k = b → ¬ k = c → ((((w.setCell ⟨a, 0, none⟩ x).setCell ⟨b, 0, none⟩ y).setCell ⟨c, 0, none⟩ z).alloc o).drew.heap[k]? = w.heap[k]? := by
  have e : ∀ k, k < w.heap.size → ((((w.setCell ⟨a, 0, none⟩ x).setCell ⟨b, 0, none⟩ y).setCell ⟨c, 0, none⟩ z).alloc o).drew.heap[k]? = (((w.setCell ⟨a, 0, none⟩ x).setCell ⟨b, 0, none⟩ y).setCell ⟨c, 0, none⟩ z).heap[k]? := fun k hk => Below.heap_alloc _ _ _ (by simpa using hk)
  refine ⟨?_, ?_, ?_, by show _ ≤ ((((w.setCell ⟨a, 0, none⟩ x).setCell ⟨b, 0, none⟩ y).setCell ⟨c, 0, none⟩ z).alloc o).heap.size; simp, rfl, rfl, rfl, fun k hk ha hb hc => ?_⟩
  · rw [e a (lt_of_block h0)]; simp [World.setCell, Array.getElem?_modify, h0, Ne.symm hab, Ne.symm hac]
  · rw [e b (lt_of_block h1)]; simp [World.setCell, Array.getElem?_modify, h1, hab, Ne.symm hbc]
  · rw [e c (lt_of_block h2)]; simp [World.setCell, Array.getElem?_modify, h2, hac, hbc]
  · rw [e k hk]
    exact ((Below.heap_setCell _ _ _ _ hc).trans (Below.heap_setCell _ _ _ _ hb)).trans (Below.heap_setCell _ _ _ _ ha)

set_option maxRecDepth 100000 in
set_option maxHeartbeats 2000000 in
theorem catch_fault (a b c : Nat) (er q : Int) (u0 u1 u2 : Value) (older : List PanicEntry) (w : World) (hab : a ≠ b) (hac : a ≠ c) (hbc : b ≠ c) (h0 : w.heap[a]? = some (.cells #[u0] 24 (0, 0))) (h1 : w.heap[b]? = some (.cells #[u1] 3 (0, 0))) (h2 : w.heap[c]? = some (.cells #[u2] 25 (0, 0))) :
    CallsD Tryz.prog 29 #[.pointer (some ⟨a, 0, none⟩), .pointer (some ⟨b, 0, none⟩), .pointer (some ⟨c, 0, none⟩)] (.panicking ({ v := .iface 53 (.agg #[.int .i64 er, .int .i64 q]), recovered := false } :: older)) w fun e u' w' =>
      e = .returned (.tuple #[]) ∧ u' = .panicking ({ v := .iface 53 (.agg #[.int .i64 er, .int .i64 q]), recovered := true } :: older) ∧
        w'.heap[a]? = some (.cells #[.slice none 0 0] 24 (0, 0)) ∧ w'.heap[b]? = some (.cells #[.int .i64 q] 3 (0, 0)) ∧ w'.heap[c]? = some (.cells #[.int .i64 er] 25 (0, 0)) ∧ w.heap.size ≤ w'.heap.size ∧ w'.os = w.os ∧ w'.tape = w.tape ∧ w'.output = w.output ∧ ∀ k, k < w.heap.size → k ≠ a → k ≠ b → k ≠ c → w'.heap[k]? = w.heap[k]? := by
  refine callsD_of_wpS Tryz.func29 rfl fun c₀ cs hu => ?_
  apply wpS_seq
  apply wpS_region
  simp [wpOpsS, go_sem, recoverD, hu, Tryz.ntmps29, Exit.thenS]
  apply wpS_seq
  apply wpS_region
  simp [wpOpsS, go_sem, Exit.thenS]
  refine wpS_cond (t := true) (by simp [Act.eval, Array.replicate]) ?_
  simp only [if_true]
  refine wpS_of_wp ?_
  have c0 := cell_of_one h0
  have c1 := cell_of_one h1
  have c2 := cell_of_one h2
  have f0 := free_of_one h0
  have f1 := free_of_one h1
  have f2 := free_of_one h2
  have l0 := lt_of_block h0
  have l1 := lt_of_block h1
  have l2 := lt_of_block h2
  have hta : ∀ w, (Instr.typeAssert (.iface 53 (.agg #[.int .i64 er, .int .i64 q])) 20 53 false).run Tryz.prog w = .ok (.agg #[.int .i64 er, .int .i64 q]) w := fun _ => by kernel_rfl
  have m0 : ¬ a = w.heap.size := by omega
  have m1 : ¬ b = w.heap.size := by omega
  have m2 : ¬ c = w.heap.size := by omega
  go_wp2_with fail
  go_region
  all_goals simp (zetaDelta := true) only [bodyPostS]
  all_goals exact ⟨trivial, _, rfl, .tuple #[], results_none rfl _ _ _, rfl, rfl, catch_world hab hac hbc h0 h1 h2 _⟩
end Go.Proofs.YtafbojiojeemoaaGreatDoor
