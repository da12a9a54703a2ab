/-
  Joined: FwE.
-/
import Derived.Test.YtdgcdemihalefaaGreatDoorTermTellsJ1
import Derived.Test.YtdgcdemihalefaaGreatDoorTermTellsJ2
import Derived.Test.YtdgcdemihalefaaGreatDoorTermTellsJ4
namespace Go.Proofs.YtdgcdemihalefaaGreatDoor
open Go.RowKit Go.Maps Np Rw Vp Pw Fw
set_option maxHeartbeats 400000 in
theorem isCond_any (k : Int) (w : World) :
    Calls Tryz.prog 54 #[.int .i64 k] w fun e w' => e = .returned (.bool (isC k)) ∧ w' = w := by
  by_cases h : k = 16 ∨ k = 17 ∨ k = 18 ∨ k = 19
  · rcases h with rfl | rfl | rfl | rfl
    all_goals
      go_enter Tryz.func54, Tryz.ntmps54
      go_wp2
      go_ret
      exact ⟨ret_bool rfl, rfl⟩
  · have HC : Hid (isC k = false) := Lib.hid (by unfold isC; simp; omega)
    have e0 : (k == 16) = false := by simp; omega
    have e1 : (k == 17) = false := by simp; omega
    have e2 : (k == 18) = false := by simp; omega
    have e3 : (k == 19) = false := by simp; omega
    clear h
    go_enter Tryz.func54, Tryz.ntmps54
    go_wp2
    go_ret
    exact ⟨ret_bool HC.out.symm, rfl⟩
set_option maxHeartbeats 400000 in
theorem ofCond_any (k : Int) (w : World) :
    Calls Tryz.prog 55 #[.int .i64 k] w fun e w' => e = .returned (.bool (ofC k)) ∧ w' = w := by
  by_cases h : k = 7 ∨ k = 17 ∨ k = 18 ∨ k = 19
  · rcases h with rfl | rfl | rfl | rfl
    all_goals
      go_enter Tryz.func55, Tryz.ntmps55
      go_wp2
      go_ret
      exact ⟨ret_bool rfl, rfl⟩
  · have HC : Hid (ofC k = false) := Lib.hid (by unfold ofC; simpa using h)
    have e0 : (k == 7) = false := by simp; omega
    have e1 : (k == 17) = false := by simp; omega
    have e2 : (k == 18) = false := by simp; omega
    have e3 : (k == 19) = false := by simp; omega
    clear h
    go_enter Tryz.func55, Tryz.ntmps55
    go_wp2
    go_ret
    exact ⟨ret_bool HC.out.symm, rfl⟩
structure Hp where
  h : Hf
  b : Option Nat
abbrev hpa (x : Hp) : Value := .agg #[.int .i64 x.h.op, .int .i64 x.h.left, .map x.b]
def hpc (x : Hp) : List Value := [.int .i64 x.h.op, .int .i64 x.h.left, .map x.b]
theorem hpc_len (x : Hp) : (hpc x).length = 3 := rfl
def NMap (w : World) (m : Nat) (ns : List (List UInt8)) : Prop := ∃ n f, SMap w m n f ∧ n ≤ ns.length ∧ ∀ r, (f r).isSome = decide (r ∈ ns)
theorem NMap.alloc {w : World} {m : Nat} {ns : List (List UInt8)} (h : NMap w m ns) (o : Obj) : NMap (w.alloc o) m ns := by
  obtain ⟨n, f, h1, h2, h3⟩ := h
  exact ⟨n, f, h1.alloc o, h2, h3⟩
theorem NMap.same {w w' : World} {m : Nat} {ns : List (List UInt8)} (h : NMap w m ns) (hk : w'.heap[m]? = w.heap[m]?) : NMap w' m ns := by
  obtain ⟨n, f, h1, h2, h3⟩ := h
  exact ⟨n, f, h1.same hk, h2, h3⟩
theorem NMap.lt {w : World} {m : Nat} {ns : List (List UInt8)} (h : NMap w m ns) : m < w.heap.size := by
  obtain ⟨n, f, h1, h2, h3⟩ := h
  obtain ⟨es, clock, h4⟩ := h1.blk
  exact (Array.getElem?_eq_some_iff.1 h4).1
theorem NMap.below {w w' : World} {m : Nat} {ns : List (List UInt8)} (h : NMap w m ns) (hb : Below w.heap.size w w') : NMap w' m ns := h.same (hb.block m h.lt)
def HMap (w : World) (x : Hp) : Prop := if x.h.op = 8 then ∃ m, x.b = some m ∧ NMap w m x.h.ahead else x.b = none
theorem HMap.below {w w' : World} {x : Hp} (h : HMap w x) (hb : Below w.heap.size w w') : HMap w' x := by
  unfold HMap at *
  split
  · rename_i h8
    rw [if_pos h8] at h
    obtain ⟨m, h1, h2⟩ := h
    exact ⟨m, h1, h2.below hb⟩
  · rename_i h8
    rwa [if_neg h8] at h
set_option maxHeartbeats 1000000 in
theorem letsName_any (x : Hp) (nm : List UInt8) (w : World) (hs : nm.length ≤ 1000000) (hT : Tabs w) (hM : HMap w x) :
    Calls Tryz.prog 56 #[hpa x, .string ⟨nm.toArray⟩] w fun e w' => e = .returned (.bool (letsN x.h nm)) ∧ Below w.heap.size w w' := by
  have hB : Below w.heap.size w w := Below.refl _ _
  have hs' : (ByteArray.mk nm.toArray).size ≤ maxLen := by rw [mk_size]; unfold maxLen; omega
  obtain ⟨⟨op, left, ahead⟩, b⟩ := x
  unfold HMap at hM
  simp only at hM ⊢
  have hT1 : ∀ o, Tabs (w.alloc o) := fun o => hT.below (hB.alloc (Nat.le_refl _) o)
  by_cases h8 : op = 8
  · subst h8
    rw [if_pos rfl] at hM
    obtain ⟨m, rfl, n, f, hm, hn, hf⟩ := hM
    obtain ⟨D, hD, hVw⟩ := hm
    have hkey : keyOf Tryz.prog 9 (.string ⟨nm.toArray⟩) = some (.string nm) := by
      simpa using WideMaps.keyOf_string_mk (P := Tryz.prog) Tryz.underlying9 (s := ⟨nm.toArray⟩) hs'
    have HH : Hid (Maps.has D (.string nm) = decide (nm ∈ ahead)) := Lib.hid (by rw [(hVw.2 nm).1]; exact hf nm)
    have HL : Hid (letsN ⟨8, left, ahead⟩ nm = (!decide (nm ∈ ahead) && vld nm)) := Lib.hid (by unfold letsN; simp)
    clear hVw hf
    have hD2 := fun o => hD.alloc o
    cases hin : decide (nm ∈ ahead)
    · rw [hin] at HH HL
      have HT1 := Lib.hid hT1
      clear hin hT1 hT
      go_enter Tryz.func56, Tryz.ntmps56
      go_wp2_with (first
        | (at_lookup; refine wpList_lookup_own_ok_int _ rfl _ _ 53 rfl 9 3 .i64 lawS Tryz.underlying53 Tryz.underlying3 (zeroS _) m n D rfl (hD2 _) _ _ rfl hkey ?_; intro cc hat hwc; rw [HH.out]; clear hat hwc)
        | (go_at_call 88; refine (valid_any _ _ hs' (HT1.out _)).mono ?_; rintro e w1 ⟨rfl, hb1⟩))
      go_ret
      exact ⟨ret_bool (by rw [HL.out]; simp), (hB.alloc (Nat.le_refl _) _).trans (hb1.mono (by simp))⟩
    · rw [hin] at HH HL
      clear hin hT1 hT
      go_enter Tryz.func56, Tryz.ntmps56
      go_wp2_with (first
        | (at_lookup; refine wpList_lookup_own_ok_int _ rfl _ _ 53 rfl 9 3 .i64 lawS Tryz.underlying53 Tryz.underlying3 (zeroS _) m n D rfl (hD2 _) _ _ rfl hkey ?_; intro cc hat hwc; rw [HH.out]; clear hat hwc))
      go_ret
      exact ⟨ret_bool (by rw [HL.out]; rfl), (hB.alloc (Nat.le_refl _) _)⟩
  · have HL : Hid (letsN ⟨op, left, ahead⟩ nm = decide (nm = [])) := Lib.hid (by unfold letsN; rw [if_neg h8])
    have e8 : (op == 8) = false := by simp [h8]
    have e8' : (op != 8) = true := by simp [h8]
    clear h8 hM
    go_enter Tryz.func56, Tryz.ntmps56
    go_wp2_with fail
    go_ret
    refine ⟨ret_bool ?_, hB.alloc (Nat.le_refl _) _⟩
    rw [HL.out]
    cases nm <;> rfl
set_option maxRecDepth 100000 in
set_option maxHeartbeats 2000000 in
theorem flets_any (x : Hp) (t : Tm) (w : World) (hs : t.name.length ≤ 1000000) (hT : Tabs w) (hM : HMap w x) :
    Calls Tryz.prog 27 #[hpa x, tma t] w fun e w' => e = .returned (.bool (letsF x.h t)) ∧ Below w.heap.size w w' := by
  have hB : Below w.heap.size w w := Below.refl _ _
  have HBB : Hid (∀ o o2, Below w.heap.size w ((w.alloc o).alloc o2)) := Lib.hid (fun o o2 => (hB.alloc (Nat.le_refl _) o).alloc (by simp) o2)
  have HN : Hid (∀ o o2, Calls Tryz.prog 56 #[hpa x, .string ⟨t.name.toArray⟩] ((w.alloc o).alloc o2).drew fun e w' => e = .returned (.bool (letsN x.h t.name)) ∧ Below w.heap.size w w') :=
    Lib.hid (fun o o2 => (letsName_any x t.name _ hs (hT.below (HBB.out o o2).drew) (hM.below (HBB.out o o2).drew)).mono (fun e w' h => ⟨h.1, (HBB.out o o2).drew.trans (h.2.mono (HBB.out o o2).drew.size)⟩))
  have HL : Hid (letsF x.h t = (!(decide (x.h.op = 4) && decide (x.h.left = 2) && decide (t.op = 4)) && (isC t.op == ofC x.h.op) && letsN x.h t.name)) := Lib.hid rfl
  obtain ⟨⟨op, left, ahead⟩, b⟩ := x
  simp only at HL HN ⊢
  generalize letsN ⟨op, left, ahead⟩ t.name = ln at *
  generalize letsF ⟨op, left, ahead⟩ t = ans at *
  have HI := Lib.hid (fun W => isCond_any t.op W)
  have HO := Lib.hid (fun W => ofCond_any op W)
  generalize isC t.op = ic at *
  generalize ofC op = oc at *
  clear hT hM hs
  by_cases hp : op = 4 ∧ left = 2 ∧ t.op = 4
  · obtain ⟨rfl, rfl, h4⟩ := hp
    have HA : Hid (ans = false) := Lib.hid (by rw [HL.out, h4]; simp)
    have e4 : (t.op == 4) = true := by simp [h4]
    clear h4
    go_enter Tryz.func27, Tryz.ntmps27
    go_wp2_with fail
    go_ret
    exact ⟨ret_bool HA.out.symm, HBB.out _ _⟩
  · have HP : Hid ((decide (op = 4) && decide (left = 2) && decide (t.op = 4)) = false) := Lib.hid (by simp; omega)
    have hp3 : op ≠ 4 ∨ op = 4 ∧ left ≠ 2 ∨ op = 4 ∧ left = 2 ∧ t.op ≠ 4 := by omega
    clear hp
    cases hic : (ic == oc)
    · have HA : Hid (ans = false) := Lib.hid (by rw [HL.out, HP.out, hic]; simp)
      rcases hp3 with h | ⟨rfl, h⟩ | ⟨rfl, rfl, h⟩
      · have e4 : (op == 4) = false := by simp [h]
        clear h
        go_enter Tryz.func27, Tryz.ntmps27
        go_wp2_with fail
        go_quiet (first | (go_at_call 54; exact Calls.quiet_of_same (HI.out _)) | (go_at_call 55; exact Calls.quiet_of_same (HO.out _)))
        go_wp2_with fail
        go_ret
        exact ⟨ret_bool HA.out.symm, drewN_below (HBB.out _ _) _⟩
      · have e4 : (left == 2) = false := by simp [h]
        clear h
        go_enter Tryz.func27, Tryz.ntmps27
        go_wp2_with fail
        go_quiet (first | (go_at_call 54; exact Calls.quiet_of_same (HI.out _)) | (go_at_call 55; exact Calls.quiet_of_same (HO.out _)))
        go_wp2_with fail
        go_ret
        exact ⟨ret_bool HA.out.symm, drewN_below (HBB.out _ _) _⟩
      · have e4 : (t.op == 4) = false := by simp [h]
        clear h
        go_enter Tryz.func27, Tryz.ntmps27
        go_wp2_with fail
        go_quiet (first | (go_at_call 54; exact Calls.quiet_of_same (HI.out _)) | (go_at_call 55; exact Calls.quiet_of_same (HO.out _)))
        go_wp2_with fail
        go_ret
        exact ⟨ret_bool HA.out.symm, drewN_below (HBB.out _ _) _⟩
    · have HA : Hid (ans = ln) := Lib.hid (by rw [HL.out, HP.out, hic]; simp)
      rcases hp3 with h | ⟨rfl, h⟩ | ⟨rfl, rfl, h⟩
      · have e4 : (op == 4) = false := by simp [h]
        clear h
        go_enter Tryz.func27, Tryz.ntmps27
        go_wp2_with fail
        go_region_with (first
          | (go_at_call 54; refine (HI.out _).mono ?_; rintro e w' ⟨rfl, rfl⟩)
          | (go_at_call 55; refine (HO.out _).mono ?_; rintro e w' ⟨rfl, rfl⟩)
          | (go_at_call 56; refine (HN.out _ _).mono ?_; rintro e w' ⟨rfl, hb⟩))
        all_goals go_wp2_with fail
        all_goals go_ret
        all_goals exact ⟨ret_bool HA.out.symm, hb⟩
      · have e4 : (left == 2) = false := by simp [h]
        clear h
        go_enter Tryz.func27, Tryz.ntmps27
        go_wp2_with fail
        go_region_with (first
          | (go_at_call 54; refine (HI.out _).mono ?_; rintro e w' ⟨rfl, rfl⟩)
          | (go_at_call 55; refine (HO.out _).mono ?_; rintro e w' ⟨rfl, rfl⟩)
          | (go_at_call 56; refine (HN.out _ _).mono ?_; rintro e w' ⟨rfl, hb⟩))
        all_goals go_wp2_with fail
        all_goals go_ret
        all_goals exact ⟨ret_bool HA.out.symm, hb⟩
      · have e4 : (t.op == 4) = false := by simp [h]
        clear h
        go_enter Tryz.func27, Tryz.ntmps27
        go_wp2_with fail
        go_region_with (first
          | (go_at_call 54; refine (HI.out _).mono ?_; rintro e w' ⟨rfl, rfl⟩)
          | (go_at_call 55; refine (HO.out _).mono ?_; rintro e w' ⟨rfl, rfl⟩)
          | (go_at_call 56; refine (HN.out _ _).mono ?_; rintro e w' ⟨rfl, hb⟩))
        all_goals go_wp2_with fail
        all_goals go_ret
        all_goals exact ⟨ret_bool HA.out.symm, hb⟩
end Go.Proofs.YtdgcdemihalefaaGreatDoor
