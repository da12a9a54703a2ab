/-
  Joined: Ow2.
-/
import Derived.Test.YtbhgmfddjnkglaaGreatDoorAtomTellsJ9

/-
  What (*pair).leave, lists and objects answer, over any two lists of values whose comparison is what it should be.
-/
namespace Go.Proofs.YtbhgmfddjnkglaaGreatDoor
open Go.RowKit Np Rw Vp Ov

set_option maxRecDepth 100000 in
set_option maxHeartbeats 2000000 in
theorem leave_none (rb : Nat) (la lb : List Nd) (m n : Nat) (w : World) (h : Prs rb la lb 0 w) :
    Calls Tryz.prog 74 #[.pointer (some ⟨rb, 0, none⟩), .int .i64 m, .int .i64 n] w fun e w' => e = .returned (.tuple #[]) ∧ Prs rb la lb 0 w' ∧ Kb w.heap.size rb w w' := by
  obtain ⟨va, vb, hp, ha, hb⟩ := h
  have HP := Lib.hid hp
  have HA := Lib.hid ha
  have HB := Lib.hid hb
  have c2 := hp.c2
  have hK := Kb.refl w.heap.size rb w
  clear hp ha hb
  go_enter Tryz.func74, Tryz.ntmps74
  go_wp2_with fail
  go_end0
  exact ⟨rfl, ⟨va, vb, HP.out, HA.out, HB.out⟩, hK⟩

set_option maxRecDepth 100000 in
set_option maxHeartbeats 4000000 in
theorem leave_past (rb : Nat) (la lb : List Nd) (m n k : Nat) (ra rc : List Nd) (w : World) (h : Prs rb la lb k w) (hk : 0 < k) (h1 : skip many la m = some ra) (h2 : skip many lb n = some rc) (hla : la.length ≤ 4000000000000) (hlb : lb.length ≤ 4000000000000) :
    Calls Tryz.prog 74 #[.pointer (some ⟨rb, 0, none⟩), .int .i64 m, .int .i64 n] w fun e w' => e = .returned (.tuple #[]) ∧ Prs rb ra rc k w' ∧ Kb w.heap.size rb w w' := by
  obtain ⟨va, vb, hp, ha, hb⟩ := h
  have HP := Lib.hid hp
  have HNA := Lib.hid ha
  have HNB := Lib.hid hb
  have HA := Lib.hid (fun d => past_any va la m ra (w.drewN d) (ha.quiet ⟨d, rfl⟩) h1 hla)
  have HB := Lib.hid (fun d => past_any vb lb n rc (w.drewN d) (hb.quiet ⟨d, rfl⟩) h2 hlb)
  obtain ⟨A, c, rfl, -⟩ := ha
  obtain ⟨B, d, rfl, -⟩ := hb
  have c0 := hp.c0
  have c1 := hp.c1
  have c2 := hp.c2
  have f0 := hp.fz 0
  have f1 := hp.fz 1
  have hk' : ((k : Int) > 0) := by omega
  clear hp h1 h2 hla hlb
  generalize la.length = nla at *
  generalize lb.length = nlb at *
  go_enter Tryz.func74, Tryz.ntmps74
  go_upto_region 1 with fail
  go_region_with (first
      | (go_at_call_of 108 (m : Int); refine (HA.out _).mono ?_; rintro e w1 ⟨A1, n1, c1, rfl, hA1, ⟨d1, rfl⟩⟩)
      | (go_at_call_of 108 (n : Int); refine (HB.out _).mono ?_; rintro e w1 ⟨B1, n2, c2, rfl, hB1, ⟨d2, rfl⟩⟩))
  all_goals go_wp2_with fail
  all_goals go_end0
  all_goals
    have hK2 := (((Kb.refl w.heap.size rb w).drewN (1 + d1 + d2)).set 0 (Value.slice A1 n1 c1)).set 1 (Value.slice B1 n2 c2)
    exact ⟨rfl, ⟨_, _, (((HP.out.drewN (1 + d1 + d2)).setA _).setB _), (hA1 w HNA.out).pr HP.out hK2, (hB1 w HNB.out).pr HP.out hK2⟩, hK2⟩
end Go.Proofs.YtbhgmfddjnkglaaGreatDoor
