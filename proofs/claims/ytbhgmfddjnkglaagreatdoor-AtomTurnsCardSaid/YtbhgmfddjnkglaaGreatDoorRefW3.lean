/-
  What the document's own answers are: Next.
-/
import Derived.Test.YtbhgmfddjnkglaaGreatDoorMem
import Derived.Outline
import Derived.Test.YtbhgmfddjnkglaaGreatDoorValP2
namespace Go.Proofs.YtbhgmfddjnkglaaGreatDoor
open Go.RowKit Np Rw Vp

theorem drop_at {α : Type} {l : List α} {k : Nat} {x : α} (h : l[k]? = some x) : l.drop k = x :: l.drop (k + 1) := by
  obtain ⟨hk, rfl⟩ := List.getElem?_eq_some_iff.1 h
  exact List.drop_eq_getElem_cons hk

set_option maxHeartbeats 1000000 in
theorem refNext_any (v : Value) (l : List Nd) (i : Nat) (w : World) (hv : Nds w v l) (hl : l.length ≤ 65536) (hi : i ≤ l.length) :
    Calls Tryz.prog 55 #[v, .int .i64 i] w fun e w' => e = .returned (.int .i64 (nxtL l.length (l.drop i) 1 i)) ∧ w = w' := by
  generalize hans : nxtL l.length (l.drop i) 1 i = ans
  have HANS := Lib.hid hans; clear hans
  rcases Nat.lt_or_ge i l.length with hlt | hge
  · obtain ⟨g, o, c, rfl, hc, hcm, hg, hx⟩ := hv.opened (by omega)
    have HX := Lib.hid hx; clear hx
    generalize hn : l.length = n at *
    have HN := Lib.hid hn; clear hn
    go_enter Tryz.func55, Tryz.ntmps55
    go_wp2
    go_loop [1, 5] (fun i op => ∃ k q : Nat, k ≤ n ∧ q ≤ 1 + k * 65536 ∧ i = .int .i64 k ∧ op = .int .i64 q ∧ nxtL n (l.drop k) q k = ans) (fun i _ => n - (intOf i).toNat)
    case atStart => exact ⟨i, 1, hi, by omega, rfl, rfl, HANS.out⟩
    case round =>
      obtain ⟨k, q, hk, hq, rfl, rfl, hans⟩ := hrel
      have HA := Lib.hid hans; clear hans
      by_cases hq0 : q = 0
      · subst hq0
        have HE : Hid ((k : Int) = ans) := Lib.hid (by rw [← HA.out, nxtL_zero])
        go_wp2
        go_ret
        exact ⟨ret_i64 HE.out, rfl⟩
      · obtain ⟨p, rfl⟩ : ∃ p, q = p + 1 := ⟨q - 1, by omega⟩
        have hqp : (0 : Int) < (p + 1 : Nat) := by omega
        by_cases hkn : k < n
        · obtain ⟨x, hx⟩ : ∃ a, l[k]? = some a := ⟨_, List.getElem?_eq_getElem (by rw [HN.out]; exact hkn)⟩
          obtain ⟨a0, a1, a2, a3, a4, a5⟩ := (HX.out k x hx).nd
          have HD : Hid (nxtL n (l.drop k) (p + 1) k = if x.many < 0 ∨ (n : Int) < x.many then -1 else nxtL n (l.drop (k + 1)) (p + x.many.toNat) (k + 1)) := Lib.hid (by rw [drop_at hx, nxtL_cons])
          clear hx a0 a2 a3 a4 a5
          by_cases hm : x.many < 0
          · have HE : Hid (-1 = ans) := Lib.hid (by rw [← HA.out, HD.out, if_pos (.inl hm)])
            go_wp2
            go_ret
            exact ⟨ret_i64 HE.out, rfl⟩
          · by_cases hm2 : (n : Int) < x.many
            · have HE : Hid (-1 = ans) := Lib.hid (by rw [← HA.out, HD.out, if_pos (.inr hm2)])
              go_wp2
              go_ret
              exact ⟨ret_i64 HE.out, rfl⟩
            · obtain ⟨m, hme⟩ : ∃ m : Nat, x.many = m := ⟨x.many.toNat, by omega⟩
              rw [hme] at a1 hm hm2
              have HE : Hid (nxtL n (l.drop (k + 1)) (p + m) (k + 1) = ans) := Lib.hid (by rw [← HA.out, HD.out, if_neg (by omega), hme]; rfl)
              clear hme
              go_wp2
              go_round
              case rel => exact ⟨k + 1, p + m, by omega, by omega, by go_num, by go_num, HE.out⟩
              case measure => simp [intOf]; omega
        · have HE : Hid (-1 = ans) := Lib.hid (by rw [← HA.out, List.drop_of_length_le (by rw [HN.out]; omega), nxtL_nil])
          go_wp2
          go_ret
          exact ⟨ret_i64 HE.out, rfl⟩
  · have HE : Hid (-1 = ans) := Lib.hid (by rw [← HANS.out, List.drop_of_length_le hge, nxtL_nil])
    obtain ⟨A, c, rfl, -⟩ := hv
    go_enter Tryz.func55, Tryz.ntmps55
    go_wp2
    go_loop [1, 5] (fun a op => a = .int .i64 i ∧ op = .int .i64 1) (fun _ _ => 0)
    case atStart => exact ⟨rfl, rfl⟩
    case round =>
      obtain ⟨rfl, rfl⟩ := hrel
      go_wp2
      go_ret
      exact ⟨ret_i64 HE.out, rfl⟩
end Go.Proofs.YtbhgmfddjnkglaaGreatDoor
