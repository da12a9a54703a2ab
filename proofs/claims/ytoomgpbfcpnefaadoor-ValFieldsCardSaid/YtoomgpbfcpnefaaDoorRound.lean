/-
  A statement whose order is open, in the body of a loop over an iterator: what holds of it anywhere holds of it there (it defers nothing).
-/
import Derived.Test.YtoomgpbfcpnefaaDoorOwn
import Derived.RangeFuncNested
import Derived.RangeFuncBound
import Derived.RangeFuncCalls
import Derived.RangeFuncLeaves
import Derived.RangeFuncBox
import Derived.OrdersHeld
import Derived.OrdersIn
import Derived.StillTail
namespace Go.Proofs.YtoomgpbfcpnefaaDoor
open Go.RowKit

theorem rowsIn_of {P : Program} {r n : Nat} {row : String} {args : Array Value} {w : World} {R : Value → World → Prop} (h : Go.Rows P row args w R) : RowsIn (Fence.wide.inRound r) n P row args w R := by
  intro c cs _
  obtain ⟨v, w', hr, hs⟩ := h c cs
  exact ⟨v, w', hr, stepsIn_wide.2 hs⟩

/-- One operation. -/
theorem oper_round {P : Program} {r n : Nat} {o : Oper} {a : Act} {w : World} {K : Act → World → Prop} {Q : Exit → Act → World → Prop} (hd : ∀ c, o.op ≠ .defer c) (h : o.wp P a w K Q) : o.wpIn (Fence.wide.inRound r) n P a w K Q := by
  refine ⟨fun _ _ => trivial, ?_⟩
  rw [show o.semAt (Fence.wide.inRound r).round a.eval = execOp a.eval o from Oper.semAt_some r a.eval o hd]
  unfold Oper.wp at h
  generalize (execOp a.eval o).run P w = res at h ⊢
  match res, h with
  | .ok (.value v) w', h => exact h
  | .ok .skip w', h => exact h
  | .ok (.defer d) w', h => exact h
  | .ok (.enter f args) w', h => exact ⟨fun h' => (by cases h'), CallsIn.inRound r (callsIn_wide.2 h)⟩
  | .ok (.row row args) w', h => exact ⟨fun h' => (by cases h'), rowsIn_of h⟩
  | .halt (.panic v) w', h => exact h

/-- Operations in whatever order. -/
theorem any_round {P : Program} {r n : Nat} {md : Region.Mode} {ops : Array Oper} {Q : Exit → Act → World → Prop} (hd : ∀ (i : Nat) (o : Oper), ops[i]? = some o → ∀ c, o.op ≠ .defer c) (hQ : ¬ LetsOut Q) :
    ∀ (fuel : Nat) (listed : Array Bool) (a : Act) (w : World), wpAny P md ops Q fuel listed a w → wpAnyIn (Fence.wide.inRound r) n P md ops Q fuel listed a w
  | 0, _, _, _, h => h
  | fuel + 1, listed, a, w, h => by
    refine ⟨h.1, fun i hi => ?_⟩
    have h1 := h.2 i hi
    unfold wpOp at h1
    unfold wpOpIn
    cases ho : ops[i]? with
    | none => rw [ho] at h1; exact any_round hd hQ fuel _ _ _ h1
    | some o =>
      rw [ho] at h1
      simp only at h1 ⊢
      by_cases hw : Region.wanted o (yielded ops a.tmps) = true
      · rw [if_pos hw] at h1 ⊢
        rcases h1 with h1 | ⟨_, h1⟩
        · exact Oper.wpIn_mono (fun a' w' h' => any_round hd hQ fuel _ a' w' h') (oper_round (hd i o ho) h1)
        · exact absurd h1 hQ
      · rw [if_neg hw] at h1 ⊢
        exact ⟨fun _ _ => trivial, any_round hd hQ fuel _ _ _ h1⟩
def noDefer (o : Oper) : Bool := match o.op with | .defer _ => false | _ => true
theorem region_round {P : Program} {r n id : Nat} {ops : Array Oper} {Q : Exit → Act → World → Prop} {a : Act} {w : World} (hm : P.follows .mixedOrders = true) (hd : ops.all noDefer = true) (hQ : ¬ LetsOut Q)
    (h : wpAny P .any ops Q ops.size (Array.replicate ops.size false) a w.drew) : (Code.region id ops true).wpIn (Fence.wide.inRound r) n P Q a w := by
  refine wpIn_region_any hm (any_round (fun i o ho c hc => ?_) hQ _ _ _ _ h)
  have h1 := Array.all_eq_true'.1 hd o (Array.mem_of_getElem? ho)
  unfold noDefer at h1
  rw [hc] at h1
  cases h1
theorem outgrown_no {α : Type} {B : Nat} {Kp : World → World → Prop} {I : List α → World → Prop} {Ix : Code → List α → World → Prop} {xs : List α} {W : World} : ¬ LetsOut (ownPostG B Kp I Ix xs W) := fun ⟨_, _, h⟩ => h
/-- What is left comes up in one order alone. -/
theorem any_tail {P : Program} {md : Region.Mode} {ops : Array Oper} {Q : Exit → Act → World → Prop} {listed : Array Bool} {a : Act} {w : World} (n fuel : Nat) (hf : ops.size = n + fuel) (hB : Region.seqB md ops fuel n listed = true)
    (h : wpList P ops Q (ops.toList.drop n) a w) : wpAny P md ops Q fuel listed a w := by
  have hl : (ops.toList.drop n).length = fuel := by simp; omega
  have := wpAny_of_seq (md := md) (ops.toList.drop n) n listed a w (fun j => by simp [List.getElem?_drop]) (by rw [hl]; exact hB) h
  rwa [hl] at this
/-- An operation that reads is taken first: its value, whatever else has come up. -/
theorem take_read {P : Program} {md : Region.Mode} {l : List Oper} {Q : Exit → Act → World → Prop} {S : World → Prop} {T : List Value} {ds : List Deferred} (i d : Nat) (v : Value) {oi : Oper} {fuel : Nat} {listed : Array Bool} {w : World} (hi : l[i]? = some oi) (hd : oi.dst = some d)
    (hs : Region.noSelect l.toArray = true) (hf : Region.free md l.toArray listed i = true) (hr : (Region.ready md l.toArray listed).contains i = true) (hQ : ∀ c a w, Q (.panic c) (a.put oi.dst v) w → Q (.panic c) a w)
    (hw : Region.wanted oi (yielded l.toArray T.toArray) = true) (hrun : ∀ w, S w → (execOp (Act.eval { tmps := T.toArray, defers := ds }) oi).run P w = .ok (.value v) w) (hS : S w)
    (h : wpAnyH P md l.toArray Q S fuel (listed.setIfInBounds i true) { tmps := (T.set d v).toArray, defers := ds } w) : wpAnyH P md l.toArray Q S (fuel + 1) listed { tmps := T.toArray, defers := ds } w := by
  refine wpAnyH_take (i := i) (v := v) (by simpa using hi) hs hf hr hQ (.inl ⟨hw, hrun⟩) hS ?_
  rw [hd, Act.put]
  simpa using h
theorem block_no {id : Nat} {Q : Exit → Act → World → Prop} (h : ¬ LetsOut Q) : ¬ LetsOut (Exit.inBlock id Q) := fun ⟨a, w, hq⟩ => h ⟨a, w, hq⟩
end Go.Proofs.YtoomgpbfcpnefaaDoor
