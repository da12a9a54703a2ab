/-
  What quote's maps are: letters and byLetter.
-/
import Derived.Test.YtdgcdemihalefaaGreatDoorQm
import Derived.Test.YtdgcdemihalefaaGreatDoorQuoP
import Derived.Maps.RangeWalk
import Derived.Maps.Ext
namespace Go.Proofs.YtdgcdemihalefaaGreatDoor
open Go.RowKit Go.Maps Np Up Qp

theorem lawI : Keyed Tryz.prog 21 := int_keyed Tryz.underlying21
theorem zeroI (w : World) : (zeroValue 21).run Tryz.prog w = .ok (.int .i32 0) w := by kernel_rfl
abbrev key (r : Int) : Lit := .int .i32 r
/-- A map, read as a function. -/
def Vw (D : DataW Unit) (f : Int → Option Int) : Prop := IsMap D ∧ ∀ r : Int, Maps.has D (key r) = (f r).isSome ∧ ∀ v, f r = some v → D.atKey (key r) (.lit (.int .i32 0)) = .lit (.int .i32 v)
theorem key_ne {a b : Int} (h : a ≠ b) : key a ≠ key b := fun e => h (by injection e)
theorem Vw.empty : Vw (.map []) (fun _ => none) := ⟨⟨_, rfl⟩, fun r => ⟨rfl, fun v h => by cases h⟩⟩
def upd (f : Int → Option Int) (k v r : Int) : Option Int := if r = k then some v else f r
def era (f : Int → Option Int) (k r : Int) : Option Int := if r = k then none else f r
theorem upd_same (f : Int → Option Int) (k v : Int) : upd f k v k = some v := if_pos rfl
theorem upd_other (f : Int → Option Int) {k r : Int} (v : Int) (h : r ≠ k) : upd f k v r = f r := if_neg h
theorem era_same (f : Int → Option Int) (k : Int) : era f k k = none := if_pos rfl
theorem era_other (f : Int → Option Int) {k r : Int} (h : r ≠ k) : era f k r = f r := if_neg h
theorem key_ok (k : Int) : WideAt.IsKeyLit (key k) := by unfold key WideAt.IsKeyLit; trivial
theorem Vw.put {D : DataW Unit} {f : Int → Option Int} (h : Vw D f) (k v : Int) : Vw (D.put (key k) (.lit (.int .i32 v))) (upd f k v) := by
  refine ⟨h.1.put _ _, fun r => ?_⟩
  by_cases e : r = k
  · subst e
    rw [upd_same]
    refine ⟨by rw [has_put_same h.1 (key_ok _)]; rfl, fun x hx => ?_⟩
    injection hx with hx
    rw [atKey_put_same h.1 (key_ok _), hx]
  · rw [upd_other f v e]
    refine ⟨by rw [has_put_other (key_ne e)]; exact (h.2 r).1, fun x hx => ?_⟩
    rw [atKey_put_other (key_ne e)]
    exact (h.2 r).2 x hx
theorem Vw.del {D : DataW Unit} {f : Int → Option Int} (h : Vw D f) (k : Int) : Vw (D.del (key k)) (era f k) := by
  refine ⟨h.1.del _, fun r => ?_⟩
  by_cases e : r = k
  · subst e
    rw [era_same]
    exact ⟨by rw [has_del_same]; rfl, fun x hx => by cases hx⟩
  · rw [era_other f e]
    refine ⟨by rw [has_del_other (key_ne e)]; exact (h.2 r).1, fun x hx => ?_⟩
    rw [atKey_del_other (key_ne e)]
    exact (h.2 r).2 x hx
theorem Vw.congr {D : DataW Unit} {f g : Int → Option Int} (h : Vw D f) (e : ∀ r, f r = g r) : Vw D g := by
  obtain rfl : f = g := funext e
  exact h
/-- A map in block b, of at most so many entries, that reads as this function. -/
def MapAt (w : World) (b n : Nat) (f : Int → Option Int) : Prop := ∃ D : DataW Unit, w.ownsMap Tryz.prog 21 (plainElem Tryz.prog 21) b n D ∧ Vw D f
theorem MapAt.below {w w' : World} {b n B : Nat} {f : Int → Option Int} (h : MapAt w b n f) (hb : Below B w w') (hB : b < B) : MapAt w' b n f := by
  obtain ⟨D, ⟨es, clock, h1, h2⟩, h3⟩ := h
  exact ⟨D, ⟨es, clock, (hb.block b hB).trans h1, h2⟩, h3⟩
theorem MapAt.lt {w : World} {b n : Nat} {f : Int → Option Int} (h : MapAt w b n f) : b < w.heap.size := by
  obtain ⟨D, h1, _⟩ := h
  exact h1.lt

/-- The letters of the runes that have short escapes. -/
def letF (r : Int) : Option Int :=
  if r = 34 then some 34 else if r = 92 then some 92 else if r = 47 then some 47 else if r = 8 then some 98 else if r = 12 then some 102 else if r = 10 then some 110 else if r = 13 then some 114 else if r = 9 then some 116 else none
/-- The runes of the letters. -/
def blF (c : Int) : Option Int :=
  if c = 34 then some 34 else if c = 92 then some 92 else if c = 47 then some 47 else if c = 98 then some 8 else if c = 102 then some 12 else if c = 110 then some 10 else if c = 114 then some 13 else if c = 116 then some 9 else none

/-- A map literal's entry. -/
theorem wpList_insert_own {H : Type} {P : Program} (w : World) {ops : Array Oper} {rest : List Oper} {o : Oper} {a : Act} {Q : Exit → Act → World → Prop}
    (hg : o.guard = none) (m x v : Operand) (t : TypeId) (hop : o.op = Op.insert t m x v)
    (k e : TypeId) (K : Keyed P k) (ht : P.underlying t = some (.map k e)) (R : Value → Option (DataW H × List MemPlace)) (b n : Nat) (D : DataW H)
    (hm : a.eval m = .map (some b)) (hown : w.ownsMap P k R b n D) (hn : n < maxLen) (key val : Value) (kl : Lit) (hx : a.eval x = key) (hv : a.eval v = val) (hkey : keyOf P k key = some kl)
    (d : DataW H) (ps : List MemPlace) (hval : R val = some (d, ps))
    (hK : ∀ w', w'.ownsMap P k R b (n + 1) (D.put kl d) → w.grownBy w' (some b) → wpList P ops Q rest (a.put o.dst undef) w') :
    wpList P ops Q (o :: rest) a w := by
  refine wpList_plain hg fun K' hK' => ?_
  obtain ⟨w', hrun, r1, r2⟩ := hown.update K ht hn hkey hval
  unfold Oper.wp
  simp [execOp, hop, hm, hx, hv, hrun, Result.andThen]
  exact hK' _ _ (hK w' r1 r2)

set_option maxRecDepth 100000 in
set_option maxHeartbeats 4000000 in
theorem letters_any (w : World) :
    Calls Tryz.prog 219 #[] w fun e w' => e = .returned (.map (some w.heap.size)) ∧ MapAt w' w.heap.size 8 letF ∧ Below w.heap.size w w' := by
  have hmm := @run_makeMap Tryz.prog
  have hown0 : (w.alloc (.map #[] 0)).ownsMap Tryz.prog 21 (plainElem (H := Unit) Tryz.prog 21) w.heap.size 0 (.map []) := World.ownsMap_made _ _ _ _
  go_enter Tryz.func219, Tryz.ntmps219
  go_wp2_with (first
    | (refine wpList_insert_own _ rfl _ _ _ 245 rfl 21 21 lawI Tryz.underlying245 _ w.heap.size 7 _ rfl hown7 (by decide) _ _ _ rfl rfl (keyOf_int_mk Tryz.underlying21 (by decide)) _ [] (plainElem_int Tryz.underlying21 (by decide)) ?_; intro w8 hown8 hg8)
    | (refine wpList_insert_own _ rfl _ _ _ 245 rfl 21 21 lawI Tryz.underlying245 _ w.heap.size 6 _ rfl hown6 (by decide) _ _ _ rfl rfl (keyOf_int_mk Tryz.underlying21 (by decide)) _ [] (plainElem_int Tryz.underlying21 (by decide)) ?_; intro w7 hown7 hg7)
    | (refine wpList_insert_own _ rfl _ _ _ 245 rfl 21 21 lawI Tryz.underlying245 _ w.heap.size 5 _ rfl hown5 (by decide) _ _ _ rfl rfl (keyOf_int_mk Tryz.underlying21 (by decide)) _ [] (plainElem_int Tryz.underlying21 (by decide)) ?_; intro w6 hown6 hg6)
    | (refine wpList_insert_own _ rfl _ _ _ 245 rfl 21 21 lawI Tryz.underlying245 _ w.heap.size 4 _ rfl hown4 (by decide) _ _ _ rfl rfl (keyOf_int_mk Tryz.underlying21 (by decide)) _ [] (plainElem_int Tryz.underlying21 (by decide)) ?_; intro w5 hown5 hg5)
    | (refine wpList_insert_own _ rfl _ _ _ 245 rfl 21 21 lawI Tryz.underlying245 _ w.heap.size 3 _ rfl hown3 (by decide) _ _ _ rfl rfl (keyOf_int_mk Tryz.underlying21 (by decide)) _ [] (plainElem_int Tryz.underlying21 (by decide)) ?_; intro w4 hown4 hg4)
    | (refine wpList_insert_own _ rfl _ _ _ 245 rfl 21 21 lawI Tryz.underlying245 _ w.heap.size 2 _ rfl hown2 (by decide) _ _ _ rfl rfl (keyOf_int_mk Tryz.underlying21 (by decide)) _ [] (plainElem_int Tryz.underlying21 (by decide)) ?_; intro w3 hown3 hg3)
    | (refine wpList_insert_own _ rfl _ _ _ 245 rfl 21 21 lawI Tryz.underlying245 _ w.heap.size 1 _ rfl hown1 (by decide) _ _ _ rfl rfl (keyOf_int_mk Tryz.underlying21 (by decide)) _ [] (plainElem_int Tryz.underlying21 (by decide)) ?_; intro w2 hown2 hg2)
    | (refine wpList_insert_own _ rfl _ _ _ 245 rfl 21 21 lawI Tryz.underlying245 _ w.heap.size 0 _ rfl hown0 (by decide) _ _ _ rfl rfl (keyOf_int_mk Tryz.underlying21 (by decide)) _ [] (plainElem_int Tryz.underlying21 (by decide)) ?_; intro w1 hown1 hg1)
    | go_in)
  go_ret
  have hB : Below w.heap.size w (w.alloc (.map #[] 0)) := (Below.refl _ _).alloc (Nat.le_refl _) _
  have hB1 := hB.grown hg1 hB.size (fun j hj => by cases hj; exact Nat.le_refl _)
  have hB2 := hB1.grown hg2 hB1.size (fun j hj => by cases hj; exact Nat.le_refl _)
  have hB3 := hB2.grown hg3 hB2.size (fun j hj => by cases hj; exact Nat.le_refl _)
  have hB4 := hB3.grown hg4 hB3.size (fun j hj => by cases hj; exact Nat.le_refl _)
  have hB5 := hB4.grown hg5 hB4.size (fun j hj => by cases hj; exact Nat.le_refl _)
  have hB6 := hB5.grown hg6 hB5.size (fun j hj => by cases hj; exact Nat.le_refl _)
  have hB7 := hB6.grown hg7 hB6.size (fun j hj => by cases hj; exact Nat.le_refl _)
  have hB8 := hB7.grown hg8 hB7.size (fun j hj => by cases hj; exact Nat.le_refl _)
  refine ⟨rfl, ⟨_, hown8, ?_⟩, hB8⟩
  refine Vw.congr ((((((((Vw.empty.put 34 34).put 92 92).put 47 47).put 8 98).put 12 102).put 10 110).put 13 114).put 9 116) fun r => ?_
  unfold letF upd
  repeat' split
  all_goals first | rfl | omega

/-- So far: what has come of the runes is told by its letter. -/
def Inv (left : Lit → Bool) (g : Int → Option Int) : Prop := (∀ r c, letF r = some c → left (key r) = false → g c = some r) ∧ ∀ c r, g c = some r → letF r = some c
theorem ltF_inj {r r' c : Int} (h : letF r = some c) (h' : letF r' = some c) : r = r' := by
  unfold letF at h h'
  repeat' split at h
  all_goals (first | (cases h; done) | (injection h with h; subst h))
  all_goals (repeat' split at h')
  all_goals (first | (cases h'; done) | (injection h' with h'; omega))
theorem blF_iff (c r : Int) : blF c = some r ↔ letF r = some c := by
  constructor
  · intro h
    unfold blF at h
    repeat' split at h
    all_goals (first | (cases h; done) | (injection h with h; subst h; subst_vars; rfl))
  · intro h
    unfold letF at h
    repeat' split at h
    all_goals (first | (cases h; done) | (injection h with h; subst h; subst_vars; rfl))
theorem Inv.step {left : Lit → Bool} {g : Int → Option Int} (h : Inv left g) {x c : Int} (hx : letF x = some c) : Inv (fun z => left z && !z.sameKey (key x)) (upd g c x) := by
  refine ⟨fun r d hr hl => ?_, fun d r hg => ?_⟩
  · by_cases e : r = x
    · subst e
      rw [hx] at hr
      injection hr with hr
      subst hr
      rw [upd_same]
    · have hlr : left (key r) = false := by
        simp only [sameKey_ne (key_ne e), Bool.not_false, Bool.and_true] at hl
        exact hl
      rw [upd_other]
      · exact h.1 r d hr hlr
      · intro hd
        subst hd
        exact e (ltF_inj hr hx)
  · by_cases e : d = c
    · subst e
      rw [upd_same] at hg
      injection hg with hg
      subst hg
      exact hx
    · rw [upd_other _ _ e] at hg
      exact h.2 d r hg
theorem Inv.done {left : Lit → Bool} {g : Int → Option Int} (h : Inv left g) (hl : ∀ k, left k = false) (c : Int) : g c = blF c := by
  cases hb : blF c with
  | some r => exact h.1 r c ((blF_iff c r).1 hb) (hl _)
  | none =>
    cases hg : g c with
    | none => rfl
    | some r =>
      have := (blF_iff c r).2 (h.2 c r hg)
      rw [this] at hb
      cases hb
theorem Vw.of_at {D : DataW Unit} {f : Int → Option Int} (h : Vw D f) {x c : Int} (hat : ∀ zd : DataW Unit, D.atKey (key x) zd = .lit (.int .i32 c)) : f x = some c := by
  have h1 := has_true_of_atKey hat
  rw [(h.2 x).1] at h1
  obtain ⟨v, hv⟩ := Option.isSome_iff_exists.1 h1
  have h2 := (h.2 x).2 v hv
  rw [hat] at h2
  injection h2 with h2
  injection h2 with _ h2
  rw [hv, h2]

set_option maxRecDepth 100000 in
set_option maxHeartbeats 4000000 in
theorem byLetter_any (w : World) :
    Calls Tryz.prog 280 #[] w fun e w' => e = .returned (.map (some w.heap.size)) ∧ MapAt w' w.heap.size 8 blF ∧ Below w.heap.size w w' := by
  have hmm := @run_makeMap Tryz.prog
  have e1 : (w.alloc (.map #[] 0)).heap.size = w.heap.size + 1 := by simp
  have hown0 : (w.alloc (.map #[] 0)).ownsMap Tryz.prog 21 (plainElem (H := Unit) Tryz.prog 21) w.heap.size 0 (.map []) := World.ownsMap_made _ _ _ _
  go_enter Tryz.func280, Tryz.ntmps280
  go_wp2_with fail
  refine (letters_any _).mono ?_
  rintro e wL ⟨rfl, ⟨D0, hL, hV⟩, hbL⟩
  rw [e1] at hL hbL ⊢
  have hownL : wL.ownsMap Tryz.prog 21 (plainElem (H := Unit) Tryz.prog 21) w.heap.size 0 (.map []) := by
    obtain ⟨es, clock, h1, h2⟩ := hown0
    exact ⟨es, clock, (hbL.block _ (Nat.lt_succ_self _)).trans h1, h2⟩
  have hB0 : Below w.heap.size w wL := ((Below.refl _ _).alloc (Nat.le_refl _) _).trans (hbL.mono (Nat.le_succ _))
  clear hown0 hbL
  go_wp2_with (first
    | (at_range; refine wpList_range_own _ rfl _ 245 rfl 21 21 lawI Tryz.underlying245 _ (w.heap.size + 1) 8 _ rfl hL ?_; intro w0 hrg0 hg0 hs0)
    | go_in)
  go_frame
  have hsz := hL.size_le
  have hne : wL.heap.size ≠ w.heap.size := by have := hownL.lt; omega
  have hBr : w.heap.size ≤ wL.heap.size := by have := hownL.lt; omega
  go_loopw [2] (fun _ wr => ∃ (left : Lit → Bool) (cnt : Nat) (Dout : DataW Unit) (g : Int → Option Int), wr.ranges Tryz.prog 21 (plainElem Tryz.prog 21) (w.heap.size + 1) wL.heap.size 8 D0 left cnt ∧ cnt ≤ Maps.size D0 ∧
      wr.ownsMap Tryz.prog 21 (plainElem Tryz.prog 21) w.heap.size (Maps.size D0 - cnt) Dout ∧ Vw Dout g ∧ Inv left g ∧ Below w.heap.size w wr)
    (fun _ wr => wr.rangeLeft (w.heap.size + 1) wL.heap.size)
  case atStart =>
    refine ⟨_, _, .map [], fun _ => none, hrg0, Nat.le_refl _, (hownL.kept hg0 (by simp)).mono (Nat.zero_le _), Vw.empty, ⟨fun r c hr hl => ?_, fun c r h => by cases h⟩, hB0.grown hg0 (by omega) (fun j hj => by cases hj)⟩
    rw [(hV.2 r).1, hr] at hl
    cases hl
  case round =>
    obtain ⟨left, cnt, Dout, g, hrg, hcs, hout, hVo, hA, hnx⟩ := hrel
    go_wp2_with (first
      | (at_next; refine wpList_next_ranges_ii _ rfl _ rfl 21 21 .i32 .i32 lawI Tryz.underlying21 Tryz.underlying21 (w.heap.size + 1) wL.heap.size 8 _ _ _ rfl hrg ?_ ?_)
      | go_in)
    · intro hc0 hl0
      go_wp2
      go_ret
      exact ⟨rfl, ⟨Dout, hout.mono (by omega), hVo.congr (hA.done hl0)⟩, hnx⟩
    · intro x c w1 cnt1 hwx hwc hlx hat hrg1 hlt hg1 hs1 hen
      have hout1 := hout.kept hg1 (by intro e; injection e with e; omega)
      have hfx := hV.of_at hat
      go_wp2_with (first
        | (at_mapUpdate; refine wpList_mapUpdate_own _ rfl _ _ _ 245 rfl 21 21 lawI Tryz.underlying245 _ w.heap.size _ _ rfl hout1 (by unfold maxLen; omega) _ _ _ rfl rfl (keyOf_int_mk Tryz.underlying21 hwc) _ [] (plainElem_int Tryz.underlying21 hwx) ?_; intro w2 hout2 hg2; go_frame)
        | go_in)
      have hrg2 := hrg1.kept hg2 (fun e => by have := Option.some.inj e; omega) (fun e => by have := Option.some.inj e; omega)
      go_roundw
      case rel =>
        exact ⟨_, cnt1, _, _, hrg2, by omega, hout2.mono (by omega), hVo.put c x, hA.step hfx,
          (hnx.grown hg1 hnx.size (fun j hj => by cases hj; exact hBr)).grown hg2 (by have := hnx.size; omega) (fun j hj => by cases hj; exact Nat.le_refl _)⟩
      case measure => rw [hrg2.left_eq, hrg.left_eq]; exact hlt
end Go.Proofs.YtdgcdemihalefaaGreatDoor
