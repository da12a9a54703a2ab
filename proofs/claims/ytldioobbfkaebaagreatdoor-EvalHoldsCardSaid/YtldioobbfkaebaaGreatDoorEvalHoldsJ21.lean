/-
  Joined: Ev4, Ev5, Ev6, Ev9, EvA, EvB.
-/
import Derived.Test.YtldioobbfkaebaaGreatDoorEvalHoldsJ20
import Derived.Test.YtldioobbfkaebaaGreatDoorEvalHoldsJ4
import Derived.Test.YtldioobbfkaebaaGreatDoorEvalHoldsJ13
import Derived.Test.YtldioobbfkaebaaGreatDoorEvalHoldsJ19
set_option maxHeartbeats 4000000
set_option maxRecDepth 100000
namespace Go.Proofs.YtldioobbfkaebaaGreatDoor
section
open Go.RowKit Go.Shelf Np Rw Vp Pw Ev
def OutR (S : Nat → Prop) (w : World) (r : Rz) (e : Ending) (w' : World) : Prop := match r with
 | .ok t => ∃ g : Nat, e = .returned (.tuple #[.pointer (some ⟨g, 0, none⟩), .int .i64 0]) ∧ TrS (Or S w.heap.size) w' t (.pointer (some ⟨g, 0, none⟩)) ∧ Below w.heap.size w w'
 | .bad k => e = .returned (.tuple #[.pointer none, .int .i64 k]) ∧ Below w.heap.size w w'
theorem step_at {s : St} {t : Tr Nd} (h : asks s t = true) : stepE s t = some (match kid s t with | none => nullT | some k => nmd [] (t.ks.getD k nullT)) := by unfold stepE; rw [if_pos h] <;> rfl
theorem evStep_any (S : Nat → Prop) (t : Tr Nd) (v : Value) (s : St) (w : World) (h : TrS S w t v) (ht : Rgt t) (hs : rightS s = true) :
  Calls Tryz.prog 63 #[v, sta s] w (OutR S w (ofO (stepE s t))) := by
 have hb := (Below.refl w.heap.size w).alloc (Nat.le_refl _) (.cells #[.bool s.part, .string ⟨s.name.toArray⟩, .int .i64 s.n] 49)
 have HB := Lib.hid hb
 have HP := Lib.hid (fun W (hW : Below w.heap.size w W) => evPlace_any S t v s W (h.below hW) ht hs)
 obtain ⟨g, m, A, c, vs, rfl, hS, hg, hn, h6, hr, hk⟩ := h.opened
 have HR := Lib.hid hr
 have HK := Lib.hid hk
 have H6 := Lib.hid h6
 have HBD := Lib.hid (fun ha => plcV_bad (s := s) (t := t) ha)
 have HOK := Lib.hid (fun ha => plcV_ok (s := s) (t := t) ha)
 have HSN := Lib.hid (fun ha => step_not (s := s) (t := t) ha)
 have HSA := Lib.hid (fun ha => step_at (s := s) (t := t) ha)
 have hkl := fun k (h : kid s t = some k) => kid_at h
 have HKL := Lib.hid hkl
 clear h ht hs hr hk h6 hn hkl hb
 generalize plcV s t = pl at *
 generalize hst : stepE s t = R at *
 clear hst
 generalize hkd : kid s t = kd at *
 clear hkd
 have q0 : (w.alloc (.cells #[.bool s.part, .string ⟨s.name.toArray⟩, .int .i64 s.n] 49)).cell? ⟨w.heap.size, 0, none⟩ = some (.bool s.part) := by simp [World.cell?_alloc_new]
 have q1 : (w.alloc (.cells #[.bool s.part, .string ⟨s.name.toArray⟩, .int .i64 s.n] 49)).cell? ⟨w.heap.size, 1, none⟩ = some (.string ⟨s.name.toArray⟩) := by simp [World.cell?_alloc_new]
 have q2 : (w.alloc (.cells #[.bool s.part, .string ⟨s.name.toArray⟩, .int .i64 s.n] 49)).cell? ⟨w.heap.size, 2, none⟩ = some (.int .i64 s.n) := by simp [World.cell?_alloc_new]
 cases ha : asks s t
 ·have h1 := HBD.out ha
  have h2 := HSN.out ha
  subst h1 h2
  go_enter Tryz.func63, Tryz.ntmps63
  go_wp2_with fail
  refine (HP.out _ HB.out).mono ?_
  rintro e w1 ⟨rfl, hb1⟩
  have hb2 := HB.out.trans (hb1.mono HB.out.size)
  clear q0 q1 q2
  go_wp2_with fail
  go_ret2
  exact ⟨rfl, hb2⟩
 ·have h1 := HOK.out ha
  have h2 := HSA.out ha
  cases kd with
  | none =>
   simp only at h1 h2
   subst h1 h2
   go_enter Tryz.func63, Tryz.ntmps63
   go_wp2_with fail
   refine (HP.out _ HB.out).mono ?_
   rintro e w1 ⟨rfl, hb1⟩
   have HB2 := Lib.hid (HB.out.trans (hb1.mono HB.out.size))
   clear q0 q1 q2
   go_wp2_with fail
   refine (evNull_any S _).mono ?_
   rintro e w2 hw2
   obtain ⟨g2, rfl, ht2, hb2⟩ := hw2
   have HT2 := Lib.hid ht2
   clear ht2
   go_wp2_with fail
   go_ret2
   exact ⟨g2, rfl, HT2.out.mono (fun _ _ => Or.mono HB2.out.size), HB2.out.trans (hb2.mono HB2.out.size)⟩
  | some k =>
   simp only at h1 h2
   obtain ⟨u, hu, hgd, -, -, hkl, -⟩ := HKL.out k rfl
   rw [hgd] at h2
   subst h1 h2
   obtain ⟨p, hp, hpt⟩ := TrsS_at HK.out hu
   have HNM := Lib.hid (fun W (hW : Below w.heap.size w W) => evNamed_any S u p [] W (hpt.below hW))
   obtain ⟨A', c', hv, -, -, -, HH⟩ := HR.out
   injection hv with e1 e2 e3
   subst e1
   obtain ⟨g2, o2, rfl, -, hg2, hx⟩ := HH (by have := TrsS_len HK.out; omega)
   have a0 := Lib.hid (hx k p hp)
   clear hx HH e3 hu hgd hp hpt
   have hkN : k < t.ks.length := hkl
   generalize t.ks.length = N at *
   clear hkl e2
   go_enter Tryz.func63, Tryz.ntmps63
   go_wp2_with fail
   refine (HP.out _ HB.out).mono ?_
   rintro e w1 ⟨rfl, hb1⟩
   have HB2 := Lib.hid (HB.out.trans (hb1.mono HB.out.size))
   have c6 := (HB2.out.cell (p := ⟨g, 6, none⟩) hg).trans H6.out
   have b0 := (HB2.out.cell (p := ⟨g2, o2 + k, none⟩) hg2).trans a0.out
   clear q0 q1 q2 hb1
   go_wp2_with fail
   refine (HNM.out _ HB2.out).mono ?_
   rintro e w2 hw2
   obtain ⟨g3, rfl, ht2, hb2⟩ := hw2
   have HT2 := Lib.hid ht2
   clear ht2
   go_wp2_with fail
   go_ret2
   exact ⟨g3, rfl, HT2.out.mono (fun _ _ => Or.mono HB2.out.size), HB2.out.trans (hb2.mono HB2.out.size)⟩
end
section
open Go.RowKit Go.Shelf Np Rw Vp Pw Ev
theorem alongC_any (S : Nat → Prop) (p : List St) (t : Tr Nd) (v sl : Value) (b : Nat) (w : World) (hb : w.cell? ⟨b, 0, none⟩ = some sl) (hp : Sps w sl p) (hps : ∀ s ∈ p, rightS s = true) (h : TrS S w t v) (ht : Val t) :
  Calls Tryz.prog 62 #[v, .pointer (some ⟨b, 0, none⟩)] w (OutR S w (ofO (alongE p t))) := by
 obtain ⟨g0, _, _, _, _, rfl, -⟩ := h.opened
 have H := Lib.hid h
 have HP := Lib.hid hp
 obtain ⟨A, c, rfl, hc, hcm, -⟩ := hp
 have HB := Lib.hid hb
 have HPS := Lib.hid hps
 have HV := Lib.hid ht
 clear h hps ht
 generalize hr : alongE p t = R at *
 have HR := Lib.hid hr
 clear hr
 generalize hn : p.length = N at *
 have HN := Lib.hid hn
 clear hn
 unfold maxLen at hcm
 go_enter Tryz.func62, Tryz.ntmps62
 go_wp2_with fail
 go_loopw [0, 11] (fun vv iv wr => ∃ (k g : Nat) (x : Tr Nd), k ≤ N ∧ iv = .int .i64 k ∧ vv = .pointer (some ⟨g, 0, none⟩) ∧ Hid (TrS (Or S w.heap.size) wr x (.pointer (some ⟨g, 0, none⟩))) ∧ Hid (Val x) ∧ Hid (alongE (p.drop k) x = R) ∧ Hid (Below w.heap.size w wr)) (fun _ iv _ => N - (intOf iv).toNat)
 case atStart => exact ⟨0, g0, t, Nat.zero_le _, rfl, rfl, Lib.hid (H.out.mono (fun _ _ => .inl)), HV, Lib.hid HR.out, Lib.hid (Below.refl _ _)⟩
 case round =>
  obtain ⟨k, g, x, hk, rfl, rfl, HT, HX, HRK, HBW⟩ := hrel
  by_cases hlt : k < N
  ·obtain ⟨s, hs⟩ : ∃ s, p[k]? = some s := ⟨_, List.getElem?_eq_getElem (by rw [HN.out]; exact hlt)⟩
   have hd : p.drop k = s :: p.drop (k + 1) := by
    obtain ⟨h1, h2⟩ := List.getElem?_eq_some_iff.1 hs
    rw [← h2, List.getElem_cons_drop]
   have HRS := Lib.hid (HPS.out s (List.mem_of_getElem? hs))
   have HR2 : Hid ((match stepE s x with | none => none | some u => alongE (p.drop (k + 1)) u) = R) := Lib.hid (by rw [← HRK.out, hd, alongE] <;> rfl)
   have hpw := HP.out.below HBW.out
   obtain ⟨A', c', hv, -, -, -, HH⟩ := hpw
   injection hv with e1 e2 e3
   subst e1
   obtain ⟨g2, o2, rfl, hg2, hx⟩ := HH (by rw [HN.out]; omega)
   obtain ⟨a0, a1, a2⟩ := (hx k s hs).sp
   clear hx HH e3 e2 hs hd
   go_wp2_with fail
   have HBA : Hid (∀ ob, Below wr.heap.size wr (wr.alloc ob)) := Lib.hid (fun ob => (Below.refl _ _).alloc (Nat.le_refl _) ob)
   refine (evStep_any (Or S w.heap.size) x (.pointer (some ⟨g, 0, none⟩)) s _ (HT.out.below (HBA.out _)) (rgt_of HX.out) HRS.out).mono ?_
   rintro e w2 hw2
   cases hst : stepE s x with
   | none =>
    rw [hst] at hw2
    obtain ⟨rfl, hb2⟩ := hw2
    have hrf : R = none := by have := HR2.out; rw [hst] at this; exact this.symm
    subst hrf
    have HB2 := Lib.hid (HBW.out.trans (((HBA.out _).trans (hb2.mono (HBA.out _).size)).mono HBW.out.size))
    clear hb2 a0 a1 a2 hst
    go_wp2_with fail
    go_ret2
    exact ⟨rfl, HB2.out⟩
   | some u =>
    rw [hst] at hw2
    obtain ⟨g3, rfl, ht2, hb2⟩ := hw2
    have HR3 : Hid (alongE (p.drop (k + 1)) u = R) := Lib.hid (by have := HR2.out; rw [hst] at this; exact this)
    have HX2 := Lib.hid (step_val (rgt_of HX.out) hst)
    have HB2 := Lib.hid (HBW.out.trans (((HBA.out _).trans (hb2.mono (HBA.out _).size)).mono HBW.out.size))
    have HT2 : Hid (TrS (Or S w.heap.size) w2 u (.pointer (some ⟨g3, 0, none⟩))) := Lib.hid (ht2.mono (fun b _ h => h.elim id (fun h => .inr (Nat.le_trans HBW.out.size (Nat.le_trans (HBA.out _).size h)))))
    clear hb2 ht2 a0 a1 a2 hst
    go_wp2_with fail
    go_roundw
    case rel => exact ⟨k + 1, g3, u, by omega, by go_num, rfl, HT2, HX2, HR3, HB2⟩
    case measure => simp [intOf]; omega
  ·have hkN : k = N := by omega
   have HRF : Hid (R = some x) := Lib.hid (by rw [← HRK.out, List.drop_of_length_le (by rw [HN.out]; omega)]; rfl)
   subst hkN
   have hrf := HRF.out
   subst hrf
   go_wp2_with fail
   go_ret2
   exact ⟨g, rfl, HT.out, HBW.out⟩
def Gives (B : Nat) (w : World) (fv : Value) (F : Tr Nd → Rz) : Prop := ∃ (K : FuncId) (cap : Array Value), fv = .func (.func K) #[] cap ∧ (∀ args w, (callFunc K args).run Tryz.prog w = .ok (.enter K args) w) ∧
 ∀ (W : World) (S : Nat → Prop) (t : Tr Nd) (v : Value), Below w.heap.size w W → TrS S W t v → Val t → (flat t).length ≤ B → Calls Tryz.prog K (#[v] ++ cap) W (OutR S W (F t))
theorem Gives.below {B : Nat} {w w' : World} {fv : Value} {F : Tr Nd → Rz} (h : Gives B w fv F) (hb : Below w.heap.size w w') : Gives B w' fv F := by
 obtain ⟨K, cap, h1, h2, h3⟩ := h
 exact ⟨K, cap, h1, h2, fun W S t v hW => h3 W S t v (hb.trans (hW.mono hb.size))⟩
def GivesE (B : Nat) (w : World) (F : Tr Nd → Rz) (e : Ending) (w' : World) : Prop := ∃ K cap, e = .returned (.func (.func K) #[] cap) ∧ Gives B w' (.func (.func K) #[] cap) F ∧ Below w.heap.size w w'
theorem evAlong_any (B : Nat) (sl : Value) (p : List St) (w : World) (hp : Sps w sl p) (hps : ∀ s ∈ p, rightS s = true) :
  Calls Tryz.prog 31 #[sl] w (GivesE B w fun t => ofO (alongE p t)) := by
 have eK : ∀ args w, (callFunc 62 args).run Tryz.prog w = .ok (.enter 62 args) w := enters_of Tryz.func62 (by kernel_rfl) rfl
 have hmf : ∀ (fn : Fn) (first cap : Array Value) (w : World), (Instr.makeFunc fn first cap).run Tryz.prog w = .ok (.func fn first cap) w := fun _ _ _ _ => rfl
 have hb := (Below.refl w.heap.size w).alloc (Nat.le_refl _) (.cells #[sl] 25)
 have HB := Lib.hid hb
 have HG : Hid (Gives B (w.alloc (.cells #[sl] 25)) (.func (.func 62) #[] #[.pointer (some ⟨w.heap.size, 0, none⟩)]) fun t => ofO (alongE p t)) := Lib.hid (by
  refine ⟨_, _, rfl, eK, fun W S t v hW h ht _ => ?_⟩
  have hc : (w.alloc (.cells #[sl] 25)).cell? ⟨w.heap.size, 0, none⟩ = some sl := by simp [World.cell?_alloc_new]
  exact alongC_any S p t v sl w.heap.size W ((hW.cell (World.block_lt_of_cell? _ _ hc)).trans hc) ((hp.below hb).below hW) hps h ht)
 obtain ⟨A, c, rfl, -⟩ := hp
 clear hb hps eK
 go_enter Tryz.func31, Tryz.ntmps31
 go_wp2_with fail
 go_ret
 exact ⟨_, _, rfl, HG.out, HB.out⟩
end
section
open Go.RowKit Go.Shelf Np Rw Vp Pw Ev
theorem tree_info : (Tryz.prog.info? 61).map (fun i => (i.zero, i.size, i.bytes)) = some (some (.pointer none), 1, 8) := by kernel_rfl
def ptc (p : Option Addr) : List Value := [.pointer p]
theorem ptc_len (p : Option Addr) : (ptc p).length = 1 := rfl
theorem elTree : Elem Tryz.prog 122 61 ptc 1 8 := by
 obtain ⟨i, hi, hz0, hz1, hz2⟩ := info_parts tree_info
 refine ⟨Tryz.underlying122, ⟨i, _, hi, hz0, hz1, hz2, rfl⟩, by decide, ptc_len, fun n u hu => ?_⟩
 simp only [ptc, List.mem_cons, List.not_mem_nil, or_false] at hu
 subst hu; rfl
theorem tgrow_any (n : Nat) (hn : n ≤ 2000000000000) (w : World) : Calls Tryz.prog 145 #[.slice none 0 0, .int .i64 (n : Int)] w fun e w' => ∃ v', e = .returned v' ∧ Own ptc 1 61 w.heap.size w' v' [] ∧ Below w.heap.size w w' := by
 rcases Nat.eq_zero_or_pos n with h0 | h0
 ·subst h0
  have h := Any8.slices_Grow_room Tryz.growT none 0 0 0 w (by omega) (by omega) (by omega) (by omega)
  change Calls Tryz.prog 145 _ _ _ at h
  refine h.mono fun e w' ⟨h1, h2⟩ => ?_
  subst h1 h2
  exact ⟨_, rfl, Own.nil _, Below.refl _ _⟩
 ·obtain ⟨i, hi, hz0, hz1, hz2⟩ := info_parts tree_info
  have h := Any8.slices_Grow_grow Tryz.growT i _ hi hz0 (by rw [hz1]; decide) none 0 0 n [] w (by omega) (by omega) (by rw [hz2]; omega) (by omega) (by simp) (fun _ => rfl) (fun a ha => by cases ha)
  change Calls Tryz.prog 145 _ _ _ at h
  refine h.mono fun e w' ⟨h1, h2⟩ => ?_
  subst h1 h2
  have hge := grownCap_ge w (0 + n) 0 61
  refine ⟨_, rfl, ⟨by simp, .inr ⟨w.heap.size, grownCap w (0 + n) 0 61, _, rfl, Nat.le_refl _, heap_alloc_new w.drew _, Nat.zero_le _, grownCap_le_maxLen w _ _ _ (by unfold maxLen; omega), ?_, by simp⟩⟩, (Below.refl _ _).drew.alloc (by simp) _⟩
  simp only [Array.size_append, size_zeroCells]
  have hz6 : (Value.pointer none).cells.size = 1 := rfl
  rw [hz6]
  change 0 + (0 + n - 0) * 1 + (grownCap w (0 + n) 0 61 - (0 + n)) * 1 = grownCap w (0 + n) 0 61 * 1
  omega
theorem sum_takeH {α : Type} {L : List (List α)} {k : Nat} {x : List α} (hx : L[k]? = some x) : ((L.take (k + 1)).map List.length).sum = ((L.take k).map List.length).sum + x.length := by
 rw [List.take_add_one, hx]; simp
theorem sum_takeH_le {α : Type} (L : List (List α)) (k : Nat) : ((L.take k).map List.length).sum ≤ (L.map List.length).sum := by
 conv => rhs; rw [← List.take_append_drop k L, List.map_append, List.sum_append]
 omega
theorem tconcat_any (v : Value) (L : List (List (Option Addr))) (w : World) (hv : Rowz ptc 1 w v L) (hb1 : L.length ≤ 1000000000000) (hb2 : (L.map List.length).sum ≤ 2000000000000) :
  Calls Tryz.prog 104 #[v] w (fun e w' => ∃ v', e = .returned v' ∧ Own ptc 1 61 w.heap.size w' v' L.flatten ∧ Below w.heap.size w w') := by
 obtain ⟨us, hul, hu, hur⟩ := hv
 obtain ⟨A, c, rfl, -, -, -, H⟩ := hu
 have HUL := Lib.hid hul
 have HU := Lib.hid hur
 have HH := Lib.hid H
 clear hur H
 rw [← hul] at hb1
 clear hul
 generalize hn : us.length = n at *
 have HN := Lib.hid hn; clear hn
 have HB2 := Lib.hid hb2
 clear hb2
 go_enter Tryz.func104, Tryz.ntmps104
 go_wp2
 go_loopw [3, 11] (fun nn i wr => ∃ k q : Nat, k ≤ n ∧ i = .int .i64 k ∧ nn = .int .i64 (q : Nat) ∧ q = ((L.take k).map List.length).sum ∧ q ≤ 2000000000000 ∧ wr = w) (fun _ i _ => n - (intOf i).toNat)
 case atStart => exact ⟨0, 0, Nat.zero_le _, rfl, rfl, rfl, by omega, rfl⟩
 case round =>
  obtain ⟨k, q, hk, rfl, rfl, hq, hqb, rfl⟩ := hrel
  have HQ := Lib.hid hq
  clear hq
  by_cases hlt : k < n
  ·obtain ⟨g, o, rfl, hg, hx⟩ := HH.out (by omega)
   obtain ⟨x, hxk⟩ : ∃ a, us[k]? = some a := ⟨_, List.getElem?_eq_getElem (by rw [HN.out]; exact hlt)⟩
   obtain ⟨a, ha⟩ : ∃ a, L[k]? = some a := ⟨_, List.getElem?_eq_getElem (by rw [← HUL.out]; exact hlt)⟩
   have a0 := (hx k x hxk).one
   have hra : Row ptc 1 wr x a := HU.out k x a hxk ha
   have HQ2 : Hid (q + a.length = ((L.take (k + 1)).map List.length).sum) := Lib.hid (by rw [sum_takeH ha, HQ.out])
   have hqa : q + a.length ≤ 2000000000000 := by have := sum_takeH_le L (k + 1); have := HB2.out; rw [HQ2.out]; omega
   clear ha hxk hx
   obtain ⟨B, c', rfl, -⟩ := hra
   go_wp2_with fail
   go_roundw
   case rel => exact ⟨k + 1, q + a.length, by omega, by go_num, by go_num, HQ2.out, by omega, by simp⟩
   case measure => simp [intOf]; omega
  ·obtain ⟨wo, rfl⟩ : ∃ wo : World, wo = wr := ⟨_, rfl⟩
   go_wp2_with (go_at_call 145; refine (tgrow_any q (by omega) _).mono ?_; rintro e w1 ⟨v1, rfl, ho1, hB1⟩)
   have HO1 := Lib.hid ho1
   have HB1 := Lib.hid hB1
   clear ho1 hB1
   go_loopw [6, 27] (fun vv i wr => ∃ k : Nat, k ≤ n ∧ i = .int .i64 k ∧ Own ptc 1 61 wo.heap.size wr vv (L.take k).flatten ∧ Below wo.heap.size wo wr) (fun _ i _ => n - (intOf i).toNat)
   case atStart => exact ⟨0, Nat.zero_le _, rfl, HO1.out, HB1.out⟩
   case round =>
    obtain ⟨j, hj, rfl, hown, hbw⟩ := hrel
    have HO := Lib.hid hown
    have HBW := Lib.hid hbw
    by_cases hlt2 : j < n
    ·obtain ⟨g, o, rfl, hg, hx⟩ := HH.out (by omega)
     obtain ⟨x, hxk⟩ : ∃ a, us[j]? = some a := ⟨_, List.getElem?_eq_getElem (by rw [HN.out]; exact hlt2)⟩
     obtain ⟨a, ha⟩ : ∃ a, L[j]? = some a := ⟨_, List.getElem?_eq_getElem (by rw [← HUL.out]; exact hlt2)⟩
     have a0 := (hbw.cell (p := ⟨g, o + j, none⟩) hg).trans (hx j x hxk).one
     have HRA : Hid (Row ptc 1 wr x a) := Lib.hid ((HU.out j x a hxk ha).below hbw)
     have HS : Hid ((L.take (j + 1)).flatten = (L.take j).flatten ++ a) := Lib.hid (by rw [List.take_add_one, ha]; simp)
     have HLN : Hid ((L.take j).flatten.length + a.length ≤ 2000000000000) := Lib.hid (by
      have h1 := sum_takeH ha
      have h2 := sum_takeH_le L (j + 1)
      have h3 := HB2.out
      rw [List.length_flatten]; omega)
     clear ha hxk hx hown hbw
     go_wp2_with (at_builtin; refine wpList_append_row (base := wo.heap.size) elTree rfl _ _ rfl rfl HO.out rfl HRA.out ?_ ?_ ?_ ?_)
     ·have := HLN.out; unfold maxLen; omega
     ·have := HLN.out; omega
     ·exact HBW.out.size
     ·intro A' c' w2 hown2 hg2 _
      have HO2 := Lib.hid hown2
      have HG2 := Lib.hid hg2
      clear hown2 hg2 a0
      generalize ((L.take j).flatten ++ a).length = q2 at HO2 ⊢
      go_wp2_with fail
      go_roundw
      case rel => exact ⟨j + 1, by omega, by go_num, by rw [HS.out]; exact HO2.out, HBW.out.trans (HO.out.kept HG2.out HBW.out.size)⟩
      case measure => simp [intOf]; omega
    ·have HE : Hid (L.take j = L) := Lib.hid (List.take_of_length_le (by rw [← HUL.out]; omega))
     clear hown hbw
     go_wp2_with fail
     go_ret
     exact ⟨_, rfl, by have := HO.out; rwa [HE.out] at this, HBW.out⟩
theorem RowS.ptrs {S : Nat → Prop} {w : World} {v : Value} {ps : List (Option Addr)} (h : RowS S w v (ps.map Value.pointer)) : Row ptc 1 w v ps := by
 obtain ⟨A, c, hv, h1, h2, h3, H⟩ := h
 rw [List.length_map] at hv h1 H
 refine ⟨A, c, hv, h1, h2, h3, fun h0 => ?_⟩
 obtain ⟨g, o, hA, -, hg, hx⟩ := H h0
 refine ⟨g, o, hA, hg, fun k x hk j u hu => ?_⟩
 have hj : j = 0 := by
  have := (List.getElem?_eq_some_iff.1 hu).1
  simp [ptc] at this; omega
 subst hj
 simp [ptc] at hu; subst hu
 have := hx k (.pointer x) (by rw [List.getElem?_map, hk]; rfl)
 rwa [Nat.mul_one, Nat.add_zero]
theorem own_rowS {S : Nat → Prop} {E base : Nat} {w : World} {v : Value} {ps : List (Option Addr)} (h : Own ptc 1 E base w v ps) (hS : ∀ g, v.ownBlock = some g → S g) : RowS S w v (ps.map Value.pointer) := by
 have hr := h.row ptc_len
 obtain ⟨A, c, hv, h1, h2, h3, H⟩ := hr
 refine ⟨A, c, by rw [List.length_map]; exact hv, by rw [List.length_map]; exact h1, h2, h3, fun h0 => ?_⟩
 rw [List.length_map] at h0
 obtain ⟨g, o, hA, hg, hx⟩ := H h0
 refine ⟨g, o, hA, hS g (by rw [hv, hA]; rfl), hg, fun k x hk => ?_⟩
 rw [List.getElem?_map, Option.map_eq_some_iff] at hk
 obtain ⟨p, hp, rfl⟩ := hk
 have := hx k p hp 0 (.pointer p) rfl
 rwa [Nat.mul_one, Nat.add_zero] at this
theorem TrsS_ptrs {S : Nat → Prop} {w : World} : ∀ {ks : List (Tr Nd)} {vs : List Value}, TrsS S w ks vs → ∃ ps : List (Option Addr), vs = ps.map Value.pointer
 | [], [], _ => ⟨[], rfl⟩
 | k :: ks, v :: vs, h => by
  obtain ⟨h1, h2⟩ := TrsS_cons.1 h
  obtain ⟨ps, rfl⟩ := TrsS_ptrs h2
  obtain ⟨g, _, _, _, _, rfl, -⟩ := h1.opened
  exact ⟨some ⟨g, 0, none⟩ :: ps, rfl⟩
 | [], _ :: _, h => by rw [TrsS] at h; exact h.elim
 | _ :: _, [], h => by rw [TrsS] at h; exact h.elim
theorem RowS.pc {S : Nat → Prop} {w : World} {g o c n : Nat} {vs : List Value} (h : RowS S w (.slice (some ⟨g, o, none⟩) n c) vs) (k m d : Nat) (hk : k + m ≤ vs.length) (hd : m ≤ d) (hdc : d ≤ c) : RowS S w (.slice (some ⟨g, o + k, none⟩) m d) ((vs.drop k).take m) := by
 obtain ⟨A, c', hv, hc, hm, -, H⟩ := h
 injection hv with e1 _ e3
 subst e1 e3
 have hl : ((vs.drop k).take m).length = m := by simp; omega
 refine ⟨_, d, by rw [hl], by rw [hl]; exact hd, by omega, fun h => (by cases h), fun h0 => ?_⟩
 rw [hl] at h0
 obtain ⟨g', o', hA, hS, hg, hx⟩ := H (by omega)
 injection hA with hA
 injection hA with e1 e2
 subst e1 e2
 refine ⟨g, o + k, rfl, hS, hg, fun i x hi => ?_⟩
 rw [List.getElem?_take] at hi
 split at hi
 ·rw [List.getElem?_drop] at hi
  have := hx _ x hi
  rwa [← Nat.add_assoc] at this
 ·cases hi
end
section
open Go.RowKit Go.Shelf Np Rw Vp Pw Ev
theorem frozen_of_heap {W : World} {g o : Nat} {cs : Array Value} {T : TypeId} (h : W.heap[g]? = some (.cells cs T)) : W.frozen? ⟨g, o, none⟩ = false := by simp [World.frozen?, h]
structure Grw (w : World) (n : Nd) (ks : List (Tr Nd)) (k : Nat) (wr : World) : Prop where
 gr : ∃ (vk : Value) (ps : List (Option Addr)), wr.heap[w.heap.size]? = some (treeO n n.many vk) ∧ Own ptc 1 61 (w.heap.size + 1) wr vk ps ∧ TrsS (fun b => w.heap.size < b ∧ vk.ownBlock ≠ some b) wr (ks.take k) (ps.map Value.pointer)
 bl : Below w.heap.size w wr
 sz : w.heap.size < wr.heap.size
theorem heap_setCell_tree {W : World} {g : Nat} {n : Nd} {m : Int} {v v' : Value} (h : W.heap[g]? = some (treeO n m v)) : (W.setCell ⟨g, 6, none⟩ v').heap[g]? = some (treeO n m v') := by
 simp [World.setCell, Array.getElem?_modify, h]
theorem Own.other {α : Type} {enc : α → List Value} {sz E base : Nat} {w : World} {v u : Value} {l : List α} {a : Addr} (h : Own enc sz E base w v l) (ha : a.block < base) : Own enc sz E base (w.setCell a u) v l := ownsRow_setCell_below h ha u
theorem Grw.step {w wr w1 w2 : World} {n : Nd} {ks : List (Tr Nd)} {k : Nat} {u : Tr Nd} {vk v2 : Value} {ps : List (Option Addr)} {g1 : Nat} (hu : ks[k]? = some u) (hsz : w.heap.size < wr.heap.size)
  (hown : Own ptc 1 61 (w.heap.size + 1) wr vk ps) (hb1 : Below wr.heap.size wr w1) (hbl : Below w.heap.size w w1) (hblk : w1.heap[w.heap.size]? = some (treeO n n.many vk))
  (htrs : TrsS (fun b => w.heap.size < b ∧ vk.ownBlock ≠ some b) w1 (ks.take k) (ps.map Value.pointer)) (ht : TrS (fun b => wr.heap.size ≤ b) w1 u (.pointer (some ⟨g1, 0, none⟩)))
  (hown2 : Own ptc 1 61 (w.heap.size + 1) w2 v2 (ps ++ [some ⟨g1, 0, none⟩])) (cs : Array Value) (E : TypeId) (hg2 : (w1.alloc (.cells cs E)).grownBy w2 vk.ownBlock) (hat : v2.ownBlock = vk.ownBlock ∨ v2.ownBlock = some (w1.alloc (.cells cs E)).heap.size) :
  Grw w n ks (k + 1) (w2.setCell ⟨w.heap.size, 6, none⟩ v2) := by
 have hs1 : w.heap.size < w1.heap.size := Nat.lt_of_lt_of_le hsz hb1.size
 have hs2 : (w1.alloc (.cells cs E)).heap.size ≤ w2.heap.size := hg2.size
 have hsa : (w1.alloc (.cells cs E)).heap.size = w1.heap.size + 1 := by simp
 have hne : vk.ownBlock ≠ some w.heap.size := fun e => by have := (World.ownsRow.lt hown _ e).1; omega
 have hblk2 : w2.heap[w.heap.size]? = some (treeO n n.many vk) := by
  rw [hg2.block _ (by omega) (fun e => hne e.symm), Below.heap_alloc _ _ _ hs1]; exact hblk
 have hkeep : ∀ b, w.heap.size < b → vk.ownBlock ≠ some b → b < w1.heap.size → (w2.setCell ⟨w.heap.size, 6, none⟩ v2).heap[b]? = w1.heap[b]? := fun b h1 h2 h3 => by
  rw [Below.heap_setCell _ _ _ _ (by show b ≠ w.heap.size; omega), hg2.block b (by omega) (fun e => h2 e.symm), Below.heap_alloc _ _ _ h3]
 have hnew : ∀ b, vk.ownBlock ≠ some b → b < w1.heap.size → v2.ownBlock ≠ some b := fun b h1 h2 e => by
  rcases hat with h | h
  ·exact h1 (h ▸ e)
  ·rw [h] at e; injection e with e; omega
 have hszs : w1.heap.size ≤ (w2.setCell ⟨w.heap.size, 6, none⟩ v2).heap.size := by simp [World.setCell]; omega
 refine ⟨⟨v2, ps ++ [some ⟨g1, 0, none⟩], heap_setCell_tree hblk2, hown2.other (by show w.heap.size < _; omega), ?_⟩, ?_, by simp [World.setCell]; omega⟩
 ·rw [List.take_add_one, hu, List.map_append]
  refine TrsS_append (TrsS.mono (fun b hb h => h) ((TrsS.same hszs (fun b h hb => hkeep b h.1 h.2 hb) (TrsS.mono (S' := fun b => (w.heap.size < b ∧ vk.ownBlock ≠ some b) ∧ b < w1.heap.size) (fun b hb h => ⟨h, hb⟩) htrs |> TrsS.mono (fun b _ h => h.1))) |> fun h => ?_)) ?_
  ·exact TrsS.same hszs (fun b h hb => hkeep b h.1.1 h.1.2 hb) (TrsS.mono (S' := fun b => (w.heap.size < b ∧ vk.ownBlock ≠ some b) ∧ v2.ownBlock ≠ some b) (fun b hb h => ⟨h, hnew b h.2 hb⟩) htrs) |> TrsS.mono (fun b _ h => ⟨h.1.1, h.2⟩)
  ·refine TrsS_cons.2 ⟨?_, TrsS_nil⟩
   have h5 : ∀ b, wr.heap.size ≤ b → vk.ownBlock ≠ some b := fun b h e => by have := (World.ownsRow.lt hown _ e).2; omega
   exact TrS.same hszs (fun b h hb => hkeep b (by have := h.1; omega) (h5 b h.1) hb) (TrS.mono (S' := fun b => wr.heap.size ≤ b ∧ v2.ownBlock ≠ some b) (fun b hb h => ⟨h, hnew b (h5 b h) hb⟩) ht) |> TrS.mono (fun b _ h => ⟨by have := h.1; omega, h.2⟩)
 ·refine hbl.trans ?_
  have h6 : Below w.heap.size w1 w2 := ((Below.refl w.heap.size w1).alloc (by omega) (.cells cs E)).trans ((Below.refl _ _).grown hg2 (by omega) (fun j e => by have := (World.ownsRow.lt hown _ e).1; omega))
  exact h6.setCell (p := ⟨w.heap.size, 6, none⟩) (Nat.le_refl _) _
theorem evGrown_any : ∀ (N : Nat) (t : Tr Nd) (r : List Nd) (v : Value) (w : World), (flat t).length ≤ N → okT many t → Nds w v (flat t ++ r) → (flat t ++ r).length ≤ 1000000000000 →
  Calls Tryz.prog 54 #[v] w fun e w' => ∃ (g : Nat) (A : Option Addr) (c : Nat), e = .returned (.tuple #[.pointer (some ⟨g, 0, none⟩), .slice A r.length c]) ∧ (∀ W, Nds W v (flat t ++ r) → Nds W (.slice A r.length c) r) ∧ TrS (fun b => w.heap.size ≤ b) w' t (.pointer (some ⟨g, 0, none⟩)) ∧ Below w.heap.size w w'
 | 0, t, r, v, w, hN, _, _, _ => absurd (flat_pos t) (by omega)
 | N + 1, .mk n ks, r, v, w, hN, ho, hv, hl => by
  obtain ⟨h1, h2⟩ := okT_mk.1 ho
  have h1' : n.many = ks.length := h1
  rw [flat_mk, List.cons_append] at hv hl ⊢
  obtain ⟨g, o, c, rfl, hc, hcm, hg, hx⟩ := hv.opened (by simp)
  have HV := Lib.hid hv
  obtain ⟨a0, a1, a2, a3, a4, a5⟩ := (hx 0 n rfl).nd
  simp only [Nat.zero_mul, Nat.add_zero] at a0 a1 a2 a3 a4 a5
  have HKS := Lib.hid h2
  have HM := Lib.hid h1'
  clear hv hx h1 h2 ho h1'
  rw [List.length_cons] at hc ⊢
  rw [List.length_cons] at hl
  generalize hq : (flats ks ++ r).length = q at *
  have HQ := Lib.hid hq
  clear hq
  have hne : ¬ ((q : Int) + 1 = 0) := by omega
  go_enter Tryz.func54, Tryz.ntmps54
  have HG0 : Hid (Grw w n ks 0 (w.alloc (treeO n n.many (.slice none 0 0))).drew) := Lib.hid
   ⟨⟨.slice none 0 0, [], heap_alloc_new w _, Own.nil _, TrsS_nil⟩, ((Below.refl _ _).alloc (Nat.le_refl _) _).drew, by simp⟩
  have HR0 : Hid (∃ A d, (∀ W, Nds W (.slice (some ⟨g, o, none⟩) (q + 1) c) (n :: (flats ks ++ r)) → Nds W (.slice A q d) (flats ks ++ r)) ∧ (if c = 1 then A = some ⟨g, o, none⟩ ∧ d = 0 else A = some ⟨g, o + 6, none⟩ ∧ d = c - 1)) := Lib.hid (by
   by_cases hc1 : c = 1
   ·have hq0 : q = 0 := by omega
    have hnil : flats ks ++ r = [] := List.eq_nil_of_length_eq_zero (by rw [HQ.out]; exact hq0)
    refine ⟨some ⟨g, o, none⟩, 0, fun W _ => ?_, by simp [hc1]⟩
    rw [hnil, hq0]
    exact Row.empty _ _ 0 (Nat.zero_le _)
   ·refine ⟨some ⟨g, o + 6, none⟩, c - 1, fun W hW => ?_, by simp [hc1]⟩
    have hW2 : Nds W (.slice (some ⟨g, o, none⟩) (n :: (flats ks ++ r)).length c) (n :: (flats ks ++ r)) := by rw [List.length_cons, HQ.out]; exact hW
    have := Row.pc hW2 1 q (c - 1) (by rw [List.length_cons, HQ.out]; omega) (by omega) (by omega)
    simpa [HQ.out, List.take_of_length_le] using this)
  obtain ⟨AR, dR, hR0, hif⟩ := HR0.out
  have HRR := Lib.hid hR0
  clear hR0 HR0
  have z1 : (1 : Int) ≤ (q : Int) + 1 := by omega
  have z2 : (0 : Int) ≤ (q : Int) := by omega
  go_upto_region 3 with fail
  go_cut [4, 5] (fun p x wx => p = .pointer (some ⟨w.heap.size, 0, none⟩) ∧ x = .slice AR q dR ∧ Hid (Grw w n ks 0 wx))
  case first =>
   by_cases hc1 : c = 1
   ·rw [if_pos hc1] at hif
    obtain ⟨rfl, rfl⟩ := hif
    subst hc1
    have hq0 : q = 0 := by omega
    subst hq0
    go_region
    all_goals go_wp2_with fail
    all_goals go_meet
    all_goals exact ⟨rfl, rfl, HG0⟩
   ·rw [if_neg hc1] at hif
    obtain ⟨rfl, rfl⟩ := hif
    have z3 : 1 ≤ c := by omega
    have z4 : ¬ (1 = c) := by omega
    go_region
    all_goals go_wp2_with fail
    all_goals go_meet
    all_goals exact ⟨rfl, rfl, HG0⟩
  case rest =>
   obtain ⟨rfl, rfl, HG1⟩ := hcut
   have hN2 : (flats ks).length ≤ N := by rw [flat_mk, List.length_cons] at hN; omega
   generalize hK : ks.length = K at *
   have HK := Lib.hid hK
   clear hK hif HG0
   clear hc z1 z2 a0 a1 a2 a3 a4 a5 hne
   have hKb : K ≤ 1000000000000 := by
    have h1 := flats_len ks
    have h2 := congrArg id HQ.out
    simp at h2
    rw [HK.out] at h1; omega
   go_wp2_with fail
   go_loopw [5, 6] (fun rv iv wr => ∃ (k m d : Nat) (A : Option Addr), k ≤ K ∧ iv = .int .i64 k ∧ rv = .slice A m d ∧ Hid (m = (flats (ks.drop k) ++ r).length) ∧ Hid (∀ W, Nds W (.slice (some ⟨g, o, none⟩) (q + 1) c) (n :: (flats ks ++ r)) → Nds W (.slice A m d) (flats (ks.drop k) ++ r)) ∧ Hid (Grw w n ks k wr)) (fun _ iv _ => K - (intOf iv).toNat)
   case atStart => exact ⟨0, q, dR, AR, Nat.zero_le _, rfl, rfl, Lib.hid HQ.out.symm, HRR, HG1⟩
   case round =>
    obtain ⟨k, m, d, A, hk, rfl, rfl, HML, HRW, HGR⟩ := hrel
    obtain ⟨⟨vk, ps, hblk, hown, htrs⟩, hbl, hsz⟩ := HGR.out
    have c1 : wr.cell? ⟨w.heap.size, 1, none⟩ = some (.int .i64 (K : Nat)) := by
     have h9 : n.many = (K : Int) := HM.out
     rw [Lib.cell_of_heap hblk, ← h9]; rfl
    have c6 : wr.cell? ⟨w.heap.size, 6, none⟩ = some vk := by rw [Lib.cell_of_heap hblk]; rfl
    by_cases hlt : k < K
    ·obtain ⟨u, hu⟩ : ∃ u, ks[k]? = some u := ⟨_, List.getElem?_eq_getElem (by rw [HK.out]; exact hlt)⟩
     have hd : ks.drop k = u :: ks.drop (k + 1) := by
      obtain ⟨h1, h2⟩ := List.getElem?_eq_some_iff.1 hu
      rw [← h2, List.getElem_cons_drop]
     have hsp : flats (ks.drop k) ++ r = flat u ++ (flats (ks.drop (k + 1)) ++ r) := by rw [hd, flats_cons, List.append_assoc]
     have hm0 : 0 < m := by rw [HML.out, hsp, List.length_append]; have := flat_pos u; omega
     have hum : u ∈ ks := List.mem_of_getElem? hu
     have hul : (flat u).length ≤ (flats ks).length := by
      have : ∀ l : List (Tr Nd), u ∈ l → (flat u).length ≤ (flats l).length := by
       intro l
       induction l with
       | nil => intro h; simp at h
       | cons x l ih =>
        intro h
        rw [flats_cons, List.length_append]
        rcases List.mem_cons.1 h with rfl | h
        ·omega
        ·have := ih h; omega
      exact this ks hum
     have hmb : m ≤ 1000000000000 := by
      have h0 : (flats (ks.drop k)).length ≤ (flats ks).length := by
       conv => rhs; rw [← List.take_append_drop k ks, flats_append, List.length_append]
       omega
      have h2 := congrArg id HQ.out
      simp at h2
      rw [HML.out, List.length_append]; omega
     have HIH := Lib.hid (evGrown_any N u (flats (ks.drop (k + 1)) ++ r) (.slice A m d) wr (by omega) (okTs_all.1 HKS.out u hum) (by have h := HV.out.below hbl; rw [List.length_cons, HQ.out] at h; rw [← hsp]; exact HRW.out _ h) (by rw [← hsp, ← HML.out]; exact hmb))
     have HU := Lib.hid hu
     have HSP := Lib.hid hsp
     clear hd hsp hum hul hu
     go_wp2_with fail
     refine HIH.out.mono ?_
     rintro e w1 ⟨g1, A1, d1, rfl, hr1, ht1, hb1⟩
     generalize hm1 : (flats (ks.drop (k + 1)) ++ r).length = m1 at *
     have HM1 := Lib.hid hm1
     clear hm1
     have HR1 := Lib.hid hr1
     have HT1 := Lib.hid ht1
     have HB1 := Lib.hid hb1
     have hblk1 : w1.heap[w.heap.size]? = some (treeO n n.many vk) := (hb1.block _ hsz).trans hblk
     have e6 : w1.cell? ⟨w.heap.size, 6, none⟩ = some vk := by rw [Lib.cell_of_heap hblk1]; rfl
     have f6 := frozen_of_heap (o := 6) hblk1
     have HOW := Lib.hid hown
     have HO1 := Lib.hid (hown.below hb1)
     have HTS1 := Lib.hid (htrs.below hb1)
     have HBK1 := Lib.hid hblk1
     have HBL1 := Lib.hid (hbl.trans (hb1.mono hbl.size))
     obtain ⟨Av, dv, rfl, -, -, -⟩ := hown.form
     clear hr1 ht1 hb1 hblk hblk1 hown htrs hbl c1 c6
     have HOA := Lib.hid (HO1.out.alloc (.cells #[.pointer (some ⟨g1, 0, none⟩)] 61))
     have HRL : Hid (Row ptc 1 (w1.alloc (.cells #[.pointer (some ⟨g1, 0, none⟩)] 61)) (.slice (some ⟨w1.heap.size, 0, none⟩) 1 1) [some ⟨g1, 0, none⟩]) := Lib.hid (Row.lit ptc_len w1 61 #[.pointer (some ⟨g1, 0, none⟩)] [some ⟨g1, 0, none⟩] (by show 1 ≤ maxLen; decide) rfl)
     have HPS : Hid (ps.length ≤ 1000000000000) := Lib.hid (by have := TrsS_len HTS1.out; simp at this; omega)
     have HSZ1 : Hid (w.heap.size < w1.heap.size) := Lib.hid (Nat.lt_of_lt_of_le hsz HB1.out.size)
     go_wp2_with (at_builtin; refine wpList_append_row (base := w.heap.size + 1) elTree rfl _ _ rfl rfl HOA.out rfl HRL.out ?_ ?_ ?_ ?_)
     ·have := HPS.out; unfold maxLen; simp only [List.length_singleton]; omega
     ·have := HPS.out; simp only [List.length_singleton]; omega
     ·have := HSZ1.out; simp; omega
     intro A2 c2 w2 hown2 hg2 hat2
     have HST := Lib.hid (Grw.step HU.out hsz HOW.out HB1.out HBL1.out HBK1.out HTS1.out HT1.out hown2 _ _ hg2 (hat2.imp id (fun h => h.trans (by simp))))
     have hs1 := HSZ1.out
     have hnv : (Value.slice Av ps.length dv).ownBlock ≠ some w.heap.size := fun e => by have := (World.ownsRow.lt HOW.out _ e).1; omega
     have hblk2 : w2.heap[w.heap.size]? = some (treeO n n.many (.slice Av ps.length dv)) := by
      rw [hg2.block _ (by simp; omega) (fun e => hnv e.symm), Below.heap_alloc _ _ _ hs1]; exact HBK1.out
     have e62 : w2.cell? ⟨w.heap.size, 6, none⟩ = some (.slice Av ps.length dv) := by rw [Lib.cell_of_heap hblk2]; rfl
     have f62 := frozen_of_heap (o := 6) hblk2
     have HRF : Hid (∀ W, Nds W (.slice (some ⟨g, o, none⟩) (q + 1) c) (n :: (flats ks ++ r)) → Nds W (.slice A1 m1 d1) (flats (ks.drop (k + 1)) ++ r)) := Lib.hid (fun W hW => HR1.out W (by rw [← HSP.out]; exact HRW.out W hW))
     clear hown2 hg2 hat2 hblk2 hnv
     go_wp2_with fail
     go_wp2_with fail
     go_roundw
     ·exact ⟨k + 1, _, d1, A1, hlt, by push_cast; rfl, rfl, Lib.hid HM1.out.symm, HRF, HST⟩
     ·simp [intOf]; omega
    ·have hkK : k = K := by omega
     have HE : Hid (m = r.length) := Lib.hid (by rw [HML.out, List.drop_of_length_le (by rw [HK.out]; omega)]; simp)
     obtain ⟨Av, dv, rfl, -, -, -⟩ := hown.form
     go_wp2_with fail
     go_ret2
     refine ⟨w.heap.size, A, d, by rw [HE.out]; rfl, fun W hW => ?_, TrS_mk.2 ⟨w.heap.size, n.many, .slice Av ps.length dv, ps.map Value.pointer, rfl, Nat.le_refl _, hsz, ?_, c6, own_rowS hown ?_, ?_⟩, hbl⟩
     ·have := HRW.out W hW
      rwa [List.drop_of_length_le (by rw [HK.out]; omega), flats_nil, List.nil_append, HE.out] at this
     ·exact ⟨by rw [Lib.cell_of_heap hblk]; rfl, by rw [Lib.cell_of_heap hblk]; rfl, by rw [Lib.cell_of_heap hblk]; rfl, by rw [Lib.cell_of_heap hblk]; rfl, by rw [Lib.cell_of_heap hblk]; rfl, by rw [Lib.cell_of_heap hblk]; rfl⟩
     ·intro b hb
      have := (World.ownsRow.lt hown b hb).1
      omega
     ·have h5 := htrs.mono (S' := fun b => w.heap.size ≤ b) (fun b _ h => Nat.le_of_lt h.1)
      rwa [List.take_of_length_le (by rw [HK.out]; omega)] at h5
end
section
open Go.RowKit Go.Shelf Np Rw Vp Pw Ev
theorem evGrow_any (t : Tr Nd) (v : Value) (w : World) (ho : okT many t) (hv : Nds w v (flat t)) (hl : (flat t).length ≤ 1000000000000) :
  Calls Tryz.prog 25 #[v] w fun e w' => ∃ g : Nat, e = .returned (.pointer (some ⟨g, 0, none⟩)) ∧ TrS (fun b => w.heap.size ≤ b) w' t (.pointer (some ⟨g, 0, none⟩)) ∧ Below w.heap.size w w' := by
 have HC := Lib.hid (evGrown_any (flat t).length t [] v w (Nat.le_refl _) ho (by rw [List.append_nil]; exact hv) (by rw [List.append_nil]; exact hl))
 clear hv ho
 go_enter Tryz.func25, Tryz.ntmps25
 go_wp2_with fail
 refine HC.out.mono ?_
 rintro e w1 ⟨g, A, c, rfl, -, ht, hb⟩
 have HT := Lib.hid ht
 have HB := Lib.hid hb
 clear ht hb HC
 go_wp2_with fail
 go_ret
 exact ⟨g, rfl, HT.out, HB.out⟩
end
section
open Go.RowKit Go.Shelf Np Rw Vp Pw Ev
attribute [local go_sem] Oper.semAt_some
def bwds : List (Option Addr) → List (Nat × Option Addr)
 | ps => (List.range ps.length).reverse.map fun i => (i, (ps[i]?).join)
theorem bwds_len (ps : List (Option Addr)) : (bwds ps).length = ps.length := by simp [bwds]
theorem bwds_at {ps : List (Option Addr)} {pre post : List (Nat × Option Addr)} {x : Nat × Option Addr} (h : bwds ps = pre ++ x :: post) : x.1 = post.length ∧ (ps.map Value.pointer)[post.length]? = some (.pointer x.2) := by
 have hl : pre.length + (post.length + 1) = ps.length := by have := congrArg List.length h; rw [bwds_len] at this; simpa using this.symm
 have hx : (bwds ps)[pre.length]? = some x := by rw [h]; simp
 simp only [bwds, List.getElem?_map] at hx
 rw [List.getElem?_reverse (by rw [List.length_range]; omega), List.length_range, List.getElem?_range (by omega)] at hx
 have e1 : ps.length - 1 - pre.length = post.length := by omega
 rw [e1] at hx
 have h2 : ps[post.length]? = some ps[post.length] := List.getElem?_eq_getElem (by omega)
 simp only [Option.map_some, Option.some.injEq, h2, Option.join_some] at hx
 rw [← hx]
 refine ⟨rfl, ?_⟩
 rw [List.getElem?_map, h2]; rfl
theorem bwds_snd (ps : List (Option Addr)) : (bwds ps).map (·.2) = ps.reverse := by
 apply List.ext_getElem?
 intro i
 simp only [bwds, List.map_map, List.getElem?_map]
 by_cases h : i < ps.length
 ·rw [List.getElem?_reverse (by rw [List.length_range]; exact h), List.length_range, List.getElem?_range (by omega), List.getElem?_reverse h]
  simp only [Option.map_some, Function.comp]
  rw [List.getElem?_eq_getElem (by omega)]; rfl
 ·rw [List.getElem?_eq_none (by simp; omega), List.getElem?_eq_none (by simp; omega)]; rfl
theorem bwd1_in (n : Nat) (hn : 1 ≤ n) (l Bn n₀ : Nat) (v : Value) (ps : List (Option Addr)) (J Jx : List (Nat × Option Addr) → World → Prop) (hlen : ps.length ≤ 2000000000000)
  (hY : ∀ pre x W, J pre W → pre.length < ps.length → YieldAt Fence.wide (n - 1) Tryz.prog l #[.int .i64 (x.1 : Nat), .pointer x.2] W fun e W' =>
   (e = .returned (.bool true) ∧ J (pre ++ [x]) W' ∧ Kq n₀ Bn W W') ∨ (e = .returned (.bool false) ∧ Jx (pre ++ [x]) W'))
  (W : World) (hJ : AbidesFrom W.heap.size J) (hBx : Boxed W Bn 122 v) (hL : RowS (fun b => b < n₀) W v (ps.map .pointer)) (h0 : J [] W) :
  CallsIn Fence.wide n Tryz.prog 141 #[.func (.yield l) #[] #[], .pointer (some ⟨Bn, 0, none⟩)] W fun e W' => (∃ v, e = .returned v) ∧
   ((∃ ys, ys = bwds ps ∧ J ys W') ∨ (∃ pre, pre <+: bwds ps ∧ Jx pre W')) := by
 obtain ⟨A, c, rfl, hc, hcm, hA, hx⟩ := hL
 rw [List.length_map] at hc hx hBx
 have hBn := hBx.cell
 have HX := Lib.hid hx
 have HJ := Lib.hid hJ
 have HY := Lib.hid hY
 have HBW := Lib.hid hBx
 clear hx hJ hY hBx
 generalize hN : ps.length = N at *
 have HN := Lib.hid hN; clear hN
 refine callsIn_of_wp Tryz.func141 rfl trivial ?_ rfl
 simp only [Tryz.ntmps141, List.size_toArray, List.length_cons, List.length_nil, Nat.reduceAdd, Nat.reduceSub, Array.replicate_succ, Array.replicate_zero, List.push_toArray, List.append_toArray, List.nil_append, List.cons_append]
 gi_wp2_with fail
 gi_loopw [3] (fun s3 wr => ∃ (pre post : List (Nat × Option Addr)), bwds ps = pre ++ post ∧ s3 = .int .i64 ((post.length : Int) - 1) ∧ J pre wr ∧ Kq n₀ Bn W wr)
  (fun s3 _ => (intOf s3 + 1).toNat)
 case atStart =>
  exact ⟨[], bwds ps, rfl, by rw [bwds_len, HN.out], h0, Kq.refl _ _ _⟩
 case round =>
  obtain ⟨pre, post, hxs, rfl, hJs, hbw⟩ := hrel
  have HXS := Lib.hid hxs
  have HJS := Lib.hid hJs
  have hcell := box_same HBW.out hbw.2
  have hpx : pre.length + post.length = N := by have := congrArg List.length hxs; rw [bwds_len, HN.out] at this; simpa using this.symm
  cases post with
  | nil =>
   have HE : Hid (bwds ps = pre) := Lib.hid (by simpa using hxs)
   clear hxs hJs hpx
   rw [show (((([] : List (Nat × Option Addr)).length : Nat) : Int) - 1) = -1 from rfl]
   gi_wp2_with fail
   go_end0
   exact ⟨⟨_, rfl⟩, .inl ⟨pre, HE.out.symm, HJS.out⟩⟩
  | cons x post' =>
   rw [List.length_cons] at hpx ⊢
   obtain ⟨hx1, hx2⟩ := bwds_at hxs
   obtain ⟨g, o, rfl, hgn, hgW, hcx⟩ := HX.out (by omega)
   have hcl : wr.cell? ⟨g, o + post'.length, none⟩ = some (.pointer x.2) := (World.cell?_of_block (w := W) (a := ⟨g, o + post'.length, none⟩) (hbw.1.block g hgn)).trans (hcx _ _ hx2)
   have e1 : ((post'.length + 1 : Nat) : Int) - 1 = (post'.length : Int) := by omega
   rw [e1]
   have HPL : Hid (pre.length < ps.length) := Lib.hid (by rw [HN.out]; omega)
   obtain ⟨fn, tmps, assign, body, hy, hR⟩ := HY.out pre x wr HJS.out (HN.out ▸ HPL.out)
   rw [hx1] at hy
   have HR := Lib.hid hR
   have HBWr := Lib.hid hbw
   have hlt : post'.length < N := by omega
   clear hR hbw hcx hx2 hx1 hxs hJs
   generalize hQ : post'.length = q at *
   have HQ := Lib.hid hQ
   clear hQ
   gi_wp2_with fail
   refine HR.out.mono ?_
   rintro e W3 (⟨rfl, hJ3, hk3⟩ | ⟨rfl, hJx3⟩)
   ·have HJ3 := Lib.hid hJ3
    have HB3 := Lib.hid (HBWr.out.trans hk3)
    clear hJ3 hk3 hy
    gi_wp2_with fail
    all_goals
     go_roundw
     case rel => exact ⟨pre ++ [x], post', by rw [HXS.out]; simp, by rw [HQ.out], HJ3.out, HB3.out⟩
     case measure => simp [intOf]
   ·have HJX := Lib.hid hJx3
    clear hJx3 hy
    gi_wp2_with fail
    refine bodyPost_ret (results_none rfl _ _ _) rfl ?_
    exact ⟨⟨_, rfl⟩, .inr ⟨pre ++ [x], ⟨post', by rw [HXS.out]; simp⟩, HJX.out⟩⟩
theorem bwd_in (n : Nat) (A : Option Addr) (m c : Nat) (w : World) :
  CallsIn Fence.wide n Tryz.prog 100 #[.slice A m c] w fun e w' => e = .returned (.func (.func 141) #[] #[.pointer (some ⟨w.heap.size, 0, none⟩)]) ∧ w' = w.alloc (.cells #[.slice A m c] 122) := by
 refine callsIn_of_wp Tryz.func100 rfl trivial ?_ rfl
 simp only [Tryz.ntmps100, List.size_toArray, List.length_cons, List.length_nil, Nat.reduceAdd, Nat.reduceSub, Array.replicate_succ, Array.replicate_zero, List.push_toArray, List.append_toArray, List.nil_append, List.cons_append]
 gi_wp2
 go_ret
 exact ⟨rfl, rfl⟩
theorem bwd_stops (n : Nat) (hn : 1 ≤ n) (Bn n₀ : Nat) (v : Value) (ps : List (Option Addr)) (hlen : ps.length ≤ 2000000000000) (w : World) (hc : Boxed w Bn 122 v) (_hg : n₀ ≤ w.heap.size) (hL : RowS (fun b => b < n₀) w v (ps.map .pointer)) :
  SeqStopsK Fence.wide n Tryz.prog 141 #[.pointer (some ⟨Bn, 0, none⟩)] (fun x : Nat × Option Addr => #[.int .i64 (x.1 : Nat), .pointer x.2]) (Kq n₀ Bn) (fun ys => ys = bwds ps) (fun pre => pre <+: bwds ps) ps.length w := fun l J Jx W hW hJ _ hY h0 =>
 bwd1_in n hn l Bn n₀ v ps J Jx hlen hY W hJ ((hW.block Bn hc.lt).trans hc) (hL.same hW.size fun b _ hb => hW.block b hb) h0
end
end Go.Proofs.YtldioobbfkaebaaGreatDoor
