/-
  Joined: ValW11, ValW6.
-/
import Derived.Test.YtbgciajfjllciaaGreatDoorTextDeepJ6
import Derived.IntWalk
import Derived.StillTailTactics
import Derived.RangeFuncNested
import Derived.RangeFuncBound
import Derived.RangeFuncCalls
import Derived.RangeFuncLeaves
import Derived.RangeFuncBox
import Derived.Shelf.Abstract
import Derived.Shelf.RegionOpen
import Derived.OwnWalkIn
import Derived.TacticsInMore
import Derived.LoopNIn
import Derived.LoopIn

/-
  What val's Object answers.
-/
namespace Go.Proofs.YtbgciajfjllciaaGreatDoor
open Go.RowKit Np Rw Vp

/-- What val.Object hands back. -/
def GivesO (w : World) (names : List (List UInt8)) (L : List (List Nd)) (e : Ending) (w' : World) : Prop := ∃ v', e = .returned (.tuple #[v', .int .i64 (objE names L)]) ∧ OwnN w.heap.size w' v' (objV names L) ∧ Below w.heap.size w w'
theorem GivesO.bad {w w' : World} {names : List (List UInt8)} {L : List (List Nd)} {e : Ending} (h : objB names L = false) (he : e = .returned (.tuple #[.slice none 0 0, .int .i64 4])) (hb : Below w.heap.size w w') : GivesO w names L e w' :=
  ⟨_, by rw [objE, h]; exact he, by rw [objV, h]; exact Own.nil _, hb⟩

/-- So far no name is wrong, or there twice. -/
def GoodTo (names : List (List UInt8)) (p : List Nat) (k : Nat) : Prop :=
  (∀ i j, i < k → p[i]? = some j → vld (atN names j) = true) ∧ (∀ i a b, i + 1 < k → p[i]? = some a → p[i + 1]? = some b → atN names a ≠ atN names b)

theorem GoodTo.next {names : List (List UInt8)} {p : List Nat} {k at_ : Nat} (h : GoodTo names p k) (ha : p[k]? = some at_) (hv : vld (atN names at_) = true) (hn : ∀ a, 0 < k → p[k - 1]? = some a → atN names a ≠ atN names at_) : GoodTo names p (k + 1) := by
  refine ⟨fun i j hi hj => ?_, fun i a b hi h1 h2 => ?_⟩
  · by_cases e : i = k
    · subst e; rw [ha] at hj; injection hj with hj; rw [← hj]; exact hv
    · exact h.1 i j (by omega) hj
  · by_cases e : i + 1 = k
    · subst e; rw [ha] at h2; injection h2 with h2; rw [← h2]; exact hn a (by omega) h1
    · exact h.2 i a b (by omega) h1 h2

set_option maxRecDepth 100000 in
set_option maxHeartbeats 4000000 in
theorem object_any (v u : Value) (names : List (List UInt8)) (L : List (List Nd)) (w : World) (hv : Sts w v names) (hu : Vls w u L) (hn : names.length ≤ 65536) (hb2 : (L.map List.length).sum ≤ 131072) (hsh : ∀ s ∈ names, s.length ≤ maxLen) (hT : Tabs w) :
    Calls Tryz.prog 67 #[v, u] w (GivesO w names L) := by
  have HV := Lib.hid hv
  have HU := Lib.hid hu
  have HT := Lib.hid hT
  have HSH := Lib.hid hsh
  clear hsh hT
  obtain ⟨us, hul, hu, hur⟩ := hu
  obtain ⟨A, c, rfl, hc, hcm, -, H⟩ := hv
  obtain ⟨A2, c2, rfl, hc2, hcm2, -, H2⟩ := hu
  by_cases hl : names.length = L.length
  · have hlu : us.length = names.length := by omega
    rw [hlu] at H2 HU hc2 ⊢
    have HL := Lib.hid hl
    have HH := Lib.hid H
    have HH2 := Lib.hid H2
    have HUL := Lib.hid hul
    have HUR := Lib.hid hur
    have HLU := Lib.hid hlu
    clear hl hul hlu H H2 hur
    generalize hnn : names.length = n at *
    have HN := Lib.hid hnn; clear hnn
    go_enter Tryz.func67, Tryz.ntmps67
    go_wp2_with (go_at_call 89; refine (byName_len _ names n _ HN.out HV.out hn).mono ?_; rintro e w1 ⟨PA, pc, p, rfl, hpv, hpl, hp, hB1⟩)
    have HPL := Lib.hid hpl
    have HP := Lib.hid hp
    have HB1 := Lib.hid hB1
    have HPV := Lib.hid hpv
    have HPX : Hid (0 < n → ∃ g o : Nat, PA = some ⟨g, o, none⟩ ∧ g < w1.heap.size ∧ ∀ k x, (p.map Int.ofNat)[k]? = some x → CellsAt w1 g (o + k * 1) (inc x)) := Lib.hid (fun h0 => by
      obtain ⟨g, o, c, h1, h2, h3, h4, h5⟩ := hpv.opened (by rw [List.length_map, hpl]; exact h0)
      injection h1 with e1 _ _
      exact ⟨g, o, e1, h4, h5⟩)
    clear hp hB1 hpv hpl
    go_loopw [22] (fun i wr => ∃ k : Nat, k ≤ n ∧ i = .int .i64 k ∧ Below w1.heap.size w1 wr ∧ GoodTo names p k) (fun i _ => n - (intOf i).toNat)
    case atStart => exact ⟨0, Nat.zero_le _, rfl, Below.refl _ _, ⟨fun i j h => by omega, fun i a b h => by omega⟩⟩
    case round =>
      obtain ⟨k, hk, rfl, hbr, hgood⟩ := hrel
      have HBR := Lib.hid hbr
      have HG := Lib.hid hgood
      have hBw : Below w.heap.size w wr := Below.after HB1.out hbr
      have HBW := Lib.hid hBw
      clear hbr hgood hBw
      by_cases hlt : k < n
      · obtain ⟨pg, po, rfl, hpg, hpx⟩ := HPX.out (by omega)
        obtain ⟨at_, hat⟩ : ∃ a, p[k]? = some a := ⟨_, List.getElem?_eq_getElem (by rw [HPL.out]; exact hlt)⟩
        have hatn : at_ < n := by have := HP.out.lt (List.mem_of_getElem? hat); rwa [HN.out] at this
        have hatx : names[at_]? = some (atN names at_) := by rw [atN, List.getD_eq_getElem?_getD, List.getElem?_eq_getElem (by rw [HN.out]; exact hatn)]; rfl
        obtain ⟨g, o, rfl, hg, hx⟩ := HH.out (by omega)
        have pc0 := (HBR.out.cell (p := ⟨pg, po + k, none⟩) hpg).trans (hpx k at_ (by rw [List.getElem?_map, hat]; rfl)).int
        have nc0 := (HBW.out.cell (p := ⟨g, o + at_, none⟩) hg).trans (hx at_ _ hatx).st
        have hatI : (at_ : Int) < n := by omega
        have HAT := Lib.hid hat
        have HVA : Hid ((ByteArray.mk (atN names at_).toArray).size ≤ maxLen) := Lib.hid (HSH.out _ (List.mem_of_getElem? hatx))
        have HTW : Hid (Tabs wr) := Lib.hid (HT.out.below HBW.out)
        clear hat hatx
        cases k with
        | zero =>
          have hk0 : decide ((0 : Int) < (0 : Nat)) = false := by simp
          have hk1 : decide ((0 : Nat) < 0) = false := by simp
          simp only [Int.natCast_zero, Nat.add_zero] at hk0 pc0 ⊢
          cases hvl : vld (atN names at_) with
          | false =>
            have HVL := Lib.hid hvl
            clear hvl
            go_wp2_with fail
            go_quiet (fail)
            go_wp2_with (go_at_call 90; refine (valid_any _ _ HVA.out (HTW.out.below (drewN_below (Below.refl _ _) _))).mono ?_; rintro e w2 ⟨rfl, hb2⟩; rw [show vld (ByteArray.mk (atN names at_).toArray).data.toList = false from HVL.out])
            go_ret2
            exact GivesO.bad (by rw [objB, HP.out.wrong (List.mem_of_getElem? HAT.out) HVL.out, Bool.and_false]) rfl (Below.after HBW.out (Below.after (drewN_below (Below.refl _ _) _) hb2))
          | true =>
            have HVL := Lib.hid hvl
            clear hvl
            go_wp2_with fail
            go_quiet (fail)
            go_wp2_with (go_at_call 90; refine (valid_any _ _ HVA.out (HTW.out.below (drewN_below (Below.refl _ _) _))).mono ?_; rintro e w2 ⟨rfl, hb2⟩; rw [show vld (ByteArray.mk (atN names at_).toArray).data.toList = true from HVL.out])
            go_roundw
            case rel => exact ⟨0 + 1, by omega, by go_num, Below.after HBR.out (Below.after (drewN_below (Below.refl _ _) _) hb2), HG.out.next HAT.out HVL.out (fun a h => by omega)⟩
            case measure => simp [intOf]; omega
        | succ k =>
          obtain ⟨pr, hpr⟩ : ∃ a, p[k]? = some a := ⟨_, List.getElem?_eq_getElem (by rw [HPL.out]; omega)⟩
          have hprn : pr < n := by have := HP.out.lt (List.mem_of_getElem? hpr); rwa [HN.out] at this
          have hprx : names[pr]? = some (atN names pr) := by rw [atN, List.getD_eq_getElem?_getD, List.getElem?_eq_getElem (by rw [HN.out]; exact hprn)]; rfl
          have qc0 := (HBR.out.cell (p := ⟨pg, po + k, none⟩) hpg).trans (hpx k pr (by rw [List.getElem?_map, hpr]; rfl)).int
          have mc0 := (HBW.out.cell (p := ⟨g, o + pr, none⟩) hg).trans (hx pr _ hprx).st
          have hprI : (pr : Int) < n := by omega
          have HPR := Lib.hid hpr
          clear hpr hprx hpx hx
          have hk0 : decide ((0 : Int) < (k + 1 : Nat)) = true := by simp
          have hk1 : decide (0 < k + 1) = true := by simp
          have hki : (k : Int) < n := by omega
          have hkn : k < n := by omega
          generalize hans : atN names at_ = nm at *
          generalize hbns : atN names pr = nb at *
          have HA := Lib.hid hans
          have HB := Lib.hid hbns
          clear hans hbns
          by_cases he : nb = nm
          · have HE := Lib.hid he
            subst he
            have hw1 : IntKind.i64.wrap ((k + 1 : Nat) - 1 : Int) = k := (IntWalk.i64_in _ (by omega)).trans (by omega)
            go_wp2_with fail
            go_quiet (fail)
            go_wp2_with fail
            go_ret2
            exact GivesO.bad (by rw [objB, HP.out.same HPR.out HAT.out (by rw [HA.out, HB.out]), Bool.and_false]) rfl (Below.after HBW.out (drewN_below (Below.refl _ _) _))
          · have hne : (nb == nm) = false := by simp [he]
            have hw1 : IntKind.i64.wrap ((k + 1 : Nat) - 1 : Int) = k := (IntWalk.i64_in _ (by omega)).trans (by omega)
            have HNE := Lib.hid he
            cases hvl : vld nm with
            | false =>
              have HVL := Lib.hid hvl
              clear hvl
              go_wp2_with fail
              go_quiet (fail)
              go_wp2_with (go_at_call 90; refine (valid_any _ _ HVA.out (HTW.out.below (drewN_below (Below.refl _ _) _))).mono ?_; rintro e w2 ⟨rfl, hb2⟩; rw [show vld (ByteArray.mk nm.toArray).data.toList = false from HVL.out])
              go_ret2
              exact GivesO.bad (by rw [objB, HP.out.wrong (List.mem_of_getElem? HAT.out) (by rw [HA.out]; exact HVL.out), Bool.and_false]) rfl (Below.after HBW.out (Below.after (drewN_below (Below.refl _ _) _) hb2))
            | true =>
              have HVL := Lib.hid hvl
              clear hvl
              go_wp2_with fail
              go_quiet (fail)
              go_wp2_with (go_at_call 90; refine (valid_any _ _ HVA.out (HTW.out.below (drewN_below (Below.refl _ _) _))).mono ?_; rintro e w2 ⟨rfl, hb2⟩; rw [show vld (ByteArray.mk nm.toArray).data.toList = true from HVL.out])
              go_roundw
              case rel => exact ⟨k + 1 + 1, by omega, by go_num, Below.after HBR.out (Below.after (drewN_below (Below.refl _ _) _) hb2), HG.out.next HAT.out (by rw [HA.out]; exact HVL.out) (fun a _ h => by
                have h' : p[k]? = some a := h
                rw [HPR.out] at h'
                injection h' with h'
                rw [← h', HA.out, HB.out]; exact HNE.out)⟩
              case measure => simp [intOf]; omega
      · obtain rfl : k = n := by omega
        have hgd := HP.out.good (fun i hi => by
            obtain ⟨j, hj, rfl⟩ := List.getElem_of_mem hi
            exact HG.out.1 j _ (by rw [← HPL.out]; exact hj) (List.getElem?_eq_getElem hj))
          (fun i a b h1 h2 => HG.out.2 i a b (by
            have := (List.getElem?_eq_some_iff.1 h2).1
            rw [HPL.out] at this; exact this) h1 h2)
        have HO : Hid (objB names L = true) := Lib.hid (by rw [objB, hgd.1, HN.out, HL.out]; simp)
        have HPA := Lib.hid (HP.out.pairs (L := L) (by rw [HN.out]; exact HL.out) hgd.2)
        clear hgd
        obtain ⟨wo, rfl⟩ : ∃ wo : World, wo = wr := ⟨_, rfl⟩
        have HVL : Hid (Vls wo (.slice A2 k c2) L) := Lib.hid (Rowz.below HU.out (HBW.out))
        have hb1 : L.length ≤ 65536 := by rw [← HL.out]; exact hn
        go_wp2_with (go_at_call 87; refine (head_any 6 _ L _ HVL.out (Nat.le_trans hb1 (by decide)) hb2).mono ?_; rintro e w2 ⟨v2, rfl, ho2, hB2⟩)
        have HO2 := Lib.hid ho2
        have HB2 := Lib.hid hB2
        clear ho2 hB2
        have hbs : w.heap.size ≤ wo.heap.size := HBW.out.size
        go_loopw [10, 58] (fun vv i w3 => ∃ j : Nat, j ≤ k ∧ i = .int .i64 j ∧ OwnN wo.heap.size w3 vv (hdN 6 L.length :: laid ((p.take j).map fun x => (atN names x, atL L x))) ∧ Below wo.heap.size wo w3) (fun _ i _ => k - (intOf i).toNat)
        case atStart => exact ⟨0, Nat.zero_le _, rfl, HO2.out, HB2.out⟩
        case round =>
          obtain ⟨j, hj, rfl, hown, hb3⟩ := hrel
          have HO3 := Lib.hid hown
          have HB3 := Lib.hid hb3
          have HBR3 : Hid (Below w1.heap.size w1 wr) := Lib.hid (Below.after HBR.out hb3)
          have HBW3 : Hid (Below w.heap.size w wr) := Lib.hid (Below.after HBW.out hb3)
          clear hown hb3
          by_cases hlt2 : j < k
          · obtain ⟨pg, po, rfl, hpg, hpx⟩ := HPX.out (by omega)
            obtain ⟨at_, hat⟩ : ∃ a, p[j]? = some a := ⟨_, List.getElem?_eq_getElem (by rw [HPL.out]; exact hlt2)⟩
            have hatn : at_ < k := by have := HP.out.lt (List.mem_of_getElem? hat); rwa [HN.out] at this
            have hatx : names[at_]? = some (atN names at_) := by rw [atN, List.getD_eq_getElem?_getD, List.getElem?_eq_getElem (by rw [HN.out]; exact hatn)]; rfl
            have hatl : L[at_]? = some (atL L at_) := by rw [atL, List.getD_eq_getElem?_getD, List.getElem?_eq_getElem (by rw [← HL.out]; exact hatn)]; rfl
            obtain ⟨g, o, rfl, hg, hx⟩ := HH.out (by omega)
            obtain ⟨g2, o2, rfl, hg2, hx2⟩ := HH2.out (by omega)
            obtain ⟨x, hux⟩ : ∃ a, us[at_]? = some a := ⟨_, List.getElem?_eq_getElem (by rw [HLU.out]; exact hatn)⟩
            have pc0 := (HBR3.out.cell (p := ⟨pg, po + j, none⟩) hpg).trans (hpx j at_ (by rw [List.getElem?_map, hat]; rfl)).int
            have nc0 := (HBW3.out.cell (p := ⟨g, o + at_, none⟩) hg).trans (hx at_ _ hatx).st
            have lc0 := (HBW3.out.cell (p := ⟨g2, o2 + at_, none⟩) hg2).trans (hx2 at_ _ hux).one
            have hatI : (at_ : Int) < k := by omega
            have HRX : Hid (Nds wr x (atL L at_)) := Lib.hid ((HUR.out at_ _ _ hux hatl).below HBW3.out)
            have HTK : Hid ((p.take (j + 1)).map (fun x => (atN names x, atL L x)) = (p.take j).map (fun x => (atN names x, atL L x)) ++ [(atN names at_, atL L at_)]) := Lib.hid (by rw [List.take_add_one, hat]; simp)
            have HLG : Hid ((hdN 6 L.length :: laid ((p.take j).map fun x => (atN names x, atL L x))).length + (atL L at_).length ≤ 200000) := Lib.hid (by
              have h1 := HP.out.long (L := L) (by rw [HN.out]; exact HL.out) (j + 1)
              rw [HTK.out, laid_snoc, List.length_append, setNm_len] at h1
              simp only at h1
              rw [List.length_cons]; omega)
            clear hat hatx hatl hx hx2 hpx hux
            go_wp2_with fail
            go_still_tail 9, (by kernel_rfl)
            change wpList _ _ _ _ _ wr.drew
            have HO4 : Hid (OwnN wo.heap.size wr.drew u10 (hdN 6 L.length :: laid ((p.take j).map fun x => (atN names x, atL L x)))) := Lib.hid HO3.out.drew
            have HR4 : Hid (Nds wr.drew x (atL L at_)) := Lib.hid (HRX.out.below (Below.refl _ _).drew)
            have HB5 : Hid (Below wo.heap.size wo wr.drew) := Lib.hid HB3.out.drew
            clear pc0 nc0 lc0
            generalize wr.drew = w4 at HO4 HR4 HB5 ⊢
            go_wp2_with (go_at_call 88; refine (lay_any wo.heap.size _ _ _ _ _ _ HO4.out HR4.out HB5.out.size HLG.out).mono ?_; rintro e w5 ⟨v5, rfl, ho5, hg5⟩)
            have HO5 := Lib.hid ho5
            have HG5 := Lib.hid hg5
            clear ho5 hg5
            go_roundw
            case rel => exact ⟨j + 1, by omega, by go_num, by rw [HTK.out, laid_snoc]; exact HO5.out, HB5.out.trans (HO4.out.kept HG5.out HB5.out.size)⟩
            case measure => simp [intOf]; omega
          · have HE : Hid (p.take j = p) := Lib.hid (List.take_of_length_le (by rw [HPL.out]; omega))
            go_wp2_with fail
            go_ret2
            refine ⟨_, by rw [objE, HO.out]; rfl, ?_, HBW3.out⟩
            rw [objV, HO.out, if_pos rfl, HPA.out, ← HE.out]
            exact HO3.out.mono HBW.out.size
  · have hne : ((names.length : Int) != us.length) = true := by simp; omega
    have HO : Hid (objB names L = false) := Lib.hid (by simp [objB, hl])
    clear hl hul H H2 hur
    generalize names.length = n at *
    generalize us.length = m at *
    go_enter Tryz.func67, Tryz.ntmps67
    go_wp2_with fail
    go_ret2
    exact GivesO.bad HO.out rfl (Below.refl _ _)
end Go.Proofs.YtbgciajfjllciaaGreatDoor

/-
  What val's rows tells, one by one: a value's parts, in order, each as it stands in the row.
-/
namespace Go.Proofs.YtbgciajfjllciaaGreatDoor
open Go.RowKit Go.Shelf Np Rw Vp
attribute [local go_sem] Oper.semAt_some

/-- A piece of a slice. -/
theorem Row.piece {α : Type} {enc : α → List Value} {sz g o c : Nat} {w : World} {l : List α} (h : Row enc sz w (.slice (some ⟨g, o, none⟩) l.length c) l) (k m : Nat) (hk : k + m ≤ l.length) :
    Row enc sz w (.slice (some ⟨g, o + k * sz, none⟩) m (c - k)) ((l.drop k).take m) := by
  obtain ⟨A, c', hv, hc, hm, -, H⟩ := h
  injection hv with e1 _ e3
  subst e1 e3
  have hl : ((l.drop k).take m).length = m := by simp; omega
  refine ⟨_, c - k, by rw [hl], by rw [hl]; omega, by omega, fun h => (by cases h), fun h0 => ?_⟩
  rw [hl] at h0
  obtain ⟨g', o', hA, hg, hx⟩ := H (by omega)
  injection hA with hA
  injection hA with e1 e2
  subst e1 e2
  refine ⟨g, o + k * sz, rfl, hg, fun i x hi => ?_⟩
  rw [List.getElem?_take] at hi
  split at hi
  · rw [List.getElem?_drop] at hi
    have := hx _ x hi
    rwa [Nat.add_mul, ← Nat.add_assoc] at this
  · cases hi
theorem Row.rest {α : Type} {enc : α → List Value} {sz g o c : Nat} {w : World} {l : List α} (h : Row enc sz w (.slice (some ⟨g, o, none⟩) l.length c) l) (k : Nat) (hk : k ≤ l.length) :
    Row enc sz w (.slice (some ⟨g, o + k * sz, none⟩) (l.length - k) (c - k)) (l.drop k) := by
  have := h.piece k (l.length - k) (by omega)
  rwa [List.take_of_length_le (by simp)] at this

/-- A part of a row: where it stands, and its tree. -/
abbrev Pt (L : List Nd) := { x : Nat × Tr Nd // okT many x.2 ∧ ∃ r, L.drop x.1 = flat x.2 ++ r }
abbrev ptv (g o c : Nat) {L : List Nd} (x : Pt L) : Value := .slice (some ⟨g, o + x.1.1 * 6, none⟩) (flat x.1.2).length (c - x.1.1)
def Spread (L : List Nd) : Nat → List (Tr Nd) → List (Pt L) → Prop
  | _, [], [] => True
  | p, t :: ts, x :: xs => x.1 = (p, t) ∧ Spread L (p + (flat t).length) ts xs
  | _, _, _ => False
theorem spread_ex {L : List Nd} : ∀ (ts : List (Tr Nd)) (p : Nat) (r : List Nd), okTs many ts → L.drop p = flats ts ++ r → ∃ xs, Spread L p ts xs
  | [], _, _, _, _ => ⟨[], trivial⟩
  | t :: ts, p, r, h, hd => by
    obtain ⟨h1, h2⟩ := okTs_cons.1 h
    rw [flats_cons, List.append_assoc] at hd
    obtain ⟨xs, hx⟩ := spread_ex ts (p + (flat t).length) r h2 (by rw [← List.drop_drop, hd, List.drop_left])
    exact ⟨⟨(p, t), h1, _, hd⟩ :: xs, rfl, hx⟩
theorem spread_trees {L : List Nd} : ∀ {ts : List (Tr Nd)} {p : Nat} {xs : List (Pt L)}, Spread L p ts xs → xs.map (fun x => x.1.2) = ts
  | [], _, [], _ => rfl
  | t :: ts, p, x :: xs, h => by
    obtain ⟨h1, h2⟩ := h
    rw [List.map_cons, spread_trees h2, h1]
  | [], _, _ :: _, h => h.elim
  | _ :: _, _, [], h => h.elim
theorem pt_row {L : List Nd} {w : World} {g o c : Nat} (h : Nds w (.slice (some ⟨g, o, none⟩) L.length c) L) (x : Pt L) : Nds w (ptv g o c x) (flat x.1.2) := by
  obtain ⟨⟨p, t⟩, h1, r, h2⟩ := x
  have hl := part_lt h2
  have := h.piece p (flat t).length hl
  rwa [h2, List.take_left] at this

/-- How long a slice is. -/
def lenS : Value → Nat
  | .slice _ n _ => n
  | _ => 0



end Go.Proofs.YtbgciajfjllciaaGreatDoor
