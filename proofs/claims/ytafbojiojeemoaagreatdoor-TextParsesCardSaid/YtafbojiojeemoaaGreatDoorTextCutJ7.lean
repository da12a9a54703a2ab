/-
  Joined: ShelfS, SortW, ValW11, Els, TxM2, VOpen.
-/
import Derived.Shelf.SlSortCmp.NoneTotal
import Derived.Test.YtafbojiojeemoaaGreatDoorProg
import Derived.Test.YtafbojiojeemoaaGreatDoorTextCutJ6
import Derived.Test.YtafbojiojeemoaaGreatDoorTextCutJ1
import Derived.IntWalk
import Derived.StillTailTactics
import Derived.Test.YtafbojiojeemoaaGreatDoorTextCutJ2
import Derived.Test.YtafbojiojeemoaaGreatDoorTextCutJ4
import Derived.ProofKit
import Derived.LaidMore
import Derived.OpenShut
import Derived.Lay
import Derived.Carry
import Derived.SevenTiedAt
import Derived.Stop.Joined
import Derived.Deep.Slices
import Derived.Deep.Fields

/-
  Contracts of library functions, at this translation.
-/
namespace Go.Proofs
open Go.Shelf
def Tryz.sortI_ren : Go.Shelf.Ren := ⟨fun | 6 => 156 | 15 => 186 | 14 => 185 | 28 => 219 | 29 => 207 | 20 => 211 | 21 => 212 | 22 => 213 | 23 => 214 | 24 => 215 | 25 => 216 | 26 => 217 | 27 => 218 | 46 => 230 | 47 => 231 | 48 => 232 | 49 => 233 | 50 => 234 | 57 => 236 | n => n, fun | 22 => 151 | 24 => 3 | 25 => 179 | 3 => 3 | 39 => 146 | 0 => 0 | 53 => 187 | 55 => 175 | 4 => 4 | 46 => 220 | 45 => 219 | 50 => 117 | 5 => 5 | 9 => 9 | 66 => 233 | 70 => 237 | 76 => 241 | 77 => 139 | n => n, fun | n => n⟩
theorem Tryz.sortI : Go.Proofs.SlLaysF.n6 Tryz.prog Tryz.sortI_ren := {
  mixed := by kernel_rfl
  f6 := ⟨Tryz.f156.name, by decide, Tryz.func156.trans (congrArg some (by kernel_rfl))⟩
  f14 := ⟨Tryz.f185.name, by decide, Tryz.func185.trans (congrArg some (by kernel_rfl))⟩
  f15 := Tryz.func186.trans (congrArg some (by kernel_rfl))
  f20 := ⟨Tryz.f211.name, by decide, Tryz.func211.trans (congrArg some (by kernel_rfl))⟩
  f21 := ⟨Tryz.f212.name, by decide, Tryz.func212.trans (congrArg some (by kernel_rfl))⟩
  f22 := ⟨Tryz.f213.name, by decide, Tryz.func213.trans (congrArg some (by kernel_rfl))⟩
  f23 := ⟨Tryz.f214.name, by decide, Tryz.func214.trans (congrArg some (by kernel_rfl))⟩
  f24 := ⟨Tryz.f215.name, by decide, Tryz.func215.trans (congrArg some (by kernel_rfl))⟩
  f25 := ⟨Tryz.f216.name, by decide, Tryz.func216.trans (congrArg some (by kernel_rfl))⟩
  f26 := ⟨Tryz.f217.name, by decide, Tryz.func217.trans (congrArg some (by kernel_rfl))⟩
  f27 := ⟨Tryz.f218.name, by decide, Tryz.func218.trans (congrArg some (by kernel_rfl))⟩
  f28 := Tryz.func219.trans (congrArg some (by kernel_rfl))
  f29 := Tryz.func207.trans (congrArg some (by kernel_rfl))
  f46 := ⟨Tryz.f230.name, by decide, Tryz.func230.trans (congrArg some (by kernel_rfl))⟩
  f47 := Tryz.func231.trans (congrArg some (by kernel_rfl))
  f48 := Tryz.func232.trans (congrArg some (by kernel_rfl))
  f49 := ⟨Tryz.f233.name, by decide, Tryz.func233.trans (congrArg some (by kernel_rfl))⟩
  f50 := ⟨Tryz.f234.name, by decide, Tryz.func234.trans (congrArg some (by kernel_rfl))⟩
  f57 := ⟨Tryz.f236.name, by decide, Tryz.func236.trans (congrArg some (by kernel_rfl))⟩
  t0 := Tryz.underlying0
  a0 := Tryz.isAgg0
  z0 := Tryz.sizeOf0
  v0 := Tryz.zeroValue0
  t3 := Tryz.underlying3
  a3 := Tryz.isAgg3
  z3 := Tryz.sizeOf3
  v3 := Tryz.zeroValue3
  t4 := Tryz.underlying4
  a4 := Tryz.isAgg4
  z4 := Tryz.sizeOf4
  v4 := Tryz.zeroValue4
  t5 := Tryz.underlying5
  a5 := Tryz.isAgg5
  z5 := Tryz.sizeOf5
  v5 := Tryz.zeroValue5
  t9 := Tryz.underlying9
  a9 := Tryz.isAgg9
  z9 := Tryz.sizeOf9
  v9 := Tryz.zeroValue9
  t22 := Tryz.underlying151
  a22 := Tryz.isAgg151
  z22 := Tryz.sizeOf151
  v22 := Tryz.zeroValue151
  a24 := Tryz.isAgg3
  z24 := Tryz.sizeOf3
  t25 := Tryz.underlying179
  a25 := Tryz.isAgg179
  z25 := Tryz.sizeOf179
  v25 := Tryz.zeroValue179
  t39 := Tryz.underlying146
  a39 := Tryz.isAgg146
  z39 := Tryz.sizeOf146
  v39 := Tryz.zeroValue146
  t45 := Tryz.underlying219
  a45 := Tryz.isAgg219
  z45 := Tryz.sizeOf219
  v45 := Tryz.zeroValue219
  t46 := Tryz.underlying220
  a46 := Tryz.isAgg220
  z46 := Tryz.sizeOf220
  v46 := Tryz.zeroValue220
  t50 := Tryz.underlying117
  a50 := Tryz.isAgg117
  z50 := Tryz.sizeOf117
  v50 := Tryz.zeroValue117
  t53 := Tryz.underlying187
  a53 := Tryz.isAgg187
  z53 := Tryz.sizeOf187
  v53 := Tryz.zeroValue187
  t55 := Tryz.underlying175
  a55 := Tryz.isAgg175
  z55 := Tryz.sizeOf175
  v55 := Tryz.zeroValue175
  t66 := Tryz.underlying233
  a66 := Tryz.isAgg233
  z66 := Tryz.sizeOf233
  v66 := Tryz.zeroValue233
  t70 := Tryz.underlying237
  a70 := Tryz.isAgg237
  z70 := Tryz.sizeOf237
  v70 := Tryz.zeroValue237
  t76 := Tryz.underlying241
  a76 := Tryz.isAgg241
  z76 := Tryz.sizeOf241
  v76 := Tryz.zeroValue241
  t77 := Tryz.underlying139
  a77 := Tryz.isAgg139
  z77 := Tryz.sizeOf139
  v77 := Tryz.zeroValue139 }
end Go.Proofs

/-
  What val.byName answers: the places of some names, so that the names rise.
-/
namespace Go.Proofs.YtafbojiojeemoaaGreatDoor
open Go.RowKit Go.Shelf Go.Lib Go.Sort Np

/-- A place's value. -/
def enF {m : Nat} (i : Fin (m + 1)) : Value := .int .i64 (i.val : Int)
theorem enF_one {m : Nat} : OneCell (enF (m := m)) := fun _ => rfl
def cfF (names : List (List UInt8)) {m : Nat} (i j : Fin (m + 1)) : Int := cmpB (atN names i.val) (atN names j.val)
theorem cmpB_neg (a b : List UInt8) : decide (cmpB a b < 0) = decide (a < b) := by
  have h1 := cmpB_lt a b
  have h3 : cmpB a b = -1 ∨ cmpB a b = 0 ∨ cmpB a b = 1 := by unfold cmpB; (repeat' split) <;> simp
  rw [decide_eq_decide, ← h1]
  omega
theorem ltF (names : List (List UInt8)) {m : Nat} (i j : Fin (m + 1)) : ltOf (cfF names) i j = decide (atN names i.val < atN names j.val) := cmpB_neg _ _
theorem swoF (names : List (List UInt8)) {m : Nat} : SWO (ltOf (cfF names (m := m))) where
  irrefl x := by rw [ltF]; simp [List.lt_irrefl]
  trans x y z h1 h2 := by rw [ltF] at *; simp only [decide_eq_true_eq] at *; exact List.lt_trans h1 h2
  ntrans x y z h1 h2 := by
    rw [ltF] at *; simp only [decide_eq_false_iff_not] at *
    intro h3
    exact absurd h3 (List.not_lt.2 (List.le_trans (List.not_lt.1 h2) (List.not_lt.1 h1)))

theorem idF_get {m : Nat} (j : Nat) (hj : j < m + 1) : (Array.ofFn (fun i : Fin (m + 1) => i))[j]! = ⟨j, hj⟩ := by
  rw [getElem!_pos _ j (by simpa using hj)]; simp
theorem extract_all {α : Type} (a : Array α) (k : Nat) (h : a.size = k) : (a.extract 0 k).toList = a.toList := by subst h; simp
theorem ofFn_range (n : Nat) : (Array.ofFn (fun i : Fin n => i)).toList.map (fun i : Fin n => i.val) = List.range n := by
  apply List.ext_getElem
  · simp
  · intro i h1 h2; rw [List.getElem_map, Array.getElem_toList, Array.getElem_ofFn, List.getElem_range]
/-- What the sort leaves, as places. -/
theorem places_of (names : List (List UInt8)) {m : Nat} (hn : names.length = m + 1) (d0 d' : Array (Fin (m + 1))) (h0 : d0 = Array.ofFn (fun i : Fin (m + 1) => i)) (hp : PermIn 0 d0.size d0 d')
    (hs : SortedIn (ltOf (cfF names)) 0 d0.size d') : d'.size = m + 1 ∧ Places names (d'.toList.map (·.val)) := by
  obtain ⟨h1, -, h3⟩ := hp
  have hsz : d0.size = m + 1 := by rw [h0, Array.size_ofFn]
  rw [extract_all d' d0.size h1, extract_all d0 d0.size rfl] at h3
  have h4 := h3.map (fun i : Fin (m + 1) => i.val)
  rw [h0, ofFn_range] at h4
  refine ⟨h1.trans hsz, ⟨?_, ?_⟩⟩
  · have e : List.range names.length = List.range (m + 1) := congrArg List.range hn
    exact e ▸ h4
  · rw [List.pairwise_map, List.pairwise_iff_getElem]
    intro i j hi hj hij
    have h5 := hs i j (Nat.zero_le _) hij (Nat.lt_of_lt_of_le (by simpa using hj) (Nat.le_of_eq h1))
    rw [ltF, getElem!_pos _ i (by simpa using hi), getElem!_pos _ j (by simpa using hj)] at h5
    simpa using h5

theorem below_grow {B : Nat} {a w : World} (h : Below B a w) (hB : B ≤ w.heap.size) (os : Array Obj) : Below B a (grow w os) :=
  ⟨h.os, h.tape, h.output, Nat.le_trans h.size (by simp [grow]), fun k hk => by
    rw [← h.block k hk]
    show (w.heap ++ os)[k]? = _
    rw [Array.getElem?_append_left (by omega)]⟩
theorem below_putRow {α : Type} [Inhabited α] {B : Nat} {a w : World} (h : Below B a w) (enc : α → Value) (blk off : Nat) (d : Array α) (hb : B ≤ blk) : Below B a (putRow enc w blk off d) :=
  ⟨h.os, h.tape, h.output, by rw [size_putRow]; exact h.size, fun k hk => by
    rw [← h.block k hk]
    show (w.heap.modify blk _)[k]? = _
    rw [Array.getElem?_modify, if_neg (by omega)]⟩
theorem below_sortWorld {α : Type} [Inhabited α] {B : Nat} {a w : World} (h : Below B a w) (enc : α → Value) (blk off n : Nat) (d : Array α) (os : Array Obj) (hb : B ≤ blk) (hB : B ≤ w.heap.size) : Below B a (sortWorld enc w blk off n d os) :=
  below_grow (below_putRow (drewN_below h n) enc blk off d hb) (by rw [size_putRow]; exact hB) os

/-- What val.byName hands back. -/
def GivesP (w : World) (names : List (List UInt8)) (e : Ending) (w' : World) : Prop := ∃ v' p, e = .returned v' ∧ Ins w' v' (p.map Int.ofNat) ∧ Places names p ∧ Below w.heap.size w w'
set_option maxRecDepth 100000 in
set_option maxHeartbeats 2000000 in
theorem byName_any (v : Value) (names : List (List UInt8)) (w : World) (hv : Sts w v names) (hn : names.length ≤ 131072) :
    Calls Tryz.prog 129 #[v] w (GivesP w names) := by
  have HV := Lib.hid hv
  obtain ⟨A, c, rfl, hc, hcm, -, -⟩ := hv
  have hmk := fun (W : World) => make_ints names.length (by omega) W
  generalize hnn : names.length = n at *
  have HN := Lib.hid hnn; clear hnn
  have HMK := Lib.hid hmk; clear hmk
  go_enter Tryz.func129, Tryz.ntmps129
  have hmk := HMK.out (w.alloc (.cells #[.slice A n c] 40))
  have HO : Hid (Own inc 1 3 (w.heap.size + 1) ((w.alloc (.cells #[.slice A n c] 40)).alloc (.cells (madeCells #[.int .i64 0] n) 3)) (.slice (some ⟨w.heap.size + 1, 0, none⟩) n n) (nums n 0)) := Lib.hid (by
    rw [nums_zero]
    have := Own.made1 (E := 3) (base := w.heap.size + 1) inc_len (w.alloc (.cells #[.slice A n c] 40)) 0 (.int .i64 0) rfl n (by unfold maxLen; omega) (by simp)
    simpa using this)
  simp only [World.size_alloc] at hmk
  go_wp2_with fail
  generalize madeCells #[Value.int .i64 0] n = cs at HO ⊢
  go_loopw [10] (fun i wr => ∃ k : Nat, k ≤ n ∧ i = .int .i64 k ∧ Own inc 1 3 (w.heap.size + 1) wr (.slice (some ⟨w.heap.size + 1, 0, none⟩) n n) (nums n k) ∧ Below (w.heap.size + 1) (w.alloc (.cells #[.slice A n c] 40)) wr) (fun i _ => n - (intOf i).toNat)
  case atStart => exact ⟨0, Nat.zero_le _, rfl, HO.out, (Below.refl _ _).alloc (by simp) _⟩
  case round =>
    obtain ⟨k, hk, rfl, hown, hb⟩ := hrel
    by_cases hlt : k < n
    · have hown' : Own inc 1 3 (w.heap.size + 1) wr (.slice (some ⟨w.heap.size + 1, 0, none⟩) (nums n k).length n) (nums n k) := by rw [nums_len]; exact hown
      have hcell := Own.cell inc_len (j := 0) hown' (nums_at hlt) rfl
      have hfr := hown'.free (k * 1 + 0)
      have hput := Own.put inc_len (j := 0) (y := (k : Int)) (u := .int .i64 k) hown' (nums_at hlt) (by decide) rfl
      rw [nums_set, nums_len] at hput
      simp only [Nat.mul_one, Nat.add_zero] at hcell hfr hput
      have HP := Lib.hid hput
      have HB := Lib.hid hb
      clear hput hown hown' hb
      go_wp2_with fail
      go_roundw
      case rel => exact ⟨k + 1, by omega, by go_num, HP.out, HB.out.setCell (by simp) _⟩
      case measure => simp [intOf]; omega
    · obtain rfl : k = n := by omega
      have hBox : Below (w.heap.size + 1) (w.alloc (.cells #[.slice A k c] 40)) wr := hb
      have hBW : Below w.heap.size w wr := ((Below.refl _ w).alloc (Nat.le_refl _) _).trans (hb.mono (by simp))
      have HBW := Lib.hid hBW
      cases k with
      | zero =>
        have hS := fun W => AnyF.slices_SortFunc_none (P := Tryz.prog) (ρ := Tryz.sortI_ren) { Tryz.sortI with } (some ⟨w.heap.size + 1, 0, none⟩) 0 (.func (.func 157) #[] #[.pointer (some ⟨w.heap.size, 0, none⟩)]) W
        change ∀ W, Calls Tryz.prog 156 _ _ _ at hS
        have HS := Lib.hid hS
        clear hS hBW hb hBox hown
        go_wp2_with (go_at_call 156; refine (HS.out _).mono ?_; rintro e w' ⟨rfl, rfl⟩)
        go_ret
        have e0 := List.eq_nil_of_length_eq_zero HN.out
        subst e0
        exact ⟨_, [], rfl, Row.empty _ _ _ (Nat.zero_le _), ⟨List.Perm.refl _, List.Pairwise.nil⟩, HBW.out⟩
      | succ m =>
        have hg : w.heap.size + 1 < wr.heap.size := (hown.opened (by rw [nums_len]; omega)).elim fun g h => by
          obtain ⟨cap, h1, h2, h3⟩ := h
          injection h1 with e1 _ _
          injection e1 with e1
          injection e1 with e1
          subst e1; exact h3
        have hbox : wr.cell? ⟨w.heap.size, 0, none⟩ = some (.slice A (m + 1) c) := (hb.cell (p := ⟨w.heap.size, 0, none⟩) (by simp)).trans (by simp [World.cell?_alloc_new])
        have hown' : Own inc 1 3 (w.heap.size + 1) wr (.slice (some ⟨w.heap.size + 1, 0, none⟩) (nums (m + 1) (m + 1)).length (m + 1)) (nums (m + 1) (m + 1)) := by rw [nums_len]; exact hown
        have hH : Holds enF wr (w.heap.size + 1) 0 (Array.ofFn (fun i : Fin (m + 1) => i)) := by
          intro j hj
          rw [Array.size_ofFn] at hj
          have h1 := Own.cell inc_len (k := j) (j := 0) hown' (by rw [nums_all, List.getElem?_map, List.getElem?_range hj]; rfl) rfl
          rw [idF_get j hj]
          simp only [Nat.mul_one, Nat.add_zero, Nat.zero_add] at h1 ⊢
          exact ⟨h1, hown'.free j⟩
        have hsz : (Array.ofFn (fun i : Fin (m + 1) => i)).size = m + 1 := Array.size_ofFn
        have eg : ∀ args w, (callFunc 157 args).run Tryz.prog w = .ok (.enter 157 args) w := enters_of Tryz.func157 (by kernel_rfl) rfl
        have hcmp : CmpReads Tryz.prog 157 #[.pointer (some ⟨w.heap.size, 0, none⟩)] enF (cfF names (m := m)) (w.heap.size + 1) 0 (Array.ofFn (fun i : Fin (m + 1) => i)).size wr := by
          intro q os dk _ x y
          have hbs : Below (w.heap.size + 1) wr (sortWorld enF wr (w.heap.size + 1) 0 q dk os) := below_sortWorld (Below.refl _ _) _ _ _ _ _ _ (Nat.le_refl _) (Nat.le_of_lt hg)
          have hx : names[x.val]? = some (atN names x.val) := by rw [atN, List.getD_eq_getElem?_getD, List.getElem?_eq_getElem (by rw [HN.out]; exact x.isLt)]; rfl
          have hy : names[y.val]? = some (atN names y.val) := by rw [atN, List.getD_eq_getElem?_getD, List.getElem?_eq_getElem (by rw [HN.out]; exact y.isLt)]; rfl
          exact byNameC_any names w.heap.size (.slice A (m + 1) c) x.val y.val _ _ _ hx hy ((hbs.cell (p := ⟨w.heap.size, 0, none⟩) (by simp)).trans hbox) (HV.out.below (hBW.trans (hbs.mono (by simp))))
        have hS := Any.slices_SortFunc Tryz.sortI enF enF_one (cfF names (m := m)) (swoF names) 157 #[.pointer (some ⟨w.heap.size, 0, none⟩)] (w.heap.size + 1) 0 (m + 1) (Array.ofFn (fun i : Fin (m + 1) => i)) wr eg hcmp.lays hH hg (by rw [hsz]; omega)
        change Calls Tryz.prog 156 _ _ _ at hS
        have HH := Lib.hid hH
        generalize hd0 : Array.ofFn (fun i : Fin (m + 1) => i) = d0 at *
        have HD0 := Lib.hid hd0
        have HSZ := Lib.hid hsz
        rw [hsz] at hS
        have HS := Lib.hid hS
        clear hS hcmp hH hown hown' hbox eg hsz hd0 hb hBox
        have HG := Lib.hid hg
        go_wp2_with (go_at_call 156; refine HS.out.mono ?_; rintro e w' ⟨rfl, d', q, os, hp, hs, rfl⟩)
        go_ret
        obtain ⟨h1, h2⟩ := places_of names HN.out d0 d' HD0.out.symm (by rw [HSZ.out]; exact hp) (by rw [HSZ.out]; exact hs)
        have hbs : Below w.heap.size w (sortWorld enF wr (w.heap.size + 1) 0 q d' os) := below_sortWorld HBW.out _ _ _ _ _ _ (by omega) (by omega)
        have hh := holds_sortWorld enF wr (w.heap.size + 1) 0 q d0 d' os hg HH.out (by rw [h1, HSZ.out])
        have hlt := lt_sortWorld enF wr (w.heap.size + 1) 0 q d' os hg
        refine ⟨_, d'.toList.map (·.val), rfl, ?_, h2, hbs⟩
        have hlen : ((d'.toList.map (·.val)).map Int.ofNat).length = m + 1 := by simp [h1]
        have := Row.mk (enc := inc) (sz := 1) (w := sortWorld enF wr (w.heap.size + 1) 0 q d' os) (g := w.heap.size + 1) (o := 0) (c := m + 1) (l := (d'.toList.map (·.val)).map Int.ofNat) (by rw [hlen]; exact Nat.le_refl _) (by unfold maxLen; omega) hlt (by
          intro k x hx j u hu
          rw [List.map_map, List.getElem?_map] at hx
          obtain ⟨y, hy, rfl⟩ := Option.map_eq_some_iff.1 hx
          obtain ⟨hk, he⟩ := List.getElem?_eq_some_iff.1 hy
          have h3 := (hh k (by simpa using hk)).1
          rw [getElem!_pos _ k (by simpa using hk)] at h3
          match j, hu with
          | 0, hu =>
            simp [inc] at hu
            subst hu
            simp only [Nat.mul_one, Nat.add_zero, Nat.zero_add] at h3 ⊢
            rw [h3]
            rw [Array.getElem_toList] at he
            rw [he]
            rfl)
        rw [hlen] at this
        exact this
/-- .. with its length. -/
def GivesPn (w : World) (names : List (List UInt8)) (n : Nat) (e : Ending) (w' : World) : Prop := ∃ (A : Option Addr) (c : Nat) (p : List Nat), e = .returned (.slice A n c) ∧ Ins w' (.slice A n c) (p.map Int.ofNat) ∧ p.length = n ∧ Places names p ∧ Below w.heap.size w w'
theorem byName_len (v : Value) (names : List (List UInt8)) (n : Nat) (w : World) (hnn : names.length = n) (hv : Sts w v names) (hn : n ≤ 131072) :
    Calls Tryz.prog 129 #[v] w (GivesPn w names n) :=
  (byName_any v names w hv (by rw [hnn]; exact hn)).mono fun e w' ⟨v', p, h1, h2, h3, h4⟩ => by
    have hl : p.length = n := h3.length.trans hnn
    obtain ⟨A, c, hv, h5⟩ := h2
    rw [List.length_map, hl] at hv
    refine ⟨A, c, p, by rw [h1, hv], ?_, hl, h3, h4⟩
    rw [← hv]
    exact ⟨A, c, by rw [List.length_map, hl]; exact hv, h5⟩
end Go.Proofs.YtafbojiojeemoaaGreatDoor

/-
  What val's Object answers.
-/
namespace Go.Proofs.YtafbojiojeemoaaGreatDoor
open Go.RowKit Np Rw Vp

/-- What val.Object hands back. -/
def GivesO (w : World) (names : List (List UInt8)) (L : List (List Nd)) (e : Ending) (w' : World) : Prop := ∃ v', e = .returned (.tuple #[v', .int .i64 (objE names L)]) ∧ OwnN w.heap.size w' v' (objV names L) ∧ Below w.heap.size w w'
theorem GivesO.bad {w w' : World} {names : List (List UInt8)} {L : List (List Nd)} {e : Ending} (h : objB names L = false) (he : e = .returned (.tuple #[.slice none 0 0, .int .i64 4])) (hb : Below w.heap.size w w') : GivesO w names L e w' :=
  ⟨_, by rw [objE, h]; exact he, by rw [objV, h]; exact Own.nil _, hb⟩

/-- So far no name is wrong, or there twice. -/
def GoodTo (names : List (List UInt8)) (p : List Nat) (k : Nat) : Prop :=
  (∀ i j, i < k → p[i]? = some j → vld (atN names j) = true) ∧ (∀ i a b, i + 1 < k → p[i]? = some a → p[i + 1]? = some b → atN names a ≠ atN names b)

theorem GoodTo.next {names : List (List UInt8)} {p : List Nat} {k at_ : Nat} (h : GoodTo names p k) (ha : p[k]? = some at_) (hv : vld (atN names at_) = true) (hn : ∀ a, 0 < k → p[k - 1]? = some a → atN names a ≠ atN names at_) : GoodTo names p (k + 1) := by
  refine ⟨fun i j hi hj => ?_, fun i a b hi h1 h2 => ?_⟩
  · by_cases e : i = k
    · subst e; rw [ha] at hj; injection hj with hj; rw [← hj]; exact hv
    · exact h.1 i j (by omega) hj
  · by_cases e : i + 1 = k
    · subst e; rw [ha] at h2; injection h2 with h2; rw [← h2]; exact hn a (by omega) h1
    · exact h.2 i a b (by omega) h1 h2

set_option maxRecDepth 100000 in
set_option maxHeartbeats 4000000 in
theorem object_any (v u : Value) (names : List (List UInt8)) (L : List (List Nd)) (w : World) (hv : Sts w v names) (hu : Vls w u L) (hn : names.length ≤ 131072) (hb2 : (L.map List.length).sum ≤ 262144) (hsh : ∀ s ∈ names, s.length ≤ maxLen) (hT : Tabs w) :
    Calls Tryz.prog 95 #[v, u] w (GivesO w names L) := by
  have HV := Lib.hid hv
  have HU := Lib.hid hu
  have HT := Lib.hid hT
  have HSH := Lib.hid hsh
  clear hsh hT
  obtain ⟨us, hul, hu, hur⟩ := hu
  obtain ⟨A, c, rfl, hc, hcm, -, H⟩ := hv
  obtain ⟨A2, c2, rfl, hc2, hcm2, -, H2⟩ := hu
  by_cases hl : names.length = L.length
  · have hlu : us.length = names.length := by omega
    rw [hlu] at H2 HU hc2 ⊢
    have HL := Lib.hid hl
    have HH := Lib.hid H
    have HH2 := Lib.hid H2
    have HUL := Lib.hid hul
    have HUR := Lib.hid hur
    have HLU := Lib.hid hlu
    clear hl hul hlu H H2 hur
    generalize hnn : names.length = n at *
    have HN := Lib.hid hnn; clear hnn
    go_enter Tryz.func95, Tryz.ntmps95
    go_wp2_with (go_at_call 129; refine (byName_len _ names n _ HN.out HV.out hn).mono ?_; rintro e w1 ⟨PA, pc, p, rfl, hpv, hpl, hp, hB1⟩)
    have HPL := Lib.hid hpl
    have HP := Lib.hid hp
    have HB1 := Lib.hid hB1
    have HPV := Lib.hid hpv
    have HPX : Hid (0 < n → ∃ g o : Nat, PA = some ⟨g, o, none⟩ ∧ g < w1.heap.size ∧ ∀ k x, (p.map Int.ofNat)[k]? = some x → CellsAt w1 g (o + k * 1) (inc x)) := Lib.hid (fun h0 => by
      obtain ⟨g, o, c, h1, h2, h3, h4, h5⟩ := hpv.opened (by rw [List.length_map, hpl]; exact h0)
      injection h1 with e1 _ _
      exact ⟨g, o, e1, h4, h5⟩)
    clear hp hB1 hpv hpl
    go_loopw [22] (fun i wr => ∃ k : Nat, k ≤ n ∧ i = .int .i64 k ∧ Below w1.heap.size w1 wr ∧ GoodTo names p k) (fun i _ => n - (intOf i).toNat)
    case atStart => exact ⟨0, Nat.zero_le _, rfl, Below.refl _ _, ⟨fun i j h => by omega, fun i a b h => by omega⟩⟩
    case round =>
      obtain ⟨k, hk, rfl, hbr, hgood⟩ := hrel
      have HBR := Lib.hid hbr
      have HG := Lib.hid hgood
      have hBw : Below w.heap.size w wr := Below.after HB1.out hbr
      have HBW := Lib.hid hBw
      clear hbr hgood hBw
      by_cases hlt : k < n
      · obtain ⟨pg, po, rfl, hpg, hpx⟩ := HPX.out (by omega)
        obtain ⟨at_, hat⟩ : ∃ a, p[k]? = some a := ⟨_, List.getElem?_eq_getElem (by rw [HPL.out]; exact hlt)⟩
        have hatn : at_ < n := by have := HP.out.lt (List.mem_of_getElem? hat); rwa [HN.out] at this
        have hatx : names[at_]? = some (atN names at_) := by rw [atN, List.getD_eq_getElem?_getD, List.getElem?_eq_getElem (by rw [HN.out]; exact hatn)]; rfl
        obtain ⟨g, o, rfl, hg, hx⟩ := HH.out (by omega)
        have pc0 := (HBR.out.cell (p := ⟨pg, po + k, none⟩) hpg).trans (hpx k at_ (by rw [List.getElem?_map, hat]; rfl)).int
        have nc0 := (HBW.out.cell (p := ⟨g, o + at_, none⟩) hg).trans (hx at_ _ hatx).st
        have hatI : (at_ : Int) < n := by omega
        have HAT := Lib.hid hat
        have HVA : Hid ((ByteArray.mk (atN names at_).toArray).size ≤ maxLen) := Lib.hid (HSH.out _ (List.mem_of_getElem? hatx))
        have HTW : Hid (Tabs wr) := Lib.hid (HT.out.below HBW.out)
        clear hat hatx
        cases k with
        | zero =>
          have hk0 : decide ((0 : Int) < (0 : Nat)) = false := by simp
          have hk1 : decide ((0 : Nat) < 0) = false := by simp
          simp only [Int.natCast_zero, Nat.add_zero] at hk0 pc0 ⊢
          cases hvl : vld (atN names at_) with
          | false =>
            have HVL := Lib.hid hvl
            clear hvl
            go_wp2_with fail
            go_quiet (fail)
            go_wp2_with (go_at_call 85; refine (valid_any _ _ HVA.out (HTW.out.below (drewN_below (Below.refl _ _) _))).mono ?_; rintro e w2 ⟨rfl, hb2⟩; rw [show vld (ByteArray.mk (atN names at_).toArray).data.toList = false from HVL.out])
            go_ret2
            exact GivesO.bad (by rw [objB, HP.out.wrong (List.mem_of_getElem? HAT.out) HVL.out, Bool.and_false]) rfl (Below.after HBW.out (Below.after (drewN_below (Below.refl _ _) _) hb2))
          | true =>
            have HVL := Lib.hid hvl
            clear hvl
            go_wp2_with fail
            go_quiet (fail)
            go_wp2_with (go_at_call 85; refine (valid_any _ _ HVA.out (HTW.out.below (drewN_below (Below.refl _ _) _))).mono ?_; rintro e w2 ⟨rfl, hb2⟩; rw [show vld (ByteArray.mk (atN names at_).toArray).data.toList = true from HVL.out])
            go_roundw
            case rel => exact ⟨0 + 1, by omega, by go_num, Below.after HBR.out (Below.after (drewN_below (Below.refl _ _) _) hb2), HG.out.next HAT.out HVL.out (fun a h => by omega)⟩
            case measure => simp [intOf]; omega
        | succ k =>
          obtain ⟨pr, hpr⟩ : ∃ a, p[k]? = some a := ⟨_, List.getElem?_eq_getElem (by rw [HPL.out]; omega)⟩
          have hprn : pr < n := by have := HP.out.lt (List.mem_of_getElem? hpr); rwa [HN.out] at this
          have hprx : names[pr]? = some (atN names pr) := by rw [atN, List.getD_eq_getElem?_getD, List.getElem?_eq_getElem (by rw [HN.out]; exact hprn)]; rfl
          have qc0 := (HBR.out.cell (p := ⟨pg, po + k, none⟩) hpg).trans (hpx k pr (by rw [List.getElem?_map, hpr]; rfl)).int
          have mc0 := (HBW.out.cell (p := ⟨g, o + pr, none⟩) hg).trans (hx pr _ hprx).st
          have hprI : (pr : Int) < n := by omega
          have HPR := Lib.hid hpr
          clear hpr hprx hpx hx
          have hk0 : decide ((0 : Int) < (k + 1 : Nat)) = true := by simp
          have hk1 : decide (0 < k + 1) = true := by simp
          have hki : (k : Int) < n := by omega
          have hkn : k < n := by omega
          generalize hans : atN names at_ = nm at *
          generalize hbns : atN names pr = nb at *
          have HA := Lib.hid hans
          have HB := Lib.hid hbns
          clear hans hbns
          by_cases he : nb = nm
          · have HE := Lib.hid he
            subst he
            have hw1 : IntKind.i64.wrap ((k + 1 : Nat) - 1 : Int) = k := (IntWalk.i64_in _ (by omega)).trans (by omega)
            go_wp2_with fail
            go_quiet (fail)
            go_wp2_with fail
            go_ret2
            exact GivesO.bad (by rw [objB, HP.out.same HPR.out HAT.out (by rw [HA.out, HB.out]), Bool.and_false]) rfl (Below.after HBW.out (drewN_below (Below.refl _ _) _))
          · have hne : (nb == nm) = false := by simp [he]
            have hw1 : IntKind.i64.wrap ((k + 1 : Nat) - 1 : Int) = k := (IntWalk.i64_in _ (by omega)).trans (by omega)
            have HNE := Lib.hid he
            cases hvl : vld nm with
            | false =>
              have HVL := Lib.hid hvl
              clear hvl
              go_wp2_with fail
              go_quiet (fail)
              go_wp2_with (go_at_call 85; refine (valid_any _ _ HVA.out (HTW.out.below (drewN_below (Below.refl _ _) _))).mono ?_; rintro e w2 ⟨rfl, hb2⟩; rw [show vld (ByteArray.mk nm.toArray).data.toList = false from HVL.out])
              go_ret2
              exact GivesO.bad (by rw [objB, HP.out.wrong (List.mem_of_getElem? HAT.out) (by rw [HA.out]; exact HVL.out), Bool.and_false]) rfl (Below.after HBW.out (Below.after (drewN_below (Below.refl _ _) _) hb2))
            | true =>
              have HVL := Lib.hid hvl
              clear hvl
              go_wp2_with fail
              go_quiet (fail)
              go_wp2_with (go_at_call 85; refine (valid_any _ _ HVA.out (HTW.out.below (drewN_below (Below.refl _ _) _))).mono ?_; rintro e w2 ⟨rfl, hb2⟩; rw [show vld (ByteArray.mk nm.toArray).data.toList = true from HVL.out])
              go_roundw
              case rel => exact ⟨k + 1 + 1, by omega, by go_num, Below.after HBR.out (Below.after (drewN_below (Below.refl _ _) _) hb2), HG.out.next HAT.out (by rw [HA.out]; exact HVL.out) (fun a _ h => by
                have h' : p[k]? = some a := h
                rw [HPR.out] at h'
                injection h' with h'
                rw [← h', HA.out, HB.out]; exact HNE.out)⟩
              case measure => simp [intOf]; omega
      · obtain rfl : k = n := by omega
        have hgd := HP.out.good (fun i hi => by
            obtain ⟨j, hj, rfl⟩ := List.getElem_of_mem hi
            exact HG.out.1 j _ (by rw [← HPL.out]; exact hj) (List.getElem?_eq_getElem hj))
          (fun i a b h1 h2 => HG.out.2 i a b (by
            have := (List.getElem?_eq_some_iff.1 h2).1
            rw [HPL.out] at this; exact this) h1 h2)
        have HO : Hid (objB names L = true) := Lib.hid (by rw [objB, hgd.1, HN.out, HL.out]; simp)
        have HPA := Lib.hid (HP.out.pairs (L := L) (by rw [HN.out]; exact HL.out) hgd.2)
        clear hgd
        obtain ⟨wo, rfl⟩ : ∃ wo : World, wo = wr := ⟨_, rfl⟩
        have HVL : Hid (Vls wo (.slice A2 k c2) L) := Lib.hid (Rowz.below HU.out (HBW.out))
        have hb1 : L.length ≤ 131072 := by rw [← HL.out]; exact hn
        go_wp2_with (go_at_call 127; refine (head_any 6 _ L _ HVL.out (Nat.le_trans hb1 (by decide)) hb2).mono ?_; rintro e w2 ⟨v2, rfl, ho2, hB2⟩)
        have HO2 := Lib.hid ho2
        have HB2 := Lib.hid hB2
        clear ho2 hB2
        have hbs : w.heap.size ≤ wo.heap.size := HBW.out.size
        go_loopw [10, 58] (fun vv i w3 => ∃ j : Nat, j ≤ k ∧ i = .int .i64 j ∧ OwnN wo.heap.size w3 vv (hdN 6 L.length :: laid ((p.take j).map fun x => (atN names x, atL L x))) ∧ Below wo.heap.size wo w3) (fun _ i _ => k - (intOf i).toNat)
        case atStart => exact ⟨0, Nat.zero_le _, rfl, HO2.out, HB2.out⟩
        case round =>
          obtain ⟨j, hj, rfl, hown, hb3⟩ := hrel
          have HO3 := Lib.hid hown
          have HB3 := Lib.hid hb3
          have HBR3 : Hid (Below w1.heap.size w1 wr) := Lib.hid (Below.after HBR.out hb3)
          have HBW3 : Hid (Below w.heap.size w wr) := Lib.hid (Below.after HBW.out hb3)
          clear hown hb3
          by_cases hlt2 : j < k
          · obtain ⟨pg, po, rfl, hpg, hpx⟩ := HPX.out (by omega)
            obtain ⟨at_, hat⟩ : ∃ a, p[j]? = some a := ⟨_, List.getElem?_eq_getElem (by rw [HPL.out]; exact hlt2)⟩
            have hatn : at_ < k := by have := HP.out.lt (List.mem_of_getElem? hat); rwa [HN.out] at this
            have hatx : names[at_]? = some (atN names at_) := by rw [atN, List.getD_eq_getElem?_getD, List.getElem?_eq_getElem (by rw [HN.out]; exact hatn)]; rfl
            have hatl : L[at_]? = some (atL L at_) := by rw [atL, List.getD_eq_getElem?_getD, List.getElem?_eq_getElem (by rw [← HL.out]; exact hatn)]; rfl
            obtain ⟨g, o, rfl, hg, hx⟩ := HH.out (by omega)
            obtain ⟨g2, o2, rfl, hg2, hx2⟩ := HH2.out (by omega)
            obtain ⟨x, hux⟩ : ∃ a, us[at_]? = some a := ⟨_, List.getElem?_eq_getElem (by rw [HLU.out]; exact hatn)⟩
            have pc0 := (HBR3.out.cell (p := ⟨pg, po + j, none⟩) hpg).trans (hpx j at_ (by rw [List.getElem?_map, hat]; rfl)).int
            have nc0 := (HBW3.out.cell (p := ⟨g, o + at_, none⟩) hg).trans (hx at_ _ hatx).st
            have lc0 := (HBW3.out.cell (p := ⟨g2, o2 + at_, none⟩) hg2).trans (hx2 at_ _ hux).one
            have hatI : (at_ : Int) < k := by omega
            have HRX : Hid (Nds wr x (atL L at_)) := Lib.hid ((HUR.out at_ _ _ hux hatl).below HBW3.out)
            have HTK : Hid ((p.take (j + 1)).map (fun x => (atN names x, atL L x)) = (p.take j).map (fun x => (atN names x, atL L x)) ++ [(atN names at_, atL L at_)]) := Lib.hid (by rw [List.take_add_one, hat]; simp)
            have HLG : Hid ((hdN 6 L.length :: laid ((p.take j).map fun x => (atN names x, atL L x))).length + (atL L at_).length ≤ 400000) := Lib.hid (by
              have h1 := HP.out.long (L := L) (by rw [HN.out]; exact HL.out) (j + 1)
              rw [HTK.out, laid_snoc, List.length_append, setNm_len] at h1
              simp only at h1
              rw [List.length_cons]; omega)
            clear hat hatx hatl hx hx2 hpx hux
            go_wp2_with fail
            go_still_tail 9, (by kernel_rfl)
            change wpList _ _ _ _ _ wr.drew
            have HO4 : Hid (OwnN wo.heap.size wr.drew u10 (hdN 6 L.length :: laid ((p.take j).map fun x => (atN names x, atL L x)))) := Lib.hid HO3.out.drew
            have HR4 : Hid (Nds wr.drew x (atL L at_)) := Lib.hid (HRX.out.below (Below.refl _ _).drew)
            have HB5 : Hid (Below wo.heap.size wo wr.drew) := Lib.hid HB3.out.drew
            clear pc0 nc0 lc0
            generalize wr.drew = w4 at HO4 HR4 HB5 ⊢
            go_wp2_with (go_at_call 128; refine (lay_any wo.heap.size _ _ _ _ _ _ HO4.out HR4.out HB5.out.size HLG.out).mono ?_; rintro e w5 ⟨v5, rfl, ho5, hg5⟩)
            have HO5 := Lib.hid ho5
            have HG5 := Lib.hid hg5
            clear ho5 hg5
            go_roundw
            case rel => exact ⟨j + 1, by omega, by go_num, by rw [HTK.out, laid_snoc]; exact HO5.out, HB5.out.trans (HO4.out.kept HG5.out HB5.out.size)⟩
            case measure => simp [intOf]; omega
          · have HE : Hid (p.take j = p) := Lib.hid (List.take_of_length_le (by rw [HPL.out]; omega))
            go_wp2_with fail
            go_ret2
            refine ⟨_, by rw [objE, HO.out]; rfl, ?_, HBW3.out⟩
            rw [objV, HO.out, if_pos rfl, HPA.out, ← HE.out]
            exact HO3.out.mono HBW.out.size
  · have hne : ((names.length : Int) != us.length) = true := by simp; omega
    have HO : Hid (objB names L = false) := Lib.hid (by simp [objB, hl])
    clear hl hul H H2 hur
    generalize names.length = n at *
    generalize us.length = m at *
    go_enter Tryz.func95, Tryz.ntmps95
    go_wp2_with fail
    go_ret2
    exact GivesO.bad HO.out rfl (Below.refl _ _)
end Go.Proofs.YtafbojiojeemoaaGreatDoor

/-
  Words for values: rows that come out, with their lengths; a slice of slices, element by element; one more behind a slice of the call's own. Of no law.
-/
namespace Go.Proofs.YtafbojiojeemoaaGreatDoor
open Go.RowKit Np Rw Vp

/-- A row of nodes comes out, with its length. -/
def IsN (w : World) (l : List Nd) (n : Nat) (e : Ending) (w' : World) : Prop := ∃ (A : Option Addr) (c : Nat), e = .returned (.slice A n c) ∧ Nds w' (.slice A n c) l ∧ Below w.heap.size w w'
def IsO (w : World) (l : List Nd) (n : Nat) (k : Int) (e : Ending) (w' : World) : Prop := ∃ (A : Option Addr) (c : Nat), e = .returned (.tuple #[.slice A n c, .int .i64 k]) ∧ Nds w' (.slice A n c) l ∧ Below w.heap.size w w'
theorem OwnsN.is {w w' : World} {l : List Nd} {n : Nat} {e : Ending} (h : OwnsN w l e w') (hn : l.length = n) : IsN w l n e w' := by
  obtain ⟨v, rfl, h1, h2⟩ := h
  have h3 := h1.row ndc_len
  obtain ⟨A, c, rfl, h4⟩ := h3
  rw [← hn]
  exact ⟨A, c, rfl, ⟨A, c, rfl, h4⟩, h2⟩
theorem GivesO.is {w w' : World} {names : List (List UInt8)} {L : List (List Nd)} {n : Nat} {e : Ending} (h : GivesO w names L e w') (hn : (objV names L).length = n) : IsO w (objV names L) n (objE names L) e w' := by
  obtain ⟨v, rfl, h1, h2⟩ := h
  obtain ⟨A, c, rfl, h4⟩ := h1.row ndc_len
  rw [← hn]
  exact ⟨A, c, rfl, ⟨A, c, rfl, h4⟩, h2⟩
theorem GivesO.own {w w' : World} {names : List (List UInt8)} {L : List (List Nd)} {n : Nat} {e : Ending} (h : GivesO w names L e w') (hn : (objV names L).length = n) : ∃ (A : Option Addr) (c : Nat), e = .returned (.tuple #[.slice A n c, .int .i64 (objE names L)]) ∧ OwnN w.heap.size w' (.slice A n c) (objV names L) ∧ Below w.heap.size w w' := by
  obtain ⟨v, rfl, h1, h2⟩ := h
  obtain ⟨A, c, rfl, h4⟩ := h1.row ndc_len
  rw [← hn]
  exact ⟨A, c, rfl, h1, h2⟩
theorem row_one {α : Type} {enc : α → List Value} {sz : Nat} (hl : ∀ x, (enc x).length = sz) (W : World) (n : Nat) (hn : W.heap.size = n) (E : TypeId) (cs : Array Value) (x : α) (hc : cs.toList = enc x) :
    Row enc sz (W.alloc (.cells cs E)) (.slice (some ⟨n, 0, none⟩) 1 1) [x] := by
  subst hn
  exact Row.lit hl W E cs [x] (by unfold maxLen; simp) (by rw [hc]; simp)
theorem sts_two (W : World) (n : Nat) (hn : W.heap.size = n) (E : TypeId) (a b : List UInt8) : Sts (W.alloc (.cells #[.string ⟨a.toArray⟩, .string ⟨b.toArray⟩] E)) (.slice (some ⟨n, 0, none⟩) 2 2) [a, b] := by
  subst hn
  exact Row.lit stc_len W E _ [a, b] (by unfold maxLen; simp) rfl
theorem vls_two (W : World) (n : Nat) (hn : W.heap.size = n) (E : TypeId) (a b : Value) (l1 l2 : List Nd) (h1 : Nds W a l1) (h2 : Nds W b l2) : Vls (W.alloc (.cells #[a, b] E)) (.slice (some ⟨n, 0, none⟩) 2 2) [l1, l2] := by
  subst hn
  have hb : Below W.heap.size W (W.alloc (.cells #[a, b] E)) := (Below.refl _ _).alloc (Nat.le_refl _) _
  refine ⟨[a, b], rfl, Row.lit vac_len W E _ [a, b] (by unfold maxLen; simp) rfl, fun k x l hx hk => ?_⟩
  match k, hx, hk with
  | 0, hx, hk => simp at hx hk; subst hx hk; exact h1.below hb
  | 1, hx, hk => simp at hx hk; subst hx hk; exact h2.below hb
  | k + 2, hx, hk => simp at hx

/-- Slices that read as these rows. -/
def Els (w : World) (zs : List (Option Addr × Nat × Nat)) (L : List (List Nd)) : Prop := zs.length = L.length ∧ ∀ (k : Nat) (z : Option Addr × Nat × Nat) (l : List Nd), zs[k]? = some z → L[k]? = some l → Nds w (.slice z.1 z.2.1 z.2.2) l
theorem Els.below {w w' : World} {zs : List (Option Addr × Nat × Nat)} {L : List (List Nd)} (h : Els w zs L) (hb : Below w.heap.size w w') : Els w' zs L := ⟨h.1, fun k z l hz hl => (h.2 k z l hz hl).below hb⟩
theorem Els.vls {w : World} {v : Value} {zs : List (Option Addr × Nat × Nat)} {L : List (List Nd)} (h : Els w zs L) (hr : Row slc 1 w v zs) : Vls w v L := by
  refine ⟨zs.map fun z => .slice z.1 z.2.1 z.2.2, by rw [List.length_map]; exact h.1, ?_, fun k x l hx hk => ?_⟩
  · obtain ⟨A, c, hv, h1, h2, h3, h4⟩ := hr
    refine ⟨A, c, by rw [List.length_map]; exact hv, by rw [List.length_map]; exact h1, h2, h3, fun h0 => ?_⟩
    obtain ⟨g, o, hA, hg, hx⟩ := h4 (by rwa [List.length_map] at h0)
    refine ⟨g, o, hA, hg, fun k x hk => ?_⟩
    rw [List.getElem?_map] at hk
    obtain ⟨z, hz, rfl⟩ := Option.map_eq_some_iff.1 hk
    exact hx k z hz
  · rw [List.getElem?_map] at hx
    obtain ⟨z, hz, rfl⟩ := Option.map_eq_some_iff.1 hx
    exact h.2 k z l hz hk
theorem vls_els {w : World} {v : Value} {L : List (List Nd)} (h : Vls w v L) : ∃ zs, Els w zs L ∧ Row slc 1 w v zs := by
  obtain ⟨us, hl, hr, hx⟩ := h
  have key : ∀ (us : List Value) (L : List (List Nd)), us.length = L.length → (∀ (k : Nat) (x : Value) (l : List Nd), us[k]? = some x → L[k]? = some l → Nds w x l) →
      ∃ zs : List (Option Addr × Nat × Nat), zs.map (fun z => Value.slice z.1 z.2.1 z.2.2) = us ∧ Els w zs L := by
    intro us
    induction us with
    | nil => intro L hl _; exact ⟨[], rfl, by simpa using hl, fun k z l hz => by simp at hz⟩
    | cons x us ih =>
      intro L hl hx
      cases L with
      | nil => simp at hl
      | cons l L =>
        obtain ⟨zs, h1, h2, h3⟩ := ih L (by simpa using hl) (fun k y m hy hm => hx (k + 1) y m (by simpa using hy) (by simpa using hm))
        obtain ⟨A, c, h4, -⟩ := hx 0 x l rfl rfl
        refine ⟨(A, l.length, c) :: zs, by rw [List.map_cons, h1, h4], by simp [h2], fun k z m hz hm => ?_⟩
        match k, hz, hm with
        | 0, hz, hm => simp at hz hm; subst hz hm; rw [← h4]; exact hx 0 x _ rfl rfl
        | k + 1, hz, hm => exact h3 k z m (by simpa using hz) (by simpa using hm)
  obtain ⟨zs, h1, h2⟩ := key us L hl hx
  refine ⟨zs, h2, ?_⟩
  subst h1
  obtain ⟨A, c, hv, h3, h4, h5, h6⟩ := hr
  rw [List.length_map] at hv h3 h6
  refine ⟨A, c, hv, h3, h4, h5, fun h0 => ?_⟩
  obtain ⟨g, o, hA, hg, hx⟩ := h6 h0
  exact ⟨g, o, hA, hg, fun k z hz => hx k (.slice z.1 z.2.1 z.2.2) (by rw [List.getElem?_map, hz]; rfl)⟩
theorem Els.reverse {w : World} {zs : List (Option Addr × Nat × Nat)} {L : List (List Nd)} (h : Els w zs L) : Els w zs.reverse L.reverse := by
  refine ⟨by simp [h.1], fun k z l hz hl => ?_⟩
  have hk : k < zs.length := by have := (List.getElem?_eq_some_iff.1 hz).1; simpa using this
  rw [List.getElem?_reverse hk] at hz
  rw [List.getElem?_reverse (by rw [← h.1]; exact hk), ← h.1] at hl
  exact h.2 _ z l hz hl
theorem Els.snoc {w : World} {zs : List (Option Addr × Nat × Nat)} {L : List (List Nd)} {z : Option Addr × Nat × Nat} {l : List Nd} (h : Els w zs L) (hz : Nds w (.slice z.1 z.2.1 z.2.2) l) : Els w (zs ++ [z]) (L ++ [l]) := by
  refine ⟨by simp [h.1], fun k y m hy hm => ?_⟩
  rcases Nat.lt_or_ge k zs.length with hk | hk
  · rw [List.getElem?_append_left hk] at hy
    rw [List.getElem?_append_left (by rw [← h.1]; exact hk)] at hm
    exact h.2 k y m hy hm
  · rw [List.getElem?_append_right hk] at hy
    rw [List.getElem?_append_right (by rw [← h.1]; exact hk), ← h.1] at hm
    cases hkk : k - zs.length with
    | zero => rw [hkk] at hy hm; simp at hy hm; subst hy hm; exact hz
    | succ j => rw [hkk] at hy; simp at hy
/-- Two slices of the call's own: what is appended to one leaves the other as it was. -/
theorem Own.aside {α β : Type} {e1 : α → List Value} {s1 E1 : Nat} {e2 : β → List Value} {s2 E2 base base2 : Nat} {w w' : World} {v1 v2 : Value} {l1 : List α} {l2 : List β} (h1 : Own e1 s1 E1 base w v1 l1) (h2 : Own e2 s2 E2 base2 w v2 l2) (he : E1 ≠ E2)
    (hg : w.grownBy w' v2.ownBlock) : Own e1 s1 E1 base w' v1 l1 := by
  refine World.ownsRow.kept h1 (row := v2.ownBlock) hg ?_
  exact own_apart h1 h2 he
theorem GivesV.is {w w' : World} {L : List (List Nd)} {n : Nat} {e : Ending} (h : GivesV w L e w') (hn : L.length = n) : ∃ (A : Option Addr) (c : Nat), e = .returned (.slice A n c) ∧ Vls w' (.slice A n c) L ∧ Below w.heap.size w w' := by
  obtain ⟨v, rfl, ⟨us, h1, h2, h3⟩, h4⟩ := h
  obtain ⟨A, c, rfl, h5⟩ := h2
  have : us.length = n := h1.trans hn
  rw [this]
  exact ⟨A, c, rfl, ⟨us, h1, ⟨A, c, by rw [this], h5⟩, h3⟩, h4⟩
theorem GivesS.is {w w' : World} {L : List (List UInt8)} {n : Nat} {e : Ending} (h : GivesS w L e w') (hn : L.length = n) : ∃ (A : Option Addr) (c : Nat), e = .returned (.slice A n c) ∧ Sts w' (.slice A n c) L ∧ Below w.heap.size w w' := by
  obtain ⟨v, rfl, h2, h4⟩ := h
  obtain ⟨A, c, rfl, h5⟩ := h2
  rw [hn]
  exact ⟨A, c, rfl, ⟨A, c, by rw [hn], h5⟩, h4⟩
end Go.Proofs.YtafbojiojeemoaaGreatDoor

/-
  Words for memory: what a call's own rows and boxes are, while a reader goes on; how a value's reading ends.
-/
namespace Go.Proofs.YtafbojiojeemoaaGreatDoor
open Go.RowKit Np Rw Vp Up Qp Tp

theorem Kb.grownBy {B rb : Nat} {w w' : World} (h : Kb B rb w w') (hB : w.heap.size ≤ B) : w.grownBy w' (some rb) :=
  ⟨h.os, h.tape, h.output, h.size, fun k hk hne => h.block k (by omega) (fun e => hne (by rw [e]))⟩
/-- A row of the call's own is no reader. -/
theorem Own.kb {α : Type} {enc : α → List Value} {sz E base rb : Nat} {s : ByteArray} {i d : Nat} {w w' : World} {v : Value} {l : List α} (h : Own enc sz E base w v l) (hE : E ≠ 55) (hr : Rd rb s i d w) (hb : Kb w.heap.size rb w w') : Own enc sz E base w' v l := by
  refine World.ownsRow.kept h (hb.grownBy (Nat.le_refl _)) ?_
  rcases h.2 with ⟨rfl, _⟩ | ⟨g, cap, cur, rfl, _, hh, _⟩
  · exact .inl rfl
  · refine .inr (fun e => hE ?_)
    have e1 : g = rb := by simpa [Value.ownBlock] using e
    subst e1
    unfold Rd at hr
    rw [hr] at hh
    injection hh with hh
    injection hh with _ h2 _
    exact h2.symm
theorem Elems.kb {base rb : Nat} {s : ByteArray} {i d : Nat} {w w' : World} {zs : List (Option Addr × Nat × Nat)} {L : List (List Nd)} (h : Elems base w zs L) (hr : Rd rb s i d w) (hb : Kb w.heap.size rb w w') : Elems base w' zs L :=
  ⟨h.1, fun k z l h1 h2 => Own.kb (h.2 k z l h1 h2) (by decide) hr hb⟩
theorem Elems.asideT {base : Nat} {W W' : World} {v : Value} {xs zs : List (Option Addr × Nat × Nat)} {L : List (List Nd)} (h : Elems base W zs L) (hv : Own slc 1 24 base W v xs) (hg : W.grownBy W' v.ownBlock) : Elems base W' zs L :=
  ⟨h.1, fun k z l hz hl => Own.aside (h.2 k z l hz hl) hv (by decide) hg⟩
/-- A captured variable's block. -/
def Box (b T : Nat) (v : Value) (w : World) : Prop := w.heap[b]? = some (.cells #[v] T (0, 0))
section
variable {b T : Nat} {v : Value} {w w' : World}
theorem Box.lt (h : Box b T v w) : b < w.heap.size := (Array.getElem?_eq_some_iff.1 h).1
theorem Box.c (h : Box b T v w) : w.cell? ⟨b, 0, none⟩ = some v := cell_of_one h
theorem Box.f (h : Box b T v w) : w.frozen? ⟨b, 0, none⟩ = false := free_of_one h
theorem Box.kb {rb : Nat} {s : ByteArray} {i d : Nat} (h : Box b T v w) (hr : Rd rb s i d w) (hb : Kb w.heap.size rb w w') : Box b T v w' := by
  refine (hb.block b h.lt ?_).trans h
  rintro rfl
  unfold Rd at hr; unfold Box at h
  rw [hr] at h
  injection h with h
  injection h with h1
  have := congrArg Array.size h1
  simp at this
theorem Box.below {B : Nat} (h : Box b T v w) (hb : Below B w w') (hB : b < B) : Box b T v w' := (hb.block b hB).trans h
theorem Box.alloc (h : Box b T v w) (o : Obj) : Box b T v (w.alloc o) := (Below.heap_alloc w o b h.lt).trans h
theorem Box.drewN (h : Box b T v w) (n : Nat) : Box b T v (w.drewN n) := h
theorem Box.drew (h : Box b T v w) : Box b T v w.drew := h
theorem Box.new (w : World) (T : Nat) (v : Value) : Box w.heap.size T v (w.alloc (.cells #[v] T)) := heap_alloc_new w _
theorem Box.set (h : Box b T v w) (u : Value) : Box b T u (w.setCell ⟨b, 0, none⟩ u) := one_setCell h
theorem Box.other (h : Box b T v w) {p : Addr} (hp : p.block ≠ b) (u : Value) : Box b T v (w.setCell p u) := (Below.heap_setCell w p u b (Ne.symm hp)).trans h
theorem Box.ne_rd {rb : Nat} {s : ByteArray} {i d : Nat} (h : Box b T v w) (hr : Rd rb s i d w) : b ≠ rb := by
  rintro rfl
  unfold Rd at hr; unfold Box at h
  rw [hr] at h
  injection h with h
  injection h with h1
  have := congrArg Array.size h1
  simp at this
theorem Box.grown {row : Option Nat} (h : Box b T v w) (hg : w.grownBy w' row) (hr : row ≠ some b) : Box b T v w' := (hg.block b h.lt (Ne.symm hr)).trans h
/-- A box is no row of other elements. -/
theorem Box.own {α : Type} {enc : α → List Value} {sz E base : Nat} {x : Value} {l : List α} (h : Box b T v w) (hE : E ≠ T) (ho : Own enc sz E base w x l) : x.ownBlock ≠ some b := by
  rcases ho.2 with ⟨rfl, _⟩ | ⟨g, cap, cur, rfl, _, hh, _⟩
  · intro e; cases e
  · intro e
    have e1 : g = b := by simpa [Value.ownBlock] using e
    subst e1
    unfold Box at h
    rw [h] at hh
    injection hh with hh
    injection hh with _ h2 _
    exact hE h2.symm
end
theorem Own.box {α : Type} {enc : α → List Value} {sz E base b T : Nat} {w : World} {x v : Value} {l : List α} (ho : Own enc sz E base w x l) (h : Box b T v w) (hE : E ≠ T) (u : Value) : Own enc sz E base (w.setCell ⟨b, 0, none⟩ u) x l := by
  refine World.ownsRow.kept ho (row := some b) ⟨rfl, rfl, rfl, by simp, fun k hk hne => Below.heap_setCell _ _ _ _ (fun e => hne (by rw [e]))⟩ ?_
  rcases hv : x.ownBlock with _ | g
  · exact .inl rfl
  · exact .inr (by rw [← hv]; exact h.own hE ho)

/-- How the reading of a value ends. -/
def VlE (rb : Nat) (s : ByteArray) (d : Nat) (w : World) (R : Rs (List Nd)) (e : Ending) (w' : World) : Prop :=
  Kb w.heap.size rb w w' ∧ match R with
  | .ok v k => ∃ V, e = .returned V ∧ OwnN w.heap.size w' V v ∧ Rd rb s k d w'
  | .bad c p => e = flt c p
theorem VlE.ok {rb : Nat} {s : ByteArray} {d k : Nat} {w w' : World} {R : Rs (List Nd)} {v : List Nd} {V : Value} (hR : R = .ok v k) (h1 : Kb w.heap.size rb w w') (h2 : OwnN w.heap.size w' V v) (h3 : Rd rb s k d w') : VlE rb s d w R (.returned V) w' := by subst hR; exact ⟨h1, V, rfl, h2, h3⟩
theorem VlE.bad {rb : Nat} {s : ByteArray} {d p : Nat} {w w' : World} {R : Rs (List Nd)} {c : Int} (hR : R = .bad c p) (h1 : Kb w.heap.size rb w w') : VlE rb s d w R (flt c p) w' := by subst hR; exact ⟨h1, rfl⟩
/-- What one who reads a part does: what it has gathered lies in St. -/
def PtE {β : Type} (rb : Nat) (s : ByteArray) (d : Nat) (St : Nat → β → World → Prop) (base : World) (R : Rs β) (e : Ending) (w' : World) : Prop :=
  Kb base.heap.size rb base w' ∧ match R with
  | .ok v k => e = .returned (.tuple #[]) ∧ St k v w' ∧ Rd rb s k d w'
  | .bad c p => e = flt c p
theorem PtE.ok {β : Type} {rb : Nat} {s : ByteArray} {d k : Nat} {St : Nat → β → World → Prop} {base w' : World} {R : Rs β} {v : β} (hR : R = .ok v k) (h1 : Kb base.heap.size rb base w') (h2 : St k v w') (h3 : Rd rb s k d w') : PtE rb s d St base R (.returned (.tuple #[])) w' := by subst hR; exact ⟨h1, rfl, h2, h3⟩
theorem PtE.bad {β : Type} {rb : Nat} {s : ByteArray} {d p : Nat} {St : Nat → β → World → Prop} {base w' : World} {R : Rs β} {c : Int} (hR : R = .bad c p) (h1 : Kb base.heap.size rb base w') : PtE rb s d St base R (flt c p) w' := by subst hR; exact ⟨h1, rfl⟩
theorem PtE.flt {β : Type} {rb : Nat} {s : ByteArray} {d p : Nat} {St : Nat → β → World → Prop} {base w' : World} {R : Rs β} {c : Int} (hR : R = .bad c p) (q : Int) (hq : q = p) (h1 : Kb base.heap.size rb base w') : PtE rb s d St base R (.panicked [{ v := .iface 53 (.agg #[.int .i64 c, .int .i64 q]), recovered := false }]) w' := by subst hq; exact PtE.bad hR h1
end Go.Proofs.YtafbojiojeemoaaGreatDoor

/-
  A card's argument that is a value: a row of nodes.
-/
namespace Go.Proofs.YtafbojiojeemoaaGreatDoor
open Go.ChangeShapes Go.WideShapes Go.ChangeAt Go.RowKit Go.Deep Np

theorem list_of {α : Type} (R : Nat → α → Prop) : ∀ n, (∀ i, i < n → ∃ y, R i y) → ∃ l : List α, l.length = n ∧ ∀ i y, l[i]? = some y → R i y
  | 0, _ => ⟨[], rfl, fun i y h => by simp at h⟩
  | n + 1, h => by
    obtain ⟨l, h1, h2⟩ := list_of R n (fun i hi => h i (by omega))
    obtain ⟨y, hy⟩ := h n (by omega)
    refine ⟨l ++ [y], by simp [h1], fun i z hz => ?_⟩
    rcases Nat.lt_or_ge i l.length with hi | hi
    · rw [List.getElem?_append_left hi] at hz; exact h2 i z hz
    · rw [List.getElem?_append_right hi] at hz
      have hi0 : i - l.length = 0 := by
        rcases Nat.eq_zero_or_pos (i - l.length) with h0 | h0
        · exact h0
        · rw [List.getElem?_eq_none (by simp; omega)] at hz; cases hz
      rw [hi0] at hz
      simp at hz
      subst hz
      rw [show i = n by omega]; exact hy
section
variable {H : Type} {enc : TypeId × Value → H} {P : Program} {w : World} {base : Nat} {sp : Nat → Bool} {held : Bool}
/-- A slice whose elements read as these. -/
theorem open_rows {α : Type} {en : α → List Value} {sz : Nat} {Q : α → DataW H → Prop} {t e : TypeId} {fuel : Nat} {v : Value} {x : DataW H × List MemPlace} (ht : P.underlying t = some (.slice e)) (hc : P.cellsOf e = sz) (hp : 0 < sz) (hl : ∀ y, (en y).length = sz)
    (rd : ∀ n cs d, DataW.trod enc P w base sp held n e cs = some d → ∃ y, cs = en y ∧ Q y d.1) (h : DataW.trod enc P w base sp held fuel t [v] = some x) :
    ∃ l : List α, Row en sz w v l ∧ (x.1 = .nil ∧ l = [] ∨ ∃ ds sp', x.1 = .slice ds sp' ∧ ds.length = l.length ∧ ∀ (i : Nat) (y : α), l[i]? = some y → ∃ d ∈ ds, Q y d) := by
  rcases open_slice ht h with ⟨h1, h2⟩ | ⟨a, len, cap, m, n, D, Pl, h1, hb, hle, hm, hmm, hx, hi⟩
  · simp at h1; subst h1
    exact ⟨[], Row.nil w, .inl ⟨by rw [h2], rfl⟩⟩
  · simp at h1; subst h1
    have hlm : len ≤ m := by rw [hmm]; split <;> omega
    obtain ⟨l, hll, hR⟩ := list_of (fun i (y : α) => w.cells? base (a.add (i * sz)) sz = some (en y) ∧ Q y (D i)) len (fun i hil => by
      obtain ⟨cs', h3, h4⟩ := hi i (by omega)
      obtain ⟨y, rfl, hQ⟩ := rd n cs' _ h4
      rw [hc] at h3
      exact ⟨y, h3, hQ⟩)
    refine ⟨l, ?_, .inr ⟨(List.range len).map D, _, by rw [hx], by simp [hll], fun i y hy => ⟨D i, ?_, (hR i y hy).2⟩⟩⟩
    · refine ⟨some a, cap, by rw [hll], by rw [hll]; exact hle, hm, fun h => (by cases h), fun h0 => ?_⟩
      obtain ⟨y0, hy0⟩ : ∃ y, l[0]? = some y := ⟨_, List.getElem?_eq_getElem h0⟩
      have h5 := (World.cells?_some (hR 0 y0 hy0).1).2.2 0 hp
      rw [Nat.zero_mul] at h5
      have e0 : (a.add 0).add 0 = a := by simp [Addr.add]
      rw [e0] at h5
      obtain ⟨u0, hu0⟩ : ∃ u, (en y0)[0]? = some u := ⟨_, List.getElem?_eq_getElem (by rw [hl]; exact hp)⟩
      rw [hu0] at h5
      have hspot := World.cell?_spot h5
      have hlt := World.block_lt_of_cell? _ _ h5
      obtain ⟨g, o, s⟩ := a
      simp only at hspot hlt
      subst hspot
      refine ⟨g, o, rfl, hlt, fun k y hk j u hu => ?_⟩
      have hj : j < sz := by rw [← hl y]; exact (List.getElem?_eq_some_iff.1 hu).1
      have h6 := (World.cells?_some (hR k y hk).1).2.2 j hj
      rw [hu, add_add] at h6
      rw [Nat.add_assoc, ← h6]
      unfold Addr.add
      split
      · rename_i h7; rw [h7]; rfl
      · rfl
    · have hk := (List.getElem?_eq_some_iff.1 hy).1
      exact List.mem_map.2 ⟨i, List.mem_range.2 (by omega), rfl⟩
end
section
variable {H : Type} {enc : TypeId × Value → H} {w : World} {base : Nat} {sp : Nat → Bool} {held : Bool}
set_option maxRecDepth 100000 in
theorem rd_node : ∀ n cs (d : DataW H × List MemPlace), DataW.trod enc Tryz.prog w base sp held n 35 cs = some d → ∃ y : Nd, cs = ndc y ∧ True := by
  intro fuel l d hf
  obtain ⟨xs, n, -, -, hl, hx, hg⟩ := DataW.trod_struct Tryz.underlying35 hf
  rw [show Tryz.prog.cellsOf 35 = 6 by kernel_rfl] at hl
  have c3 : Tryz.prog.cellsOf 3 = 1 := by kernel_rfl
  have c9 : Tryz.prog.cellsOf 9 = 1 := by kernel_rfl
  have c4 : Tryz.prog.cellsOf 4 = 1 := by kernel_rfl
  have at' : ∀ i, (h : i < xs.length) → xs[i]? = some (xs[i]'h) := fun i h => List.getElem?_eq_getElem h
  have hx6 : xs.length = 6 := hx
  match l, hl with
  | [v0, v1, v2, v3, v4, v5], _ =>
    have g0 := (hg 0 _ rfl).trans (at' 0 (by omega))
    have g1 := (hg 1 _ rfl).trans (at' 1 (by omega))
    have g2 := (hg 2 _ rfl).trans (at' 2 (by omega))
    have g3 := (hg 3 _ rfl).trans (at' 3 (by omega))
    have g4 := (hg 4 _ rfl).trans (at' 4 (by omega))
    have g5 := (hg 5 _ rfl).trans (at' 5 (by omega))
    simp only [List.getElem_toArray, List.getElem_cons_zero, List.getElem_cons_succ, c3, c9, c4] at g0 g1 g2 g3 g4 g5
    obtain ⟨k, e0, -, -⟩ := DataW.trod_int Tryz.underlying3 g0
    obtain ⟨m, e1, -, -⟩ := DataW.trod_int Tryz.underlying3 g1
    obtain ⟨nm, e2, -, hnm⟩ := DataW.trod_string Tryz.underlying9 g2
    obtain ⟨s, e3, -, hs⟩ := DataW.trod_string Tryz.underlying9 g3
    obtain ⟨b, e4, -⟩ := DataW.trod_bool Tryz.underlying4 g4
    obtain ⟨x, e5, -, hxw⟩ := DataW.trod_int Tryz.underlying3 g5
    simp at e0 e1 e2 e3 e4 e5
    subst e0 e1 e2 e3 e4 e5
    exact ⟨⟨k, m, nm.data.toList, s.data.toList, b, x⟩, rfl, trivial⟩
theorem cells_node : Tryz.prog.cellsOf 35 = 6 := by kernel_rfl
set_option maxRecDepth 100000 in
/-- A row of nodes. -/
theorem open_val {r : Reach} {b0 : Nat} {v : Value} {d : DataW H} {ps : List MemPlace} (hv : Value.okWide Tryz.prog w r b0 24 v) (h : DataW.Trod enc Tryz.prog w base sp held 24 v d ps) :
    ∃ l : List Nd, Nds w v l := by
  obtain ⟨a, len, cap, rfl⟩ := okWide_slice Tryz.underlying24 hv
  obtain ⟨fuel, hf⟩ := h
  obtain ⟨l, h1, -⟩ := open_rows (Q := fun _ _ => True) Tryz.underlying24 cells_node (by decide) ndc_len (fun n cs d h => rd_node n cs d h) hf
  exact ⟨l, h1⟩
end
end Go.Proofs.YtafbojiojeemoaaGreatDoor
