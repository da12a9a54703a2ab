/-
  What val.byName answers: the places of some names, so that the names rise.
-/
import Derived.Test.YtoomgpbfcpnefaaDoorCmpW
import Derived.Test.YtoomgpbfcpnefaaDoorShelf
import Derived.Test.YtoomgpbfcpnefaaDoorObjP
import Derived.Shelf.SlSortCmp.NoneTotal
namespace Go.Proofs.YtoomgpbfcpnefaaDoor
open Go.RowKit Go.Shelf Go.Lib Go.Sort Np

/-- A place's value. -/
def enF {m : Nat} (i : Fin (m + 1)) : Value := .int .i64 (i.val : Int)
theorem enF_one {m : Nat} : OneCell (enF (m := m)) := fun _ => rfl
def cfF (names : List (List UInt8)) {m : Nat} (i j : Fin (m + 1)) : Int := cmpB (atN names i.val) (atN names j.val)
theorem cmpB_neg (a b : List UInt8) : decide (cmpB a b < 0) = decide (a < b) := by
  have h1 := cmpB_lt a b
  have h3 : cmpB a b = -1 ∨ cmpB a b = 0 ∨ cmpB a b = 1 := by unfold cmpB; (repeat' split) <;> simp
  rw [decide_eq_decide, ← h1]
  omega
theorem ltF (names : List (List UInt8)) {m : Nat} (i j : Fin (m + 1)) : ltOf (cfF names) i j = decide (atN names i.val < atN names j.val) := cmpB_neg _ _
theorem swoF (names : List (List UInt8)) {m : Nat} : SWO (ltOf (cfF names (m := m))) where
  irrefl x := by rw [ltF]; simp [List.lt_irrefl]
  trans x y z h1 h2 := by rw [ltF] at *; simp only [decide_eq_true_eq] at *; exact List.lt_trans h1 h2
  ntrans x y z h1 h2 := by
    rw [ltF] at *; simp only [decide_eq_false_iff_not] at *
    intro h3
    exact absurd h3 (List.not_lt.2 (List.le_trans (List.not_lt.1 h2) (List.not_lt.1 h1)))

theorem idF_get {m : Nat} (j : Nat) (hj : j < m + 1) : (Array.ofFn (fun i : Fin (m + 1) => i))[j]! = ⟨j, hj⟩ := by
  rw [getElem!_pos _ j (by simpa using hj)]; simp
theorem extract_all {α : Type} (a : Array α) (k : Nat) (h : a.size = k) : (a.extract 0 k).toList = a.toList := by subst h; simp
theorem ofFn_range (n : Nat) : (Array.ofFn (fun i : Fin n => i)).toList.map (fun i : Fin n => i.val) = List.range n := by
  apply List.ext_getElem
  · simp
  · intro i h1 h2; rw [List.getElem_map, Array.getElem_toList, Array.getElem_ofFn, List.getElem_range]
/-- What the sort leaves, as places. -/
theorem places_of (names : List (List UInt8)) {m : Nat} (hn : names.length = m + 1) (d0 d' : Array (Fin (m + 1))) (h0 : d0 = Array.ofFn (fun i : Fin (m + 1) => i)) (hp : PermIn 0 d0.size d0 d')
    (hs : SortedIn (ltOf (cfF names)) 0 d0.size d') : d'.size = m + 1 ∧ Places names (d'.toList.map (·.val)) := by
  obtain ⟨h1, -, h3⟩ := hp
  have hsz : d0.size = m + 1 := by rw [h0, Array.size_ofFn]
  rw [extract_all d' d0.size h1, extract_all d0 d0.size rfl] at h3
  have h4 := h3.map (fun i : Fin (m + 1) => i.val)
  rw [h0, ofFn_range] at h4
  refine ⟨h1.trans hsz, ⟨?_, ?_⟩⟩
  · have e : List.range names.length = List.range (m + 1) := congrArg List.range hn
    exact e ▸ h4
  · rw [List.pairwise_map, List.pairwise_iff_getElem]
    intro i j hi hj hij
    have h5 := hs i j (Nat.zero_le _) hij (Nat.lt_of_lt_of_le (by simpa using hj) (Nat.le_of_eq h1))
    rw [ltF, getElem!_pos _ i (by simpa using hi), getElem!_pos _ j (by simpa using hj)] at h5
    simpa using h5

theorem below_grow {B : Nat} {a w : World} (h : Below B a w) (hB : B ≤ w.heap.size) (os : Array Obj) : Below B a (grow w os) :=
  ⟨h.os, h.tape, h.output, Nat.le_trans h.size (by simp [grow]), fun k hk => by
    rw [← h.block k hk]
    show (w.heap ++ os)[k]? = _
    rw [Array.getElem?_append_left (by omega)]⟩
theorem below_putRow {α : Type} [Inhabited α] {B : Nat} {a w : World} (h : Below B a w) (enc : α → Value) (blk off : Nat) (d : Array α) (hb : B ≤ blk) : Below B a (putRow enc w blk off d) :=
  ⟨h.os, h.tape, h.output, by rw [size_putRow]; exact h.size, fun k hk => by
    rw [← h.block k hk]
    show (w.heap.modify blk _)[k]? = _
    rw [Array.getElem?_modify, if_neg (by omega)]⟩
theorem below_sortWorld {α : Type} [Inhabited α] {B : Nat} {a w : World} (h : Below B a w) (enc : α → Value) (blk off n : Nat) (d : Array α) (os : Array Obj) (hb : B ≤ blk) (hB : B ≤ w.heap.size) : Below B a (sortWorld enc w blk off n d os) :=
  below_grow (below_putRow (drewN_below h n) enc blk off d hb) (by rw [size_putRow]; exact hB) os

theorem int_info : (Tryd.prog.info? 3).map (fun i => (i.zero, i.size, i.bytes)) = some (some (.int .i64 0), 1, 8) := by kernel_rfl
theorem elInt : Elem Tryd.prog 67 3 inc 1 8 := by
  obtain ⟨i, hi, hz0, hz1, hz2⟩ := info_parts int_info
  refine ⟨Tryd.underlying67, ⟨i, _, hi, hz0, hz1, hz2, rfl⟩, by decide, inc_len, fun n u hu => ?_⟩
  simp only [inc, List.mem_cons, List.not_mem_nil, or_false] at hu
  subst hu; rfl
theorem make_ints (n : Nat) (hn : n ≤ 1000000) (w : World) : (Instr.makeSlice 67 (.int .i64 (n : Int)) (.int .i64 (n : Int))).run Tryd.prog w = .ok (.slice (some ⟨w.heap.size, 0, none⟩) n n) (w.alloc (.cells (madeCells #[.int .i64 0] n) 3)) := by
  obtain ⟨i, hi, hz0, hz1, hz2⟩ := info_parts int_info
  have := run_make (P := Tryd.prog) w 67 3 i _ Tryd.underlying67 hi hz0 .i64 .i64 n n (by omega) (by omega) (by rw [hz2]; omega) (by omega)
  rw [hz1, Int.toNat_natCast, Nat.mul_one] at this
  exact this

/-- What val.byName hands back. -/
def GivesP (w : World) (names : List (List UInt8)) (e : Ending) (w' : World) : Prop := ∃ v' p, e = .returned v' ∧ Ins w' v' (p.map Int.ofNat) ∧ Places names p ∧ Below w.heap.size w w'
/-- How far the places are numbered. -/
def nums (n k : Nat) : List Int := (List.range n).map fun i => if i < k then (i : Int) else 0
theorem nums_len (n k : Nat) : (nums n k).length = n := by simp [nums]
theorem nums_zero (n : Nat) : nums n 0 = List.replicate n 0 := by
  apply List.ext_getElem <;> simp [nums]
theorem nums_at {n k : Nat} (h : k < n) : (nums n k)[k]? = some 0 := by simp [nums, h]
theorem nums_set {n k : Nat} : (nums n k).set k (k : Int) = nums n (k + 1) := by
  apply List.ext_getElem
  · simp [nums]
  · intro i h1 h2
    simp only [nums, List.getElem_set, List.getElem_map, List.getElem_range]
    by_cases e : k = i
    · subst e; simp
    · rw [if_neg e]
      congr 1
      rw [eq_iff_iff]; omega
theorem nums_all (n : Nat) : nums n n = (List.range n).map Int.ofNat := by
  apply List.ext_getElem
  · simp [nums]
  · intro i h1 h2
    simp [nums] at h1 ⊢
    exact fun h => absurd h (by omega)

set_option maxRecDepth 100000 in
set_option maxHeartbeats 2000000 in
theorem byName_any (v : Value) (names : List (List UInt8)) (w : World) (hv : Sts w v names) (hn : names.length ≤ 65536) :
    Calls Tryd.prog 49 #[v] w (GivesP w names) := by
  have HV := Lib.hid hv
  obtain ⟨A, c, rfl, hc, hcm, -, -⟩ := hv
  have hmk := fun (W : World) => make_ints names.length (by omega) W
  generalize hnn : names.length = n at *
  have HN := Lib.hid hnn; clear hnn
  have HMK := Lib.hid hmk; clear hmk
  go_enter Tryd.func49, Tryd.ntmps49
  have hmk := HMK.out (w.alloc (.cells #[.slice A n c] 32))
  have HO : Hid (Own inc 1 3 (w.heap.size + 1) ((w.alloc (.cells #[.slice A n c] 32)).alloc (.cells (madeCells #[.int .i64 0] n) 3)) (.slice (some ⟨w.heap.size + 1, 0, none⟩) n n) (nums n 0)) := Lib.hid (by
    rw [nums_zero]
    have := Own.made1 (E := 3) (base := w.heap.size + 1) inc_len (w.alloc (.cells #[.slice A n c] 32)) 0 (.int .i64 0) rfl n (by unfold maxLen; omega) (by simp)
    simpa using this)
  simp only [World.size_alloc] at hmk
  go_wp2_with fail
  generalize madeCells #[Value.int .i64 0] n = cs at HO ⊢
  go_loopw [10] (fun i wr => ∃ k : Nat, k ≤ n ∧ i = .int .i64 k ∧ Own inc 1 3 (w.heap.size + 1) wr (.slice (some ⟨w.heap.size + 1, 0, none⟩) n n) (nums n k) ∧ Below (w.heap.size + 1) (w.alloc (.cells #[.slice A n c] 32)) wr) (fun i _ => n - (intOf i).toNat)
  case atStart => exact ⟨0, Nat.zero_le _, rfl, HO.out, (Below.refl _ _).alloc (by simp) _⟩
  case round =>
    obtain ⟨k, hk, rfl, hown, hb⟩ := hrel
    by_cases hlt : k < n
    · have hown' : Own inc 1 3 (w.heap.size + 1) wr (.slice (some ⟨w.heap.size + 1, 0, none⟩) (nums n k).length n) (nums n k) := by rw [nums_len]; exact hown
      have hcell := Own.cell inc_len (j := 0) hown' (nums_at hlt) rfl
      have hfr := hown'.free (k * 1 + 0)
      have hput := Own.put inc_len (j := 0) (y := (k : Int)) (u := .int .i64 k) hown' (nums_at hlt) (by decide) rfl
      rw [nums_set, nums_len] at hput
      simp only [Nat.mul_one, Nat.add_zero] at hcell hfr hput
      have HP := Lib.hid hput
      have HB := Lib.hid hb
      clear hput hown hown' hb
      go_wp2_with fail
      go_roundw
      case rel => exact ⟨k + 1, by omega, by go_num, HP.out, HB.out.setCell (by simp) _⟩
      case measure => simp [intOf]; omega
    · obtain rfl : k = n := by omega
      have hBox : Below (w.heap.size + 1) (w.alloc (.cells #[.slice A k c] 32)) wr := hb
      have hBW : Below w.heap.size w wr := ((Below.refl _ w).alloc (Nat.le_refl _) _).trans (hb.mono (by simp))
      have HBW := Lib.hid hBW
      cases k with
      | zero =>
        have hS := fun W => AnyF.slices_SortFunc_none (P := Tryd.prog) (ρ := Tryd.sortI_ren) { Tryd.sortI with } (some ⟨w.heap.size + 1, 0, none⟩) 0 (.func (.func 63) #[] #[.pointer (some ⟨w.heap.size, 0, none⟩)]) W
        change ∀ W, Calls Tryd.prog 62 _ _ _ at hS
        have HS := Lib.hid hS
        clear hS hBW hb hBox hown
        go_wp2_with (go_at_call 62; refine (HS.out _).mono ?_; rintro e w' ⟨rfl, rfl⟩)
        go_ret
        have e0 := List.eq_nil_of_length_eq_zero HN.out
        subst e0
        exact ⟨_, [], rfl, Row.empty _ _ _ (Nat.zero_le _), ⟨List.Perm.refl _, List.Pairwise.nil⟩, HBW.out⟩
      | succ m =>
        have hg : w.heap.size + 1 < wr.heap.size := (hown.opened (by rw [nums_len]; omega)).elim fun g h => by
          obtain ⟨cap, h1, h2, h3⟩ := h
          injection h1 with e1 _ _
          injection e1 with e1
          injection e1 with e1
          subst e1; exact h3
        have hbox : wr.cell? ⟨w.heap.size, 0, none⟩ = some (.slice A (m + 1) c) := (hb.cell (p := ⟨w.heap.size, 0, none⟩) (by simp)).trans (by simp [World.cell?_alloc_new])
        have hown' : Own inc 1 3 (w.heap.size + 1) wr (.slice (some ⟨w.heap.size + 1, 0, none⟩) (nums (m + 1) (m + 1)).length (m + 1)) (nums (m + 1) (m + 1)) := by rw [nums_len]; exact hown
        have hH : Holds enF wr (w.heap.size + 1) 0 (Array.ofFn (fun i : Fin (m + 1) => i)) := by
          intro j hj
          rw [Array.size_ofFn] at hj
          have h1 := Own.cell inc_len (k := j) (j := 0) hown' (by rw [nums_all, List.getElem?_map, List.getElem?_range hj]; rfl) rfl
          rw [idF_get j hj]
          simp only [Nat.mul_one, Nat.add_zero, Nat.zero_add] at h1 ⊢
          exact ⟨h1, hown'.free j⟩
        have hsz : (Array.ofFn (fun i : Fin (m + 1) => i)).size = m + 1 := Array.size_ofFn
        have eg : ∀ args w, (callFunc 63 args).run Tryd.prog w = .ok (.enter 63 args) w := enters_of Tryd.func63 (by kernel_rfl) rfl
        have hcmp : CmpReads Tryd.prog 63 #[.pointer (some ⟨w.heap.size, 0, none⟩)] enF (cfF names (m := m)) (w.heap.size + 1) 0 (Array.ofFn (fun i : Fin (m + 1) => i)).size wr := by
          intro q os dk _ x y
          have hbs : Below (w.heap.size + 1) wr (sortWorld enF wr (w.heap.size + 1) 0 q dk os) := below_sortWorld (Below.refl _ _) _ _ _ _ _ _ (Nat.le_refl _) (Nat.le_of_lt hg)
          have hx : names[x.val]? = some (atN names x.val) := by rw [atN, List.getD_eq_getElem?_getD, List.getElem?_eq_getElem (by rw [HN.out]; exact x.isLt)]; rfl
          have hy : names[y.val]? = some (atN names y.val) := by rw [atN, List.getD_eq_getElem?_getD, List.getElem?_eq_getElem (by rw [HN.out]; exact y.isLt)]; rfl
          exact byNameC_any names w.heap.size (.slice A (m + 1) c) x.val y.val _ _ _ hx hy ((hbs.cell (p := ⟨w.heap.size, 0, none⟩) (by simp)).trans hbox) (HV.out.below (hBW.trans (hbs.mono (by simp))))
        have hS := Any.slices_SortFunc Tryd.sortI enF enF_one (cfF names (m := m)) (swoF names) 63 #[.pointer (some ⟨w.heap.size, 0, none⟩)] (w.heap.size + 1) 0 (m + 1) (Array.ofFn (fun i : Fin (m + 1) => i)) wr eg hcmp.lays hH hg (by rw [hsz]; omega)
        change Calls Tryd.prog 62 _ _ _ at hS
        have HH := Lib.hid hH
        generalize hd0 : Array.ofFn (fun i : Fin (m + 1) => i) = d0 at *
        have HD0 := Lib.hid hd0
        have HSZ := Lib.hid hsz
        rw [hsz] at hS
        have HS := Lib.hid hS
        clear hS hcmp hH hown hown' hbox eg hsz hd0 hb hBox
        have HG := Lib.hid hg
        go_wp2_with (go_at_call 62; refine HS.out.mono ?_; rintro e w' ⟨rfl, d', q, os, hp, hs, rfl⟩)
        go_ret
        obtain ⟨h1, h2⟩ := places_of names HN.out d0 d' HD0.out.symm (by rw [HSZ.out]; exact hp) (by rw [HSZ.out]; exact hs)
        have hbs : Below w.heap.size w (sortWorld enF wr (w.heap.size + 1) 0 q d' os) := below_sortWorld HBW.out _ _ _ _ _ _ (by omega) (by omega)
        have hh := holds_sortWorld enF wr (w.heap.size + 1) 0 q d0 d' os hg HH.out (by rw [h1, HSZ.out])
        have hlt := lt_sortWorld enF wr (w.heap.size + 1) 0 q d' os hg
        refine ⟨_, d'.toList.map (·.val), rfl, ?_, h2, hbs⟩
        have hlen : ((d'.toList.map (·.val)).map Int.ofNat).length = m + 1 := by simp [h1]
        have := Row.mk (enc := inc) (sz := 1) (w := sortWorld enF wr (w.heap.size + 1) 0 q d' os) (g := w.heap.size + 1) (o := 0) (c := m + 1) (l := (d'.toList.map (·.val)).map Int.ofNat) (by rw [hlen]; exact Nat.le_refl _) (by unfold maxLen; omega) hlt (by
          intro k x hx j u hu
          rw [List.map_map, List.getElem?_map] at hx
          obtain ⟨y, hy, rfl⟩ := Option.map_eq_some_iff.1 hx
          obtain ⟨hk, he⟩ := List.getElem?_eq_some_iff.1 hy
          have h3 := (hh k (by simpa using hk)).1
          rw [getElem!_pos _ k (by simpa using hk)] at h3
          match j, hu with
          | 0, hu =>
            simp [inc] at hu
            subst hu
            simp only [Nat.mul_one, Nat.add_zero, Nat.zero_add] at h3 ⊢
            rw [h3]
            rw [Array.getElem_toList] at he
            rw [he]
            rfl)
        rw [hlen] at this
        exact this
/-- .. with its length. -/
def GivesPn (w : World) (names : List (List UInt8)) (n : Nat) (e : Ending) (w' : World) : Prop := ∃ (A : Option Addr) (c : Nat) (p : List Nat), e = .returned (.slice A n c) ∧ Ins w' (.slice A n c) (p.map Int.ofNat) ∧ p.length = n ∧ Places names p ∧ Below w.heap.size w w'
theorem byName_len (v : Value) (names : List (List UInt8)) (n : Nat) (w : World) (hnn : names.length = n) (hv : Sts w v names) (hn : n ≤ 65536) :
    Calls Tryd.prog 49 #[v] w (GivesPn w names n) :=
  (byName_any v names w hv (by rw [hnn]; exact hn)).mono fun e w' ⟨v', p, h1, h2, h3, h4⟩ => by
    have hl : p.length = n := h3.length.trans hnn
    obtain ⟨A, c, hv, h5⟩ := h2
    rw [List.length_map, hl] at hv
    refine ⟨A, c, p, by rw [h1, hv], ?_, hl, h3, h4⟩
    rw [← hv]
    exact ⟨A, c, by rw [List.length_map, hl]; exact hv, h5⟩
end Go.Proofs.YtoomgpbfcpnefaaDoor
