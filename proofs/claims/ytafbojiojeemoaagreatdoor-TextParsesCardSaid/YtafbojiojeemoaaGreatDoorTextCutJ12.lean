/-
  Joined: NumW7, TxH, TxI.
-/
import Derived.Test.YtafbojiojeemoaaGreatDoorTextCutJ9
import Derived.Test.YtafbojiojeemoaaGreatDoorTextCutJ1
import Derived.Lib.ItoaLen
import Derived.Test.YtafbojiojeemoaaGreatDoorTextCutJ11
import Derived.Test.YtafbojiojeemoaaGreatDoorTextCutJ10

/-
  What num.Print answers.
-/
namespace Go.Proofs.YtafbojiojeemoaaGreatDoor
open Go.RowKit Np

theorem tab_below {n : String} {g : Nat} {k : IntKind} {zs : List Int} {w w' : World} (hg : Tryz.prog.globalNamed n = some g) (h : Lib.TabIs Tryz.prog w n k zs) (hb : Below w.heap.size w w') : Lib.TabIs Tryz.prog w' n k zs := by
  unfold Lib.TabIs World.var? at h ⊢
  simp only [hg, Option.bind_some] at h ⊢
  by_cases hlt : g < w.heap.size
  · rw [hb.block g hlt]; exact h
  · rw [Array.getElem?_eq_none (by omega)] at h; cases h
theorem grow_below' (w : World) (q : Nat) (os : Array Obj) : Below w.heap.size w (Sort.grow (w.drewN q) os) :=
  ⟨rfl, rfl, rfl, by simp [Sort.grow], fun i hi => by
    show (w.heap ++ os)[i]? = w.heap[i]?
    exact Array.getElem?_append_left hi⟩
theorem powTab : Tryz.prog.globalNamed "internal/strconv.uint64pow10" = some 6 := by kernel_rfl

/-- The table of powers of ten, as the library lays it. -/
def PowTab (w : World) : Prop := Lib.TabIs Tryz.prog w "internal/strconv.uint64pow10" .u64 Lib.pow10Tab
theorem PowTab.below {w w' : World} (h : PowTab w) (hb : Below w.heap.size w w') : PowTab w' := tab_below powTab h hb

theorem repeat_int (n : Int) (w : World) (h0 : 0 ≤ n) (h1 : n ≤ 1000000) :
    Calls Tryz.prog 146 #[.string ⟨#[48]⟩, .int .i64 n] w fun e w' => e = .returned (.string ⟨(Lib.repeatL [48] n.toNat).toArray⟩) ∧ Below w.heap.size w w' := by
  obtain ⟨c, rfl⟩ := Int.eq_ofNat_of_zero_le h0
  exact Tryz.strings_Repeat ⟨#[48]⟩ c w (by omega) (by show 1 * c ≤ _; omega)

set_option maxHeartbeats 1000000 in
theorem printPoint_any (f : ByteArray) (b : Nat) (w : World) (hf : f.size ≤ 1000000) (hb0 : 1 ≤ b) (hb1 : b ≤ 20) :
    Calls Tryz.prog 147 #[.string f, .int .i64 b] w fun e w' => e = .returned (.string ⟨(pointF f.data.toList b).toArray⟩) ∧ Below w.heap.size w w' := by
  have hB : Below w.heap.size w w := Below.refl _ _
  have hpl := padF_len f.data.toList b
  have hpu := padF_le f.data.toList b
  have HP : Hid (padF f.data.toList b = Lib.repeatL [48] (b + 1 - f.size) ++ f.data.toList) := Lib.hid (by rw [padF, size_toList])
  have HQ : Hid (pointF f.data.toList b = (padF f.data.toList b).take ((padF f.data.toList b).length - b) ++ 46 :: (padF f.data.toList b).drop ((padF f.data.toList b).length - b)) := Lib.hid rfl
  have HL : Hid (b < f.size → padF f.data.toList b = f.data.toList) := Lib.hid (fun h => padF_long (by rw [size_toList]; exact h))
  rw [size_toList] at hpu
  generalize padF f.data.toList b = pd at *
  go_enter Tryz.func147, Tryz.ntmps147
  go_upto_if 13 with fail
  go_cut [0] (fun s0 wx => s0 = .string ⟨pd.toArray⟩ ∧ Below w.heap.size w wx)
  case first =>
    by_cases hl : f.size ≤ b
    · go_wp2_with fail
      refine (repeat_int _ _ (by omega) (by omega)).mono ?_
      rintro e w1 ⟨rfl, hb⟩
      have hrl : (Lib.repeatL [48] ((b : Int) + 1 - f.size).toNat).length ≤ 21 := by rw [Lib.repeatL_length]; simp; omega
      have HR : Hid (Lib.repeatL [48] ((b : Int) + 1 - f.size).toNat = Lib.repeatL [48] (b + 1 - f.size)) := Lib.hid (by rw [show ((b : Int) + 1 - f.size).toNat = b + 1 - f.size by omega])
      generalize Lib.repeatL [48] ((b : Int) + 1 - f.size).toNat = rp at hrl HR ⊢
      go_wp2_with fail
      go_meet
      refine ⟨?_, hb⟩
      rw [HP.out, ← HR.out]
      exact congrArg Value.string (ByteArray.ext (by simp))
    · have HV := Lib.hid (HL.out (by omega))
      go_wp2_with fail
      go_meet
      refine ⟨?_, hB⟩
      rw [HV.out]
  case rest =>
    obtain ⟨rfl, hBc⟩ := hcut
    go_wp2_with fail
    have hp1 : pd.length - b ≤ pd.length := by omega
    have hp2 : ((pd.length : Int) - b) = ((pd.length - b : Nat) : Int) := by omega
    rw [hp2]
    clear hp2
    generalize pd.length - b = p at *
    go_quiet (fail)
    go_wp2_with fail
    go_ret
    refine ⟨ret_str (a := (ByteArray.mk pd.toArray).extract 0 p ++ ByteArray.mk #[46] ++ (ByteArray.mk pd.toArray).extract p pd.length) ?_, ⟨hBc.os, hBc.tape, hBc.output, hBc.size, hBc.block⟩⟩
    rw [HQ.out, extract_run (ByteArray.mk pd.toArray) 0 p (pd.take p) (by simp), extract_run (ByteArray.mk pd.toArray) p pd.length (pd.drop p) (by show pd.drop p = _; exact (List.take_of_length_le (by simp)).symm)]
    exact ByteArray.ext (by simp)

theorem itoa_any (n : Int) (w : World) (hT : PowTab w) (h0 : -1000000 ≤ n) (h1 : n ≤ 1000000) :
    Calls Tryz.prog 87 #[.int .i64 n] w fun e w' => e = .returned (.string ⟨(Lib.itoa n).toArray⟩) ∧ Below w.heap.size w w' :=
  (Tryz.strconv_Itoa n (by omega) (by omega) w hT).mono fun _ _ ⟨he, k, os, hw⟩ => ⟨he, hw ▸ grow_below' w k os⟩

theorem printPoint_int (f : ByteArray) (n : Int) (w : World) (hf : f.size ≤ 1000000) (h0 : 1 ≤ n) (h1 : n ≤ 20) :
    Calls Tryz.prog 147 #[.string f, .int .i64 n] w fun e w' => e = .returned (.string ⟨(pointF f.data.toList n.toNat).toArray⟩) ∧ Below w.heap.size w w' := by
  obtain ⟨c, rfl⟩ := Int.eq_ofNat_of_zero_le (show 0 ≤ n by omega)
  exact printPoint_any f c w hf (by omega) (by omega)

set_option maxHeartbeats 1000000 in
theorem printSize_any (f : ByteArray) (e : Int) (w : World) (hT : PowTab w) (hf : f.size ≤ 1000000) (he : -1000000 ≤ e) (he2 : e ≤ 1000000) :
    Calls Tryz.prog 102 #[.string f, .int .i64 e] w fun x w' => x = .returned (.string ⟨(printS f.data.toList e).toArray⟩) ∧ Below w.heap.size w w' := by
  have hB : Below w.heap.size w w := Below.refl _ _
  cases hne : f.data.toList.isEmpty
  · have hne2 : f.toList.isEmpty = false := by rw [ByteArray.toList_eq]; exact hne
    have HV : Hid (printS f.data.toList e = if 0 ≤ e ∧ e ≤ 20 - f.size then f.data.toList ++ Lib.repeatL [48] e.toNat
      else if -20 ≤ e ∧ e ≤ -1 then pointF f.data.toList (-e).toNat else f.data.toList ++ 101 :: Lib.itoa e) := Lib.hid (by rw [printS, if_neg (by rw [hne]; decide), size_toList])
    clear hne
    by_cases h1 : 0 ≤ e ∧ e ≤ 20 - f.size
    · have HW := Lib.hid (HV.out.trans (if_pos h1))
      obtain ⟨h1, h2⟩ := h1
      go_enter Tryz.func102, Tryz.ntmps102
      go_wp2_with fail
      refine (repeat_int _ _ (by omega) (by omega)).mono ?_
      rintro x w1 ⟨rfl, hb⟩
      have hrl : (Lib.repeatL [48] e.toNat).length ≤ 21 := by rw [Lib.repeatL_length]; simp; omega
      generalize Lib.repeatL [48] e.toNat = rp at HW hrl ⊢
      go_wp2_with fail
      go_ret
      refine ⟨ret_str (a := f ++ ByteArray.mk rp.toArray) ?_, hb⟩
      rw [HW.out]
      exact ByteArray.ext (by simp)
    · have HW := Lib.hid (HV.out.trans (if_neg h1))
      by_cases h2 : -20 ≤ e ∧ e ≤ -1
      · have HX := Lib.hid (HW.out.trans (if_pos h2))
        clear h1
        obtain ⟨h2, h3⟩ := h2
        have h4 : decide (0 ≤ e) = false := by simp; omega
        go_enter Tryz.func102, Tryz.ntmps102
        go_wp2_with fail
        refine (printPoint_int _ _ _ hf (by omega) (by omega)).mono ?_
        rintro x w1 ⟨rfl, hb⟩
        go_wp2_with fail
        go_ret
        exact ⟨ret_str (by rw [HX.out]), hb⟩
      · have HX := Lib.hid (HW.out.trans (if_neg h2))
        by_cases h0 : 0 ≤ e
        · have h3 : decide (e ≤ 20 - f.size) = false := by simp; omega
          have h4 : decide (e ≤ -1) = false := by simp; omega
          clear h1 h2
          go_enter Tryz.func102, Tryz.ntmps102
          go_wp2_with fail
          refine (itoa_any _ _ hT (by omega) (by omega)).mono ?_
          rintro x w1 ⟨rfl, hb⟩
          have hil := Lib.itoa_length_le e (by omega) (by omega)
          generalize Lib.itoa e = it at HX hil ⊢
          go_wp2_with fail
          go_ret
          refine ⟨ret_str (a := f ++ ByteArray.mk #[101] ++ ByteArray.mk it.toArray) ?_, hb⟩
          rw [HX.out]
          exact ByteArray.ext (by simp)
        · have h3 : decide (0 ≤ e) = false := by simp; omega
          have h4 : decide (-20 ≤ e) = false := by simp; omega
          clear h1 h2
          go_enter Tryz.func102, Tryz.ntmps102
          go_wp2_with fail
          refine (itoa_any _ _ hT (by omega) (by omega)).mono ?_
          rintro x w1 ⟨rfl, hb⟩
          have hil := Lib.itoa_length_le e (by omega) (by omega)
          generalize Lib.itoa e = it at HX hil ⊢
          go_wp2_with fail
          go_ret
          refine ⟨ret_str (a := f ++ ByteArray.mk #[101] ++ ByteArray.mk it.toArray) ?_, hb⟩
          rw [HX.out]
          exact ByteArray.ext (by simp)
  · have hne2 : f.toList.isEmpty = true := by rw [ByteArray.toList_eq]; exact hne
    have HV : Hid (printS f.data.toList e = [48]) := Lib.hid (by rw [printS, if_pos hne])
    clear hne
    go_enter Tryz.func102, Tryz.ntmps102
    go_wp2_with fail
    go_ret
    exact ⟨ret_str (a := ⟨#[48]⟩) (by rw [HV.out]), hB⟩

set_option maxHeartbeats 1000000 in
theorem print_any (k m : Int) (nm s : ByteArray) (g : Bool) (x : Int) (w : World) (hT : PowTab w) (hs : s.size ≤ 1000000) (hx : -1000000 ≤ x) (hx' : x ≤ 1000000) :
    Calls Tryz.prog 68 #[.agg #[.int .i64 k, .int .i64 m, .string nm, .string s, .bool g, .int .i64 x]] w
      fun e w' => e = .returned (.string ⟨(printN s.data.toList g x).toArray⟩) ∧ Below w.heap.size w w' := by
  have hB : Below w.heap.size w w := Below.refl _ _
  have hT1 := fun o => hT.below (hB.alloc (Nat.le_refl _) o)
  cases g
  · have HV : Hid (printN s.data.toList false x = printS s.data.toList x) := Lib.hid rfl
    go_enter Tryz.func68, Tryz.ntmps68
    go_wp2_with fail
    refine (printSize_any _ _ _ (hT1 _) hs hx hx').mono ?_
    rintro e w1 ⟨rfl, hb⟩
    go_wp2_with fail
    go_ret
    exact ⟨ret_str (by rw [HV.out]), (hB.alloc (Nat.le_refl _) _).trans (hb.mono (by simp))⟩
  · have HV : Hid (printN s.data.toList true x = 45 :: printS s.data.toList x) := Lib.hid rfl
    go_enter Tryz.func68, Tryz.ntmps68
    go_wp2_with fail
    refine (printSize_any _ _ _ (hT1 _) hs hx hx').mono ?_
    rintro e w1 ⟨rfl, hb⟩
    have hpl := printS_len s.data.toList x (by rw [size_toList]; exact hs) hx hx'
    generalize printS s.data.toList x = t at HV hpl ⊢
    go_wp2_with fail
    go_ret
    refine ⟨ret_str (a := ByteArray.mk #[45] ++ ByteArray.mk t.toArray) ?_, (hB.alloc (Nat.le_refl _) _).trans (hb.mono (by simp))⟩
    rw [HV.out]
    exact ByteArray.ext (by simp)

end Go.Proofs.YtafbojiojeemoaaGreatDoor

/-
  What the printer's value and parts are.
-/
namespace Go.Proofs.YtafbojiojeemoaaGreatDoor
open Go.RowKit Np Rw Vp Up Qp Tp

/-- A row of nodes that lies below a printer. -/
def NdB (b : Nat) (w : World) (v : Value) (l : List Nd) : Prop :=
  ∃ (A : Option Addr) (c : Nat), v = .slice A l.length c ∧ l.length ≤ c ∧ c ≤ maxLen ∧ (A = none → c = 0) ∧ (0 < l.length → ∃ g o : Nat, A = some ⟨g, o, none⟩ ∧ g < b ∧ ∀ k x, l[k]? = some x → CellsAt w g (o + k * 6) (ndc x))
theorem NdB.below {b : Nat} {w w' : World} {v : Value} {l : List Nd} (h : NdB b w v l) (hb : Below b w w') : NdB b w' v l := by
  obtain ⟨A, c, hv, hc, hm, hz, H⟩ := h
  refine ⟨A, c, hv, hc, hm, hz, fun h0 => ?_⟩
  obtain ⟨g, o, hA, hg, hx⟩ := H h0
  exact ⟨g, o, hA, hg, fun k x hk j u hu => (hb.cell (p := ⟨g, o + k * 6 + j, none⟩) hg).trans (hx k x hk j u hu)⟩
theorem NdB.of {b : Nat} {w : World} {v : Value} {l : List Nd} (h : Nds w v l) (hb : w.heap.size ≤ b) : NdB b w v l := by
  obtain ⟨A, c, hv, hc, hm, hz, H⟩ := h
  refine ⟨A, c, hv, hc, hm, hz, fun h0 => ?_⟩
  obtain ⟨g, o, hA, hg, hx⟩ := H h0
  exact ⟨g, o, hA, by omega, hx⟩
theorem NdB.nil (b : Nat) (w : World) : NdB b w (.slice none 0 0) [] := ⟨none, 0, rfl, Nat.le_refl _, Nat.zero_le _, fun _ => rfl, fun h => absurd h (by simp)⟩
theorem NdB.empty (b : Nat) (w : World) (ad : Addr) : NdB b w (.slice (some ad) 0 0) [] := ⟨some ad, 0, rfl, Nat.le_refl _, Nat.zero_le _, fun h => (by cases h), fun h => absurd h (by simp)⟩
theorem NdB.cons {b : Nat} {w : World} {v : Value} {x : Nd} {l : List Nd} (h : NdB b w v (x :: l)) : ∃ g o c : Nat, v = .slice (some ⟨g, o, none⟩) (l.length + 1) c ∧ l.length + 1 ≤ c ∧ c ≤ maxLen ∧ g < b ∧ Nd6 w g o x ∧ (c ≠ 1 → NdB b w (.slice (some ⟨g, o + 6, none⟩) l.length (c - 1)) l) ∧ (c = 1 → l = []) := by
  obtain ⟨A, c, rfl, hc, hm, -, H⟩ := h
  obtain ⟨g, o, rfl, hg, hx⟩ := H (by simp)
  simp only [List.length_cons] at hc ⊢
  refine ⟨g, o, c, rfl, hc, hm, hg, ?_, fun h1 => ?_, fun h1 => List.eq_nil_of_length_eq_zero (by omega)⟩
  · have := (hx 0 x rfl).nd
    simpa using this
  · refine ⟨_, c - 1, rfl, by omega, by omega, fun h => (by cases h), fun _ => ⟨g, o + 6, rfl, hg, fun k y hk => ?_⟩⟩
    have := hx (k + 1) y (by simpa using hk)
    rwa [show o + (k + 1) * 6 = o + 6 + k * 6 by omega] at this
/-- A cell of another block is written. -/
theorem EmbV.other {b k o : Nat} {p : Value} {ln : Bool} {n : Int} {l : List UInt8} {w : World} (h : EmbV b p ln n l w) {cs : Array Value} {T : TypeId} {fz : Nat × Nat} (hk : w.heap[k]? = some (.cells cs T fz)) (hkb : k ≠ b) (hT : T ≠ 5) (u : Value) : EmbV b p ln n l (w.setCell ⟨k, o, none⟩ u) := by
  obtain ⟨v, hb, hown, hne⟩ := h
  have hv : v.ownBlock ≠ some k := Lib.ownBlock_neF hown hk hT
  refine ⟨v, (Below.heap_setCell w ⟨k, o, none⟩ u b (Ne.symm hkb)).trans hb, ?_, hne⟩
  exact hown.kept (row := some k) ⟨rfl, rfl, rfl, by simp [World.setCell], fun j _ hj => Below.heap_setCell _ _ _ _ (fun e => hj (by simp [e]))⟩ (Or.inr hv)
theorem Emb.other {b k o : Nat} {ln : Bool} {n : Int} {l : List UInt8} {w : World} (h : Emb b ln n l w) {cs : Array Value} {T : TypeId} {fz : Nat × Nat} (hk : w.heap[k]? = some (.cells cs T fz)) (hkb : k ≠ b) (hT : T ≠ 5) (u : Value) : Emb b ln n l (w.setCell ⟨k, o, none⟩ u) := h.elim (fun h => .inl (h.other hk hkb hT u)) (fun h => .inr (h.other hk hkb hT u))
theorem Pk.newer {b k o : Nat} {w w' : World} (h : Pk b w w') (hk : w.heap.size ≤ k) (hb : b ≤ k) (u : Value) : Pk b w (w'.setCell ⟨k, o, none⟩ u) :=
  ⟨h.1.setCell (p := ⟨k, o, none⟩) hb u, fun j ob hj hjb ho => (Below.heap_setCell w' ⟨k, o, none⟩ u j (by have := (Array.getElem?_eq_some_iff.1 hj).1; show j ≠ k; omega)).trans (h.2 j ob hj hjb ho)⟩
/-- What a node must be like, to be printed. -/
structure FitN (n : Nd) : Prop where
  k0 : 0 ≤ n.kind
  k6 : n.kind ≤ 6
  s : n.s.length ≤ 1000000
  nm : n.name.length ≤ 1000000
  e0 : -1000000 ≤ n.e
  e1 : n.e ≤ 1000000
/-- How value ends. -/
def VlP (b : Nat) (ln : Bool) (d : Nat) (L : List UInt8) (r : List Nd) (T : List UInt8) (w : World) (e : Ending) (w' : World) : Prop :=
  ∃ v', e = .returned v' ∧ NdB b w' v' r ∧ Emb b ln d (L ++ T) w' ∧ Pk b w w'
/-- What is asked of the world around. -/
structure En (w0 : World) (b : Nat) (w : World) : Prop where
  pow : PowTab w0
  wds : Wds w0
  lo : w0.heap.size ≤ b
  bl : Below w0.heap.size w0 w
theorem En.pk {w0 : World} {b : Nat} {w w' : World} (h : En w0 b w) (hk : Pk b w w') : En w0 b w' := ⟨h.pow, h.wds, h.lo, h.bl.trans (hk.1.mono h.lo)⟩
theorem En.powAt {w0 : World} {b : Nat} {w : World} (h : En w0 b w) : PowTab w := h.pow.below h.bl
theorem En.wdsAt {w0 : World} {b : Nat} {w : World} (h : En w0 b w) : Wds w := h.wds.below h.bl

/-- What parts does. -/
def PartsP (ln : Bool) (n : Nd) (ks : List (Tr Nd)) : Prop :=
  ∀ (b d : Nat) (L : List UInt8) (r : List Nd) (v : Value) (w0 w : World), En w0 b w → Emb b ln d L w → NdB b w v (flats ks ++ r) → d + (flats ks).length ≤ 999 → (L ++ prB ln d (decide (n.kind = 6)) ks).length ≤ 100000000 →
    Calls Tryz.prog 70 #[.pointer (some ⟨b, 0, none⟩), nda n, v] w (VlP b ln d L r (prB ln d (decide (n.kind = 6)) ks) w)
def ValueP (ln : Bool) (t : Tr Nd) : Prop :=
  ∀ (b d : Nat) (L : List UInt8) (r : List Nd) (v : Value) (w0 w : World), En w0 b w → Emb b ln d L w → NdB b w v (flat t ++ r) → d + (flat t).length ≤ 1000 → (L ++ prT ln d t).length ≤ 100000000 →
    Calls Tryz.prog 35 #[.pointer (some ⟨b, 0, none⟩), v] w (VlP b ln d L r (prT ln d t) w)

set_option maxRecDepth 100000 in
set_option maxHeartbeats 4000000 in
theorem prValue_of (ln : Bool) (n : Nd) (ks : List (Tr Nd)) (hF : FitN n) (hP : n.kind = 5 ∨ n.kind = 6 → PartsP ln n ks) (hk : n.kind ≠ 5 → n.kind ≠ 6 → ks = []) : ValueP ln (.mk n ks) := by
  intro b d L r v w0 w hen hem hnd hd hlen
  rw [flat_mk, List.cons_append] at hnd
  obtain ⟨g, o, c, rfl, hc1, hcm, hgb, hn6, htl, hone⟩ := hnd.cons
  obtain ⟨a0, a1, a2, a3, a4, a5⟩ := hn6
  have hbl := hem.lt
  have HEN := Lib.hid hen
  have HEM := Lib.hid hem
  have HTL := Lib.hid htl
  have HONE := Lib.hid hone
  have HHP := Lib.hid hP
  have HHK := Lib.hid hk
  obtain ⟨k0, k6, hs, hnm, he0, he1⟩ := hF
  have HLN : Hid ((flats ks ++ r).length = (flats ks ++ r).length) := Lib.hid rfl
  generalize hl : (flats ks ++ r).length = N at *
  have HN := Lib.hid hl
  obtain ⟨nk, nmany, nname, ns, nneg, ne⟩ := n
  simp only at a0 a1 a2 a3 a4 a5 k0 k6 hs hnm he0 he1
  clear hen hem hnd htl hone hP hk hl
  have hglt : g < w.heap.size := by omega
  have hgne : ¬ g = w.heap.size := by omega
  obtain ⟨X, hX, HXN⟩ : ∃ X : Value, X = (if c = 1 then .slice (some ⟨g, o, none⟩) 0 0 else .slice (some ⟨g, o + 6, none⟩) N (c - 1)) ∧ Hid (NdB b w X (flats ks ++ r)) := by
    refine ⟨_, rfl, Lib.hid ?_⟩
    split
    · rename_i h; rw [HONE.out h]; exact NdB.empty b w _
    · rename_i h
      exact HTL.out h
  have HXX := Lib.hid hX
  clear HTL HONE
  go_enter Tryz.func35, Tryz.ntmps35
  go_upto_region 3 with fail
  go_cut [5, 6] from 10 to 14 (fun p x wx => p = .pointer (some ⟨w.heap.size, 0, none⟩) ∧ x = X ∧ Below w.heap.size w wx ∧ wx.heap[w.heap.size]? = some (.cells #[.int .i64 nk, .int .i64 nmany, .string ⟨nname.toArray⟩, .string ⟨ns.toArray⟩, .bool nneg, .int .i64 ne] 35 (0, 0)))
  case first =>
    by_cases hc : c = 1
    · subst hc
      have hN0 : N = 0 := by omega
      subst hN0
      rw [if_pos rfl] at hX
      subst hX
      go_region
      all_goals go_wp2_with fail
      all_goals go_meet
      all_goals exact ⟨rfl, rfl, ((Below.refl _ w).alloc (Nat.le_refl _) _).drew, heap_alloc_new w _⟩
    · rw [if_neg hc] at hX
      subst hX
      have z1 : (0 : Int) ≤ (N : Int) := by omega
      have z2 : (1 : Int) ≤ (N : Int) + 1 := by omega
      have z3 : 1 ≤ c := by omega
      have z4 : ¬ (1 = c) := by omega
      go_region
      all_goals go_wp2_with fail
      all_goals go_meet
      all_goals exact ⟨rfl, rfl, ((Below.refl _ w).alloc (Nat.le_refl _) _).drew, heap_alloc_new w _⟩
  case rest =>
    obtain ⟨rfl, he, hb1, hz1⟩ := hcut
    replace he := he.symm
    subst he
    have HB1 := Lib.hid hb1
    have HK1 : Hid (Pk b w wc) := Lib.hid (Pk.of hb1 (Nat.le_of_lt hbl))
    have HEM1 := Lib.hid (HEM.out.below hb1)
    have HEN1 := Lib.hid (HEN.out.pk HK1.out)
    have HX1 := Lib.hid (HXN.out.below (hb1.mono (Nat.le_of_lt hbl)))
    have HZ1 := Lib.hid hz1
    have p0 : wc.cell? ⟨w.heap.size, 0, none⟩ = some (.int .i64 nk) := by rw [Lib.cell_of_heap hz1]; rfl
    have p1 : wc.cell? ⟨w.heap.size, 1, none⟩ = some (.int .i64 nmany) := by rw [Lib.cell_of_heap hz1]; rfl
    have p2 : wc.cell? ⟨w.heap.size, 2, none⟩ = some (.string ⟨nname.toArray⟩) := by rw [Lib.cell_of_heap hz1]; rfl
    have p3 : wc.cell? ⟨w.heap.size, 3, none⟩ = some (.string ⟨ns.toArray⟩) := by rw [Lib.cell_of_heap hz1]; rfl
    have p4 : wc.cell? ⟨w.heap.size, 4, none⟩ = some (.bool nneg) := by rw [Lib.cell_of_heap hz1]; rfl
    have p5 : wc.cell? ⟨w.heap.size, 5, none⟩ = some (.int .i64 ne) := by rw [Lib.cell_of_heap hz1]; rfl
    have pf : ∀ i, wc.frozen? ⟨w.heap.size, i, none⟩ = false := fun i => Lib.frozen_of_heap hz1 i
    have plt : w.heap.size < wc.heap.size := (Array.getElem?_eq_some_iff.1 hz1).1
    have hnb : b < w.heap.size := hbl
    clear hb1 hz1 hX HXX a0 a1 a2 a3 a4 a5 HN HEM HEN HXN hglt hgne hgb hc1
    generalize hnbn : w.heap.size = nb at *
    have HNB := Lib.hid hnbn
    clear hnbn
    by_cases hw : nk = 0 ∨ nk = 1 ∨ nk = 2
    · have hks : ks = [] := HHK.out (by show nk ≠ 5; omega) (by show nk ≠ 6; omega)
      have hT : prT ln d (.mk ⟨nk, nmany, nname, ns, nneg, ne⟩ ks) = wordT nk := by
        rw [prT_mk, if_neg (by show ¬ nk = 5; omega), if_neg (by show ¬ nk = 6; omega)]
        unfold scT; rw [if_pos hw]
      have HTT := Lib.hid hT
      have hww := HEN1.out.wdsAt
      obtain ⟨w0c, w1c, w2c⟩ := hww
      have HS := Lib.hid (fun W h => embString b ln d L ⟨(wordT nk).toArray⟩ W h (by
        rw [mk_size]; rw [hT, List.length_append] at hlen; omega))
      subst hks
      clear hT HHP HHK hlen
      rcases hw with rfl | rfl | rfl
      · simp only [wNull, wFalse, wTrue] at w0c w1c w2c
        have HS2 : Hid (∀ W, Emb b ln d L W → Calls Tryz.prog 49 #[.pointer (some ⟨b, 0, none⟩), .string ⟨#[110, 117, 108, 108]⟩] W fun e w' => e = .returned (.tuple #[.int .i64 4, .nilIface]) ∧ Emb b ln d (L ++ wordT 0) w' ∧ Pk b W w') := Lib.hid (fun W h => HS.out W h)
        go_upto_region 8 with fail
        go_region_with (go_at_call 49; refine (HS2.out wc.drew HEM1.out.drew).mono ?_; rintro e w2 ⟨rfl, h2, hk2⟩)
        all_goals go_wp2_with fail
        all_goals go_ret
        all_goals exact ⟨_, rfl, HX1.out.below ((Below.refl b wc).drew.trans hk2.1), by rw [HTT.out]; exact h2, HK1.out.trans (((Pk.refl b wc).drew).trans hk2)⟩
      · simp only [wNull, wFalse, wTrue] at w0c w1c w2c
        have HS2 : Hid (∀ W, Emb b ln d L W → Calls Tryz.prog 49 #[.pointer (some ⟨b, 0, none⟩), .string ⟨#[102, 97, 108, 115, 101]⟩] W fun e w' => e = .returned (.tuple #[.int .i64 5, .nilIface]) ∧ Emb b ln d (L ++ wordT 1) w' ∧ Pk b W w') := Lib.hid (fun W h => HS.out W h)
        go_upto_region 8 with fail
        go_region_with (go_at_call 49; refine (HS2.out wc.drew HEM1.out.drew).mono ?_; rintro e w2 ⟨rfl, h2, hk2⟩)
        all_goals go_wp2_with fail
        all_goals go_ret
        all_goals exact ⟨_, rfl, HX1.out.below ((Below.refl b wc).drew.trans hk2.1), by rw [HTT.out]; exact h2, HK1.out.trans (((Pk.refl b wc).drew).trans hk2)⟩
      · simp only [wNull, wFalse, wTrue] at w0c w1c w2c
        have HS2 : Hid (∀ W, Emb b ln d L W → Calls Tryz.prog 49 #[.pointer (some ⟨b, 0, none⟩), .string ⟨#[116, 114, 117, 101]⟩] W fun e w' => e = .returned (.tuple #[.int .i64 4, .nilIface]) ∧ Emb b ln d (L ++ wordT 2) w' ∧ Pk b W w') := Lib.hid (fun W h => HS.out W h)
        go_upto_region 8 with fail
        go_region_with (go_at_call 49; refine (HS2.out wc.drew HEM1.out.drew).mono ?_; rintro e w2 ⟨rfl, h2, hk2⟩)
        all_goals go_wp2_with fail
        all_goals go_ret
        all_goals exact ⟨_, rfl, HX1.out.below ((Below.refl b wc).drew.trans hk2.1), by rw [HTT.out]; exact h2, HK1.out.trans (((Pk.refl b wc).drew).trans hk2)⟩
    · by_cases h3 : nk = 3
      · subst h3
        have hks : ks = [] := HHK.out (by show (3 : Int) ≠ 5; decide) (by show (3 : Int) ≠ 6; decide)
        have hT : prT ln d (.mk ⟨3, nmany, nname, ns, nneg, ne⟩ ks) = printN ns nneg ne := by
          rw [prT_mk, if_neg (by show ¬ (3 : Int) = 5; decide), if_neg (by show ¬ (3 : Int) = 6; decide)]; rfl
        have HTT := Lib.hid hT
        have HS : Hid (∀ W, Emb b ln d L W → Calls Tryz.prog 49 #[.pointer (some ⟨b, 0, none⟩), .string ⟨(printN ns nneg ne).toArray⟩] W fun e w' => e = .returned (.tuple #[.int .i64 (ByteArray.mk (printN ns nneg ne).toArray).size, .nilIface]) ∧ Emb b ln d (L ++ printN ns nneg ne) w' ∧ Pk b W w') := Lib.hid (fun W h => embString b ln d L ⟨(printN ns nneg ne).toArray⟩ W h (by
          rw [mk_size]; rw [hT, List.length_append] at hlen; omega))
        have HPR : Hid (∀ W, PowTab W → Calls Tryz.prog 68 #[.agg #[.int .i64 3, .int .i64 nmany, .string ⟨#[]⟩, .string ⟨ns.toArray⟩, .bool nneg, .int .i64 ne]] W fun e w' => e = .returned (.string ⟨(printN ns nneg ne).toArray⟩) ∧ Below W.heap.size W w') := Lib.hid (fun W h => print_any 3 nmany ⟨#[]⟩ ⟨ns.toArray⟩ nneg ne W h (by rw [mk_size]; omega) he0 he1)
        have hlo := HEN1.out.lo
        have HPW : Hid (PowTab (wc.setCell ⟨nb, 2, none⟩ (.string ⟨#[]⟩)).drew) := Lib.hid (HEN1.out.pow.below (HEN1.out.bl.setCell (p := ⟨nb, 2, none⟩) (by show w0.heap.size ≤ nb; omega) _).drew)
        have HEM2 : Hid (Emb b ln d L (wc.setCell ⟨nb, 2, none⟩ (.string ⟨#[]⟩))) := Lib.hid (HEM1.out.other HZ1.out (by omega) (by decide) _)
        have HK2 : Hid (Pk b w (wc.setCell ⟨nb, 2, none⟩ (.string ⟨#[]⟩))) := Lib.hid (HK1.out.newer (by rw [HNB.out]; exact Nat.le_refl _) (by omega) _)
        have HX2 : Hid (NdB b (wc.setCell ⟨nb, 2, none⟩ (.string ⟨#[]⟩)) X (flats ks ++ r)) := Lib.hid (HX1.out.below ((Below.refl b wc).setCell (p := ⟨nb, 2, none⟩) (by show b ≤ nb; omega) _))
        have hsz : (wc.setCell ⟨nb, 2, none⟩ (.string ⟨#[]⟩)).heap.size = wc.heap.size := by simp [World.setCell]
        have hbw : b ≤ wc.heap.size := by omega
        subst hks
        clear hT HHP HHK hlen HX1 HK1 HEM1 HEN1
        generalize printN ns nneg ne = T at *
        go_upto_region 11 with fail
        go_region_with (first
          | (go_at_call 68; refine (HPR.out _ HPW.out).mono ?_; rintro e w2 ⟨rfl, hb2⟩; have HB2 := Lib.hid hb2; clear hb2)
          | (go_at_call 49; refine (HS.out w2 (HEM2.out.drew.below HB2.out)).mono ?_; rintro e w3 ⟨rfl, h3, hk3⟩))
        all_goals go_wp2_with fail
        all_goals go_ret
        all_goals exact ⟨_, rfl, HX2.out.below (((Below.refl b _).drew.trans (HB2.out.mono (by show b ≤ _; rw [show ∀ W : World, W.drew.heap.size = W.heap.size from fun _ => rfl, hsz]; exact hbw))).trans hk3.1), by rw [HTT.out]; exact h3, (HK2.out.drew.trans (Pk.of HB2.out (by rw [show ∀ W : World, W.drew.heap.size = W.heap.size from fun _ => rfl, hsz]; exact hbw))).trans hk3⟩
      by_cases h4 : nk = 4
      · subst h4
        have hks : ks = [] := HHK.out (by show (4 : Int) ≠ 5; decide) (by show (4 : Int) ≠ 6; decide)
        have hT : prT ln d (.mk ⟨4, nmany, nname, ns, nneg, ne⟩ ks) = quo ns := by
          rw [prT_mk, if_neg (by show ¬ (4 : Int) = 5; decide), if_neg (by show ¬ (4 : Int) = 6; decide)]; rfl
        have HTT := Lib.hid hT
        have HS : Hid (∀ W, Emb b ln d L W → Calls Tryz.prog 49 #[.pointer (some ⟨b, 0, none⟩), .string ⟨(quo ns).toArray⟩] W fun e w' => e = .returned (.tuple #[.int .i64 (ByteArray.mk (quo ns).toArray).size, .nilIface]) ∧ Emb b ln d (L ++ quo ns) w' ∧ Pk b W w') := Lib.hid (fun W h => embString b ln d L ⟨(quo ns).toArray⟩ W h (by
          rw [mk_size]; rw [hT, List.length_append] at hlen; omega))
        have HQ : Hid (∀ W, Calls Tryz.prog 69 #[.string ⟨ns.toArray⟩] W fun e w' => e = .returned (.string ⟨(quo ns).toArray⟩) ∧ Below W.heap.size W w') := Lib.hid (fun W => quote_any ⟨ns.toArray⟩ W (by rw [mk_size]; omega))
        have hbw : b ≤ wc.heap.size := by omega
        subst hks
        clear hT HHP HHK hlen HEN1
        generalize quo ns = T at *
        go_upto_region 13 with fail
        go_region_with (first
          | (go_at_call 69; refine (HQ.out _).mono ?_; rintro e w2 ⟨rfl, hb2⟩; have HB2 := Lib.hid hb2; clear hb2)
          | (go_at_call 49; refine (HS.out w2 (HEM1.out.drew.below HB2.out)).mono ?_; rintro e w3 ⟨rfl, h3, hk3⟩))
        all_goals go_wp2_with fail
        all_goals go_ret
        all_goals exact ⟨_, rfl, HX1.out.below (((Below.refl b _).drew.trans (HB2.out.mono hbw)).trans hk3.1), by rw [HTT.out]; exact h3, (HK1.out.drew.trans (Pk.of HB2.out hbw)).trans hk3⟩
      have hks : nk = 5 ∨ nk = 6 := by omega
      clear hw
      rcases hks with rfl | rfl
      · have hT : prT ln d (.mk ⟨5, nmany, nname, ns, nneg, ne⟩ ks) = 91 :: (prB ln d false ks ++ [93]) := by rw [prT_mk, if_pos (show (5 : Int) = 5 from rfl)]
        have hTE : L ++ prT ln d (.mk ⟨5, nmany, nname, ns, nneg, ne⟩ ks) = L ++ [91] ++ prB ln d false ks ++ [93] := by rw [hT]; simp
        have HTE := Lib.hid hTE
        rw [hTE] at hlen
        have hl1 : (L ++ [91] ++ prB ln d false ks).length ≤ 100000000 := by rw [List.length_append] at hlen; omega
        have hl2 : L.length ≤ 100000000 := by rw [List.length_append, List.length_append] at hl1; omega
        have HW1 := Lib.hid (embByte b ln d L 91 wc HEM1.out (by omega))
        have HW3 := Lib.hid (fun W h => embByte b ln d (L ++ [91] ++ prB ln d false ks) 93 W h (by omega))
        have HPT : Hid (∀ W, En w0 b W → Emb b ln d (L ++ [91]) W → NdB b W X (flats ks ++ r) → Calls Tryz.prog 70 #[.pointer (some ⟨b, 0, none⟩), .agg #[.int .i64 5, .int .i64 nmany, .string ⟨nname.toArray⟩, .string ⟨ns.toArray⟩, .bool nneg, .int .i64 ne], X] W (VlP b ln d (L ++ [91]) r (prB ln d false ks) W)) := Lib.hid (fun W h1 h2 h3 =>
          HHP.out (.inl rfl) b d (L ++ [91]) r X w0 W h1 h2 h3 (by rw [flat_mk, List.length_cons] at hd; omega) hl1)
        clear hT hTE hlen hl1 hl2 HHP HHK p0 p1 p2 p3 p4 p5 pf
        have q0 : wc.cell? ⟨nb, 0, none⟩ = some (.int .i64 5) := by rw [Lib.cell_of_heap HZ1.out]; rfl
        go_wp2_with (first
          | (go_at_call_of 48 (91 : Int); refine HW1.out.mono ?_; rintro e w1 ⟨rfl, h1, hk1⟩; have zz := hk1.other HZ1.out (by omega) (by decide); have y0 : w1.cell? ⟨nb, 0, none⟩ = some (.int .i64 5) := (by rw [Lib.cell_of_heap zz]; rfl); have y1 : w1.cell? ⟨nb, 1, none⟩ = some (.int .i64 nmany) := (by rw [Lib.cell_of_heap zz]; rfl); have y2 : w1.cell? ⟨nb, 2, none⟩ = some (.string ⟨nname.toArray⟩) := (by rw [Lib.cell_of_heap zz]; rfl); have y3 : w1.cell? ⟨nb, 3, none⟩ = some (.string ⟨ns.toArray⟩) := (by rw [Lib.cell_of_heap zz]; rfl); have y4 : w1.cell? ⟨nb, 4, none⟩ = some (.bool nneg) := (by rw [Lib.cell_of_heap zz]; rfl); have y5 : w1.cell? ⟨nb, 5, none⟩ = some (.int .i64 ne) := (by rw [Lib.cell_of_heap zz]; rfl); have HE2 := Lib.hid h1; have HK2 := Lib.hid hk1; clear h1 hk1 zz)
          | (go_at_call 70; refine (HPT.out _ (HEN1.out.pk HK2.out) HE2.out (HX1.out.below HK2.out.1)).mono ?_; rintro e w2 ⟨v', rfl, hx2, h2, hk2⟩; have HX3 := Lib.hid hx2; have HE3 := Lib.hid h2; have HK3 := Lib.hid hk2; clear hx2 h2 hk2)
          | (go_at_call_of 48 (93 : Int); refine (HW3.out _ HE3.out).mono ?_; rintro e w3 ⟨rfl, h3, hk3⟩))
        go_ret
        exact ⟨_, rfl, HX3.out.below hk3.1, by rw [HTE.out]; exact h3, (HK1.out.trans (HK2.out.trans HK3.out)).trans hk3⟩
      · have hT : prT ln d (.mk ⟨6, nmany, nname, ns, nneg, ne⟩ ks) = 123 :: (prB ln d true ks ++ [125]) := by rw [prT_mk, if_neg (show ¬ (6 : Int) = 5 by decide), if_pos (show (6 : Int) = 6 from rfl)]
        have hTE : L ++ prT ln d (.mk ⟨6, nmany, nname, ns, nneg, ne⟩ ks) = L ++ [123] ++ prB ln d true ks ++ [125] := by rw [hT]; simp
        have HTE := Lib.hid hTE
        rw [hTE] at hlen
        have hl1 : (L ++ [123] ++ prB ln d true ks).length ≤ 100000000 := by rw [List.length_append] at hlen; omega
        have hl2 : L.length ≤ 100000000 := by rw [List.length_append, List.length_append] at hl1; omega
        have HW1 := Lib.hid (embByte b ln d L 123 wc HEM1.out (by omega))
        have HW3 := Lib.hid (fun W h => embByte b ln d (L ++ [123] ++ prB ln d true ks) 125 W h (by omega))
        have HPT : Hid (∀ W, En w0 b W → Emb b ln d (L ++ [123]) W → NdB b W X (flats ks ++ r) → Calls Tryz.prog 70 #[.pointer (some ⟨b, 0, none⟩), .agg #[.int .i64 6, .int .i64 nmany, .string ⟨nname.toArray⟩, .string ⟨ns.toArray⟩, .bool nneg, .int .i64 ne], X] W (VlP b ln d (L ++ [123]) r (prB ln d true ks) W)) := Lib.hid (fun W h1 h2 h3 =>
          HHP.out (.inr rfl) b d (L ++ [123]) r X w0 W h1 h2 h3 (by rw [flat_mk, List.length_cons] at hd; omega) hl1)
        clear hT hTE hlen hl1 hl2 HHP HHK p0 p1 p2 p3 p4 p5 pf
        have q0 : wc.cell? ⟨nb, 0, none⟩ = some (.int .i64 6) := by rw [Lib.cell_of_heap HZ1.out]; rfl
        go_wp2_with (first
          | (go_at_call_of 48 (123 : Int); refine HW1.out.mono ?_; rintro e w1 ⟨rfl, h1, hk1⟩; have zz := hk1.other HZ1.out (by omega) (by decide); have y0 : w1.cell? ⟨nb, 0, none⟩ = some (.int .i64 6) := (by rw [Lib.cell_of_heap zz]; rfl); have y1 : w1.cell? ⟨nb, 1, none⟩ = some (.int .i64 nmany) := (by rw [Lib.cell_of_heap zz]; rfl); have y2 : w1.cell? ⟨nb, 2, none⟩ = some (.string ⟨nname.toArray⟩) := (by rw [Lib.cell_of_heap zz]; rfl); have y3 : w1.cell? ⟨nb, 3, none⟩ = some (.string ⟨ns.toArray⟩) := (by rw [Lib.cell_of_heap zz]; rfl); have y4 : w1.cell? ⟨nb, 4, none⟩ = some (.bool nneg) := (by rw [Lib.cell_of_heap zz]; rfl); have y5 : w1.cell? ⟨nb, 5, none⟩ = some (.int .i64 ne) := (by rw [Lib.cell_of_heap zz]; rfl); have HE2 := Lib.hid h1; have HK2 := Lib.hid hk1; clear h1 hk1 zz)
          | (go_at_call 70; refine (HPT.out _ (HEN1.out.pk HK2.out) HE2.out (HX1.out.below HK2.out.1)).mono ?_; rintro e w2 ⟨v', rfl, hx2, h2, hk2⟩; have HX3 := Lib.hid hx2; have HE3 := Lib.hid h2; have HK3 := Lib.hid hk2; clear hx2 h2 hk2)
          | (go_at_call_of 48 (125 : Int); refine (HW3.out _ HE3.out).mono ?_; rintro e w3 ⟨rfl, h3, hk3⟩))
        go_ret
        exact ⟨_, rfl, HX3.out.below hk3.1, by rw [HTE.out]; exact h3, (HK1.out.trans (HK2.out.trans HK3.out)).trans hk3⟩
end Go.Proofs.YtafbojiojeemoaaGreatDoor

/-
  What the printer's parts is.
-/
namespace Go.Proofs.YtafbojiojeemoaaGreatDoor
open Go.RowKit Np Rw Vp Up Qp Tp

/-- How far the text is. -/
def At (ln : Bool) (d : Nat) (ob : Bool) (ks pre post : List (Tr Nd)) (L L' : List UInt8) : Prop := pre = [] ∧ L' = L ∨ pre ≠ [] ∧ L' ++ prK ln d ob post = L ++ prB ln d ob ks
theorem At.next {ln : Bool} {d : Nat} {ob : Bool} {ks pre ts : List (Tr Nd)} {t : Tr Nd} {L L' : List UInt8} (h : At ln d ob ks pre (t :: ts) L L') (hk : ks = pre ++ t :: ts) :
    (L' ++ (if pre = [] then [] else [44]) ++ prL ln (d + 1) ++ (if ob = true then prN ln t.nd.name else []) ++ prT ln (d + 1) t) ++ prK ln d ob ts = L ++ prB ln d ob ks := by
  rcases h with ⟨rfl, rfl⟩ | ⟨h1, h2⟩
  · rw [hk, List.nil_append, prB_cons]; simp
  · rw [if_neg h1, ← h2, prK_cons]; simp

theorem prN_len (ln : Bool) (nm : List UInt8) : (prN ln nm).length = (quo nm).length + (if ln = true then 2 else 1) := by unfold prN; cases ln <;> simp
set_option maxRecDepth 100000 in
set_option maxHeartbeats 8000000 in
theorem prParts_of (ln : Bool) (n : Nd) (ks : List (Tr Nd)) (hm : n.many = ks.length) (h56 : n.kind = 5 ∨ n.kind = 6) (hV : ∀ t ∈ ks, ValueP ln t) (hN : ∀ t ∈ ks, t.nd.name.length ≤ 1000000) : PartsP ln n ks := by
  intro b d L r v w0 w hen hem hnd hd hlen
  obtain ⟨nk, nmany, nname, ns, nneg, ne⟩ := n
  simp only at hm h56 hlen
  subst hm
  have hbl := hem.lt
  have HEN := Lib.hid hen
  have HEM := Lib.hid hem
  have HND := Lib.hid hnd
  have HV := Lib.hid hV
  have HNM := Lib.hid hN
  cases hks : ks with
  | nil =>
    subst hks
    clear hV hN hen hem
    go_enter Tryz.func70, Tryz.ntmps70
    go_wp2_with fail
    go_ret
    have hb1 : Below w.heap.size w (w.alloc (.cells #[.int .i64 nk, .int .i64 ((0 : Nat) : Int), .string ⟨nname.toArray⟩, .string ⟨ns.toArray⟩, .bool nneg, .int .i64 ne] 35)) := (Below.refl _ _).alloc (Nat.le_refl _) _
    exact ⟨_, rfl, HND.out.below (hb1.mono (Nat.le_of_lt hbl)), by rw [prB_nil, List.append_nil]; exact HEM.out.below hb1, Pk.of hb1 (Nat.le_of_lt hbl)⟩
  | cons t0 ts0 =>
    rw [← hks]
    have hne : ks ≠ [] := by rw [hks]; simp
    have hpos : 0 < ks.length := List.length_pos_iff.2 hne
    clear hks
    have c3 := hem.c3
    have f3 := hem.fz 3
    have hbne : ¬ b = w.heap.size := by omega
    have hsz : (w.setCell ⟨b, 3, none⟩ (.int .i64 ((d : Int) + 1))).heap.size = w.heap.size := by simp [World.setCell]
    have HEM2 : Hid (Emb b ln ((d + 1 : Nat) : Int) L ((w.setCell ⟨b, 3, none⟩ (.int .i64 ((d : Int) + 1))).alloc (.cells #[.int .i64 nk, .int .i64 ((ks.length : Nat) : Int), .string ⟨nname.toArray⟩, .string ⟨ns.toArray⟩, .bool nneg, .int .i64 ne] 35))) := Lib.hid ((hem.deep ((d + 1 : Nat) : Int)).alloc _)
    have HK2 : Hid (Pk b w ((w.setCell ⟨b, 3, none⟩ (.int .i64 ((d : Int) + 1))).alloc (.cells #[.int .i64 nk, .int .i64 ((ks.length : Nat) : Int), .string ⟨nname.toArray⟩, .string ⟨ns.toArray⟩, .bool nneg, .int .i64 ne] 35))) := Lib.hid (((Pk.refl b w).setCell 3 _).alloc (by rw [hsz]; exact Nat.le_of_lt hbl) _)
    have HZ2 : Hid (((w.setCell ⟨b, 3, none⟩ (.int .i64 ((d : Int) + 1))).alloc (.cells #[.int .i64 nk, .int .i64 ((ks.length : Nat) : Int), .string ⟨nname.toArray⟩, .string ⟨ns.toArray⟩, .bool nneg, .int .i64 ne] 35)).heap[w.heap.size]? = some (.cells #[.int .i64 nk, .int .i64 ((ks.length : Nat) : Int), .string ⟨nname.toArray⟩, .string ⟨ns.toArray⟩, .bool nneg, .int .i64 ne] 35 (0, 0))) := Lib.hid (by
      have := heap_alloc_new (w.setCell ⟨b, 3, none⟩ (.int .i64 ((d : Int) + 1))) (.cells #[.int .i64 nk, .int .i64 ((ks.length : Nat) : Int), .string ⟨nname.toArray⟩, .string ⟨ns.toArray⟩, .bool nneg, .int .i64 ne] 35)
      rwa [hsz] at this)
    have HND2 := Lib.hid (HND.out.below HK2.out.1)
    have HLEN := Lib.hid hlen
    generalize hM : ks.length = M at *
    have HM := Lib.hid hM
    have hM0 : ¬ M = 0 := by omega
    have hM9 : M ≤ 999 := by have := flats_len ks; omega
    obtain ⟨A0, N0, cc0, rfl⟩ : ∃ (A : Option Addr) (N c : Nat), v = .slice A N c := by obtain ⟨A, c, h, -⟩ := hnd; exact ⟨A, _, c, h⟩
    clear hem hnd hen hV hN hlen hM hsz
    go_enter Tryz.func70, Tryz.ntmps70
    go_wp2_with fail
    generalize (w.setCell ⟨b, 3, none⟩ (.int .i64 ((d : Int) + 1))).alloc (.cells #[.int .i64 nk, .int .i64 ((M : Nat) : Int), .string ⟨nname.toArray⟩, .string ⟨ns.toArray⟩, .bool nneg, .int .i64 ne] 35) = W2 at HEM2 HK2 HZ2 HND2 ⊢
    go_loopw [2, 7] (fun vv iv wr => ∃ (pre post : List (Tr Nd)) (L' : List UInt8), ks = pre ++ post ∧ iv = .int .i64 (pre.length : Nat) ∧ Hid (NdB b wr vv (flats post ++ r)) ∧ Hid (Emb b ln ((d + 1 : Nat) : Int) L' wr) ∧ Hid (Pk b w wr) ∧ Hid (wr.heap[w.heap.size]? = some (.cells #[.int .i64 nk, .int .i64 (M : Nat), .string ⟨nname.toArray⟩, .string ⟨ns.toArray⟩, .bool nneg, .int .i64 ne] 35 (0, 0))) ∧ Hid (At ln d (decide (nk = 6)) ks pre post L L')) (fun _ iv _ => M - (intOf iv).toNat)
    case atStart => exact ⟨[], ks, L, rfl, rfl, HND2, HEM2, HK2, HZ2, Lib.hid (.inl ⟨rfl, rfl⟩)⟩
    case round =>
      obtain ⟨pre, post, L', hpp, rfl, HN3, HE3, HK3, HZ3, HA3⟩ := hrel
      have p0 : wr.cell? ⟨w.heap.size, 0, none⟩ = some (.int .i64 nk) := by rw [Lib.cell_of_heap HZ3.out]; rfl
      have p1 : wr.cell? ⟨w.heap.size, 1, none⟩ = some (.int .i64 (M : Nat)) := by rw [Lib.cell_of_heap HZ3.out]; rfl
      have hlen : pre.length + post.length = M := by rw [← HM.out, hpp]; simp
      have HPP := Lib.hid hpp
      clear hpp
      cases post with
      | nil =>
        have e3 := HE3.out.c3
        have g3 := HE3.out.fz 3
        have hpm : pre.length = M := by simpa using hlen
        have HT : Hid (L' ++ prL ln d = L ++ prB ln d (decide (nk = 6)) ks) := Lib.hid (by
          rcases HA3.out with ⟨h, -⟩ | ⟨-, h⟩
          · subst h; simp at hpm; omega
          · rw [← h, prK_nil])
        have HE4 : Hid (Emb b ln (d : Int) L' (wr.setCell ⟨b, 3, none⟩ (.int .i64 d))) := Lib.hid (HE3.out.deep (d : Int))
        have HK4 : Hid (Pk b w (wr.setCell ⟨b, 3, none⟩ (.int .i64 d))) := Lib.hid (HK3.out.setCell 3 _)
        have HN4 : Hid (NdB b (wr.setCell ⟨b, 3, none⟩ (.int .i64 d)) u2 r) := Lib.hid (by have := HN3.out; rw [flats_nil, List.nil_append] at this; exact this.below ((Below.refl b wr).setCell (p := ⟨b, 3, none⟩) (Nat.le_refl _) _))
        have HLI := Lib.hid (line_any b ln d L' (wr.setCell ⟨b, 3, none⟩ (.int .i64 d)) HE4.out (by omega) (by have := HLEN.out; rw [← HT.out, List.length_append] at this; omega))
        obtain ⟨A1, N1, cc1, rfl⟩ : ∃ (A : Option Addr) (N c : Nat), u2 = .slice A N c := by obtain ⟨A, c, h, -⟩ := HN4.out; exact ⟨A, _, c, h⟩
        go_wp2_with (go_at_call 106; refine HLI.out.mono ?_; rintro e w5 ⟨rfl, h5, hk5⟩)
        go_ret
        exact ⟨_, rfl, HN4.out.below hk5.1, by rw [← HT.out]; exact h5, HK4.out.trans hk5⟩
      | cons t ts =>
        simp only [List.length_cons] at hlen
        have hti : t ∈ ks := by rw [HPP.out]; simp
        have hpb : pre.length ≤ 1000 := by omega
        have hpl : pre.length < M := by omega
        have hfl : flats (t :: ts) ++ r = flat t ++ (flats ts ++ r) := by rw [flats_cons, List.append_assoc]
        have HD2 : d + 1 + (flat t).length ≤ 1000 := by
          have : (flat t).length ≤ (flats ks).length := by rw [HPP.out, flats_append, flats_cons]; simp; omega
          omega
        rw [hfl] at HN3
        have hft : flat t ++ (flats ts ++ r) = t.nd :: (flats t.ks ++ (flats ts ++ r)) := by rw [flat_eq]; rfl
        have hcc := HN3.out
        rw [hft] at hcc
        obtain ⟨g, o, c, hu2, hc1, hcm, hgb, hn6, -, -⟩ := hcc.cons
        have a2 := hn6.c2
        generalize hK : (flats t.ks ++ (flats ts ++ r)).length = K at *
        have HKK := Lib.hid hK
        subst hu2
        clear hcc hn6 hfl hft hK
        by_cases hpre : pre = []
        · have hp0 : ¬ 0 < pre.length := by rw [hpre]; simp
          by_cases h6 : nk = 6
          · have hdec : decide (nk = 6) = true := by simp [h6]
            have hk6 : (nk == 6) = true := by simp [h6]
            have HA4 : Hid ((((L' ++ prL ln (d + 1)) ++ prN ln t.nd.name) ++ prT ln (d + 1) t) ++ prK ln d (decide (nk = 6)) ts = L ++ prB ln d (decide (nk = 6)) ks) := Lib.hid (by
              have := HA3.out.next HPP.out
              rw [if_pos hpre] at this
              simpa [hdec] using this)
            have hl4 : (((L' ++ prL ln (d + 1)) ++ prN ln t.nd.name) ++ prT ln (d + 1) t).length ≤ 100000000 := by have := HLEN.out; rw [← HA4.out, List.length_append] at this; omega
            have hl3 : ((L' ++ prL ln (d + 1)) ++ prN ln t.nd.name).length ≤ 100000000 := by rw [List.length_append] at hl4; omega
            have hl2 : (L' ++ prL ln (d + 1)).length ≤ 100000000 ∧ (quo t.nd.name).length ≤ 100000000 := by rw [List.length_append, prN_len] at hl3; omega
            have hl1 : L'.length ≤ 100000000 := by have := hl2.1; rw [List.length_append] at this; omega
            have HLI := Lib.hid (fun W h => line_any b ln (d + 1) L' W h (by omega) hl1)
            have HNA := Lib.hid (fun W h => name_any b ln ((d + 1 : Nat) : Int) (L' ++ prL ln (d + 1)) t.nd.name W h (HNM.out t hti) hl2.1 hl2.2)
            have HVA := Lib.hid (fun W h1 h2 h3 => HV.out t hti b (d + 1) ((L' ++ prL ln (d + 1)) ++ prN ln t.nd.name) (flats ts ++ r) (.slice (some ⟨g, o, none⟩) (K + 1) c) w0 W h1 h2 h3 (by omega) hl4)
            clear hl1 hl2 hl3 hl4 h6 hdec
            have HPR := Lib.hid hpre
            clear hpre
            go_wp2_with (first
              | (go_at_call 106; refine (HLI.out wr HE3.out).mono ?_; rintro e w4 ⟨rfl, h4, hk4⟩; have hk5 := (Pk.refl b wr).trans hk4; have zz := hk5.other HZ3.out (by omega) (by decide); have y0 : w4.cell? ⟨w.heap.size, 0, none⟩ = some (.int .i64 nk) := (by rw [Lib.cell_of_heap zz]; rfl); have nn : w4.cell? ⟨g, o + 2, none⟩ = some (.string ⟨t.nd.name.toArray⟩) := (hk5.1.cell (p := ⟨g, o + 2, none⟩) hgb).trans a2; have HE5 := Lib.hid h4; have HK5 := Lib.hid hk5; clear h4 hk4 hk5 zz)
              | (go_at_call 107; refine (HNA.out w4 HE5.out).mono ?_; rintro e w5 ⟨rfl, h5, hk5⟩; have HE6 := Lib.hid h5; have HK6 := Lib.hid (HK5.out.trans hk5); clear h5 hk5)
              | (go_at_call 35; refine (HVA.out _ (HEN.out.pk (HK3.out.trans HK6.out)) HE6.out (HN3.out.below HK6.out.1)).mono ?_; rintro e w6 ⟨v', rfl, hx6, h6, hk6⟩; obtain ⟨A2, N2, c2, rfl⟩ : ∃ (A : Option Addr) (N c : Nat), v' = .slice A N c := (by obtain ⟨A, c, h, -⟩ := hx6; exact ⟨A, _, c, h⟩); have HX7 := Lib.hid hx6; have HE7 := Lib.hid h6; have HK7 := Lib.hid (HK6.out.trans hk6); clear hx6 h6 hk6))
            go_roundw
            case rel =>
              refine ⟨pre ++ [t], ts, (((L' ++ prL ln (d + 1)) ++ prN ln t.nd.name) ++ prT ln (d + 1) t), HPP.out.trans (by simp), by first | (simp; done) | go_num, HX7, HE7, Lib.hid (HK3.out.trans HK7.out), Lib.hid (HK7.out.other HZ3.out (by omega) (by decide)), Lib.hid (.inr ⟨by simp, HA4.out⟩)⟩
            case measure => simp [intOf]; omega
          · have hdec : decide (nk = 6) = false := by simp [h6]
            have hk6 : (nk == 6) = false := by simp [h6]
            have HA4 : Hid (((L' ++ prL ln (d + 1)) ++ prT ln (d + 1) t) ++ prK ln d (decide (nk = 6)) ts = L ++ prB ln d (decide (nk = 6)) ks) := Lib.hid (by
              have := HA3.out.next HPP.out
              rw [if_pos hpre] at this
              simpa [hdec] using this)
            have hl4 : ((L' ++ prL ln (d + 1)) ++ prT ln (d + 1) t).length ≤ 100000000 := by have := HLEN.out; rw [← HA4.out, List.length_append] at this; omega
            have hl3 : (L' ++ prL ln (d + 1)).length ≤ 100000000 := by rw [List.length_append] at hl4; omega
            have hl2 : (L' ++ prL ln (d + 1)).length ≤ 100000000 ∧ True := ⟨hl3, trivial⟩
            have hl1 : L'.length ≤ 100000000 := by have := hl2.1; rw [List.length_append] at this; omega
            have HLI := Lib.hid (fun W h => line_any b ln (d + 1) L' W h (by omega) hl1)
            have HVA := Lib.hid (fun W h1 h2 h3 => HV.out t hti b (d + 1) (L' ++ prL ln (d + 1)) (flats ts ++ r) (.slice (some ⟨g, o, none⟩) (K + 1) c) w0 W h1 h2 h3 (by omega) hl4)
            clear hl1 hl2 hl3 hl4 h6 hdec
            have HPR := Lib.hid hpre
            clear hpre
            go_wp2_with (first
              | (go_at_call 106; refine (HLI.out wr HE3.out).mono ?_; rintro e w4 ⟨rfl, h4, hk4⟩; have hk5 := (Pk.refl b wr).trans hk4; have zz := hk5.other HZ3.out (by omega) (by decide); have y0 : w4.cell? ⟨w.heap.size, 0, none⟩ = some (.int .i64 nk) := (by rw [Lib.cell_of_heap zz]; rfl); have nn : w4.cell? ⟨g, o + 2, none⟩ = some (.string ⟨t.nd.name.toArray⟩) := (hk5.1.cell (p := ⟨g, o + 2, none⟩) hgb).trans a2; have HE5 := Lib.hid h4; have HK5 := Lib.hid hk5; clear h4 hk4 hk5 zz)
              | (go_at_call 35; refine (HVA.out _ (HEN.out.pk (HK3.out.trans HK5.out)) HE5.out (HN3.out.below HK5.out.1)).mono ?_; rintro e w6 ⟨v', rfl, hx6, h6, hk6⟩; obtain ⟨A2, N2, c2, rfl⟩ : ∃ (A : Option Addr) (N c : Nat), v' = .slice A N c := (by obtain ⟨A, c, h, -⟩ := hx6; exact ⟨A, _, c, h⟩); have HX7 := Lib.hid hx6; have HE7 := Lib.hid h6; have HK7 := Lib.hid (HK5.out.trans hk6); clear hx6 h6 hk6))
            go_roundw
            case rel =>
              refine ⟨pre ++ [t], ts, ((L' ++ prL ln (d + 1)) ++ prT ln (d + 1) t), HPP.out.trans (by simp), by first | (simp; done) | go_num, HX7, HE7, Lib.hid (HK3.out.trans HK7.out), Lib.hid (HK7.out.other HZ3.out (by omega) (by decide)), Lib.hid (.inr ⟨by simp, HA4.out⟩)⟩
            case measure => simp [intOf]; omega
        · have hp0 : 0 < pre.length := List.length_pos_iff.2 hpre
          by_cases h6 : nk = 6
          · have hdec : decide (nk = 6) = true := by simp [h6]
            have hk6 : (nk == 6) = true := by simp [h6]
            have HA4 : Hid (((((L' ++ [44]) ++ prL ln (d + 1)) ++ prN ln t.nd.name) ++ prT ln (d + 1) t) ++ prK ln d (decide (nk = 6)) ts = L ++ prB ln d (decide (nk = 6)) ks) := Lib.hid (by
              have := HA3.out.next HPP.out
              rw [if_neg hpre] at this
              simpa [hdec] using this)
            have hl4 : ((((L' ++ [44]) ++ prL ln (d + 1)) ++ prN ln t.nd.name) ++ prT ln (d + 1) t).length ≤ 100000000 := by have := HLEN.out; rw [← HA4.out, List.length_append] at this; omega
            have hl3 : (((L' ++ [44]) ++ prL ln (d + 1)) ++ prN ln t.nd.name).length ≤ 100000000 := by rw [List.length_append] at hl4; omega
            have hl2 : ((L' ++ [44]) ++ prL ln (d + 1)).length ≤ 100000000 ∧ (quo t.nd.name).length ≤ 100000000 := by rw [List.length_append, prN_len] at hl3; omega
            have hl1 : (L' ++ [44]).length ≤ 100000000 := by have := hl2.1; rw [List.length_append] at this; omega
            have HWB := Lib.hid (embByte b ln ((d + 1 : Nat) : Int) L' 44 wr HE3.out (by rw [List.length_append] at hl1; omega))
            have HLI := Lib.hid (fun W h => line_any b ln (d + 1) (L' ++ [44]) W h (by omega) hl1)
            have HNA := Lib.hid (fun W h => name_any b ln ((d + 1 : Nat) : Int) ((L' ++ [44]) ++ prL ln (d + 1)) t.nd.name W h (HNM.out t hti) hl2.1 hl2.2)
            have HVA := Lib.hid (fun W h1 h2 h3 => HV.out t hti b (d + 1) (((L' ++ [44]) ++ prL ln (d + 1)) ++ prN ln t.nd.name) (flats ts ++ r) (.slice (some ⟨g, o, none⟩) (K + 1) c) w0 W h1 h2 h3 (by omega) hl4)
            clear hl1 hl2 hl3 hl4 h6 hdec
            have HPR := Lib.hid hpre
            clear hpre
            go_wp2_with (first
              | (go_at_call 48; refine HWB.out.mono ?_; rintro e w3 ⟨rfl, h3, hk3⟩; have HE4 := Lib.hid h3; have HK4 := Lib.hid hk3; clear h3 hk3)
              | (go_at_call 106; refine (HLI.out w3 HE4.out).mono ?_; rintro e w4 ⟨rfl, h4, hk4⟩; have hk5 := HK4.out.trans hk4; have zz := hk5.other HZ3.out (by omega) (by decide); have y0 : w4.cell? ⟨w.heap.size, 0, none⟩ = some (.int .i64 nk) := (by rw [Lib.cell_of_heap zz]; rfl); have nn : w4.cell? ⟨g, o + 2, none⟩ = some (.string ⟨t.nd.name.toArray⟩) := (hk5.1.cell (p := ⟨g, o + 2, none⟩) hgb).trans a2; have HE5 := Lib.hid h4; have HK5 := Lib.hid hk5; clear h4 hk4 hk5 zz)
              | (go_at_call 107; refine (HNA.out w4 HE5.out).mono ?_; rintro e w5 ⟨rfl, h5, hk5⟩; have HE6 := Lib.hid h5; have HK6 := Lib.hid (HK5.out.trans hk5); clear h5 hk5)
              | (go_at_call 35; refine (HVA.out _ (HEN.out.pk (HK3.out.trans HK6.out)) HE6.out (HN3.out.below HK6.out.1)).mono ?_; rintro e w6 ⟨v', rfl, hx6, h6, hk6⟩; obtain ⟨A2, N2, c2, rfl⟩ : ∃ (A : Option Addr) (N c : Nat), v' = .slice A N c := (by obtain ⟨A, c, h, -⟩ := hx6; exact ⟨A, _, c, h⟩); have HX7 := Lib.hid hx6; have HE7 := Lib.hid h6; have HK7 := Lib.hid (HK6.out.trans hk6); clear hx6 h6 hk6))
            go_roundw
            case rel =>
              refine ⟨pre ++ [t], ts, ((((L' ++ [44]) ++ prL ln (d + 1)) ++ prN ln t.nd.name) ++ prT ln (d + 1) t), HPP.out.trans (by simp), by first | (simp; done) | go_num, HX7, HE7, Lib.hid (HK3.out.trans HK7.out), Lib.hid (HK7.out.other HZ3.out (by omega) (by decide)), Lib.hid (.inr ⟨by simp, HA4.out⟩)⟩
            case measure => simp [intOf]; omega
          · have hdec : decide (nk = 6) = false := by simp [h6]
            have hk6 : (nk == 6) = false := by simp [h6]
            have HA4 : Hid ((((L' ++ [44]) ++ prL ln (d + 1)) ++ prT ln (d + 1) t) ++ prK ln d (decide (nk = 6)) ts = L ++ prB ln d (decide (nk = 6)) ks) := Lib.hid (by
              have := HA3.out.next HPP.out
              rw [if_neg hpre] at this
              simpa [hdec] using this)
            have hl4 : (((L' ++ [44]) ++ prL ln (d + 1)) ++ prT ln (d + 1) t).length ≤ 100000000 := by have := HLEN.out; rw [← HA4.out, List.length_append] at this; omega
            have hl3 : ((L' ++ [44]) ++ prL ln (d + 1)).length ≤ 100000000 := by rw [List.length_append] at hl4; omega
            have hl2 : ((L' ++ [44]) ++ prL ln (d + 1)).length ≤ 100000000 ∧ True := ⟨hl3, trivial⟩
            have hl1 : (L' ++ [44]).length ≤ 100000000 := by have := hl2.1; rw [List.length_append] at this; omega
            have HWB := Lib.hid (embByte b ln ((d + 1 : Nat) : Int) L' 44 wr HE3.out (by rw [List.length_append] at hl1; omega))
            have HLI := Lib.hid (fun W h => line_any b ln (d + 1) (L' ++ [44]) W h (by omega) hl1)
            have HVA := Lib.hid (fun W h1 h2 h3 => HV.out t hti b (d + 1) ((L' ++ [44]) ++ prL ln (d + 1)) (flats ts ++ r) (.slice (some ⟨g, o, none⟩) (K + 1) c) w0 W h1 h2 h3 (by omega) hl4)
            clear hl1 hl2 hl3 hl4 h6 hdec
            have HPR := Lib.hid hpre
            clear hpre
            go_wp2_with (first
              | (go_at_call 48; refine HWB.out.mono ?_; rintro e w3 ⟨rfl, h3, hk3⟩; have HE4 := Lib.hid h3; have HK4 := Lib.hid hk3; clear h3 hk3)
              | (go_at_call 106; refine (HLI.out w3 HE4.out).mono ?_; rintro e w4 ⟨rfl, h4, hk4⟩; have hk5 := HK4.out.trans hk4; have zz := hk5.other HZ3.out (by omega) (by decide); have y0 : w4.cell? ⟨w.heap.size, 0, none⟩ = some (.int .i64 nk) := (by rw [Lib.cell_of_heap zz]; rfl); have nn : w4.cell? ⟨g, o + 2, none⟩ = some (.string ⟨t.nd.name.toArray⟩) := (hk5.1.cell (p := ⟨g, o + 2, none⟩) hgb).trans a2; have HE5 := Lib.hid h4; have HK5 := Lib.hid hk5; clear h4 hk4 hk5 zz)
              | (go_at_call 35; refine (HVA.out _ (HEN.out.pk (HK3.out.trans HK5.out)) HE5.out (HN3.out.below HK5.out.1)).mono ?_; rintro e w6 ⟨v', rfl, hx6, h6, hk6⟩; obtain ⟨A2, N2, c2, rfl⟩ : ∃ (A : Option Addr) (N c : Nat), v' = .slice A N c := (by obtain ⟨A, c, h, -⟩ := hx6; exact ⟨A, _, c, h⟩); have HX7 := Lib.hid hx6; have HE7 := Lib.hid h6; have HK7 := Lib.hid (HK5.out.trans hk6); clear hx6 h6 hk6))
            go_roundw
            case rel =>
              refine ⟨pre ++ [t], ts, (((L' ++ [44]) ++ prL ln (d + 1)) ++ prT ln (d + 1) t), HPP.out.trans (by simp), by first | (simp; done) | go_num, HX7, HE7, Lib.hid (HK3.out.trans HK7.out), Lib.hid (HK7.out.other HZ3.out (by omega) (by decide)), Lib.hid (.inr ⟨by simp, HA4.out⟩)⟩
            case measure => simp [intOf]; omega
end Go.Proofs.YtafbojiojeemoaaGreatDoor
