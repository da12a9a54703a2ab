/-
  Joined: BackP, OPick, OrderSorted, OrderSortedSaid.
-/
import Derived.Test.YtbffeffplabaeaaOrderTotalJ16
import Derived.Test.YtbffeffplabaeaaOrderTotalJ22
import Derived.Deep.RegionHeld3

/-
  Plain words: a list's parts are what it was made of; an object, made of its names and parts, is it; parts are right, and less deep. No program stands here.
-/
namespace Go.Proofs.Ytbffeffplabaeaa
namespace Vp
open Go.RowKit Np Rw

theorem setNm_val {t : Tr Nd} (h : Val t) : setNm [] (flat t) = flat t := by rw [← flat_nmd, ← h.nm, nmd_self]
theorem rows_trees : ∀ L : List (List Nd), (∀ l ∈ L, rightL l = true) → ∃ ts : List (Tr Nd), (∀ t ∈ ts, Val t) ∧ L = ts.map flat
  | [], _ => ⟨[], by simp, rfl⟩
  | l :: L, h => by
    obtain ⟨ts, h1, h2⟩ := rows_trees L (fun x hx => h x (by simp [hx]))
    obtain ⟨t, ht, he⟩ := val_of_rightL (h l (by simp))
    exact ⟨t :: ts, by intro x hx; rcases List.mem_cons.1 hx with rfl | hx <;> first | exact ht | exact h1 x hx, by rw [List.map_cons, ← h2, he]⟩
theorem laid_plain : ∀ ts : List (Tr Nd), (∀ t ∈ ts, Val t) → laid ((ts.map flat).map fun l => (([], l) : Pr)) = flats ts
  | [], _ => rfl
  | t :: ts, h => by
    rw [List.map_cons, List.map_cons, laid_cons, laid_plain ts (fun x hx => h x (by simp [hx])), flats_cons]
    rw [setNm_val (h t (by simp))]
theorem list_tree {ts : List (Tr Nd)} (h : ∀ t ∈ ts, Val t) : hdN 5 (ts.map flat).length :: laid ((ts.map flat).map fun l => ([], l)) = flat (arrT ts) := by
  rw [laid_plain ts h, flat_arrT, List.length_map]
theorem nmd_all {ts : List (Tr Nd)} (h : ∀ t ∈ ts, t.nd.name = []) : ts.map (fun k => flat (nmd [] k)) = ts.map flat := by
  apply List.map_congr_left
  intro t ht
  conv => rhs; rw [← nmd_self t, h t ht]
theorem part_val {t k : Tr Nd} (h : Val t) (hk : k ∈ t.ks) : Val (nmd [] k) := Val.clr (h.parts k hk).1 (h.parts k hk).2
theorem depth_nmd (nm : List UInt8) (t : Tr Nd) : depth (nmd nm t) = depth t := by rw [depth_eq, depth_eq t]; rfl
theorem depths_le : ∀ {ts : List (Tr Nd)} {k : Tr Nd}, k ∈ ts → depth k ≤ depths ts
  | t :: ts, k, h => by
    rw [depths_cons]
    rcases List.mem_cons.1 h with rfl | h
    · omega
    · have := depths_le h; omega
theorem Val.cont {t : Tr Nd} (h : Val t) (h0 : t.ks ≠ []) : cont t.nd.kind = true := by
  rcases Classical.em (t.nd.kind = 5) with h5 | h5
  · rw [h5]; rfl
  · rcases Classical.em (t.nd.kind = 6) with h6 | h6
    · rw [h6]; rfl
    · exact absurd (h.leaf h5 h6) h0
theorem part_depth {t k : Tr Nd} (h : Val t) (hk : k ∈ t.ks) : depth (nmd [] k) < depth t := by
  rw [depth_nmd, depth_eq t, if_pos (h.cont (by intro e; rw [e] at hk; cases hk))]
  have := depths_le hk
  omega
theorem laid_named : ∀ ks : List (Tr Nd), laid ((ks.map fun k => k.nd.name).zip (ks.map fun k => flat (nmd [] k))) = flats ks
  | [] => rfl
  | k :: ks => by
    rw [List.map_cons, List.map_cons, List.zip_cons_cons, laid_cons, laid_named ks, flats_cons]
    show setNm k.nd.name (flat (nmd [] k)) ++ _ = _
    rw [← flat_nmd, nmd_nmd, nmd_self]
theorem obj_again {t : Tr Nd} (h : Val t) (hk : t.nd.kind = 6) : objB (t.ks.map fun k => k.nd.name) (t.ks.map fun k => flat (nmd [] k)) = true ∧ objV (t.ks.map fun k => k.nd.name) (t.ks.map fun k => flat (nmd [] k)) = flat t := by
  obtain ⟨h1, h2⟩ := h.named hk
  have hr : (t.ks.map fun k => k.nd.name).Pairwise (· < ·) := List.pairwise_map.2 h1
  have hb : objB (t.ks.map fun k => k.nd.name) (t.ks.map fun k => flat (nmd [] k)) = true := by
    refine objB_iff.2 ⟨by simp, ?_, fun s hs => ?_⟩
    · exact hr.imp (fun {a b} hab (e : a = b) => by subst e; exact List.lt_irrefl a hab)
    · obtain ⟨k, hk', rfl⟩ := List.mem_map.1 hs
      exact h2 k hk'
  refine ⟨hb, ?_⟩
  have hz : rises ((t.ks.map fun k => k.nd.name).zip (t.ks.map fun k => flat (nmd [] k))) := by
    have := List.pairwise_map (f := Prod.fst) (l := (t.ks.map fun k => k.nd.name).zip (t.ks.map fun k => flat (nmd [] k))) (R := (· < ·))
    rw [zip_keys (by simp)] at this
    exact this.1 hr
  rw [objV, if_pos hb, srt_of (List.Perm.refl _) hz, laid_named]
  conv => rhs; rw [h.obj hk, flat_objT]
  rw [List.length_map]
theorem arr_again {t : Tr Nd} (h : Val t) (hk : t.nd.kind = 5) : hdN 5 (t.ks.map fun k => flat (nmd [] k)).length :: laid ((t.ks.map fun k => flat (nmd [] k)).map fun l => ([], l)) = flat t := by
  have hn := h.unnamed hk
  have hv : ∀ k ∈ t.ks, Val k := fun k hk' => ⟨(h.parts k hk').1, (h.parts k hk').2, hn k hk'⟩
  rw [nmd_all hn, list_tree hv, ← h.arr hk]
theorem depth_leaf {t : Tr Nd} (h5 : t.nd.kind ≠ 5) (h6 : t.nd.kind ≠ 6) : depth t = 0 := by
  rw [depth_eq, if_neg]
  simp [cont, h5, h6]
theorem mem_flats : ∀ {ts : List (Tr Nd)} {k : Tr Nd} {n : Nd}, k ∈ ts → n ∈ flat k → n ∈ flats ts
  | t :: ts, k, n, h, hn => by
    rw [flats_cons, List.mem_append]
    rcases List.mem_cons.1 h with rfl | h
    · exact .inl hn
    · exact .inr (mem_flats h hn)
theorem len_flats : ∀ {ts : List (Tr Nd)} {k : Tr Nd}, k ∈ ts → (flat k).length ≤ (flats ts).length
  | t :: ts, k, h => by
    rw [flats_cons, List.length_append]
    rcases List.mem_cons.1 h with rfl | h
    · omega
    · have := len_flats h; omega
theorem sum_flats : ∀ ts : List (Tr Nd), ((ts.map flat).map List.length).sum = (flats ts).length
  | [] => rfl
  | t :: ts => by rw [List.map_cons, List.map_cons, List.sum_cons, sum_flats ts, flats_cons, List.length_append]
end Vp
open Go.RowKit Np Rw in
/-- The names of an object's parts. -/
def namesT (t : Tr Nd) : List (List UInt8) := if t.nd.kind = 6 then t.ks.map (fun k => k.nd.name) else []
end Go.Proofs.Ytbffeffplabaeaa

/-
  What the document's own Pick answers: the keys at these places.
-/
namespace Go.Proofs.Ytbffeffplabaeaa
open Go.RowKit Np Rw Vp Ov

/-- Rows that are few are keys. -/
theorem keys_of {w : World} {v : Value} {L : List (List Nd)} (h : Vls w v L) (hf : allFew 60 L = true) : ∃ ts : List (Tr Nd), Keys w v ts ∧ ts.length ≤ 60 ∧ L = ts.map flat := by
  obtain ⟨hsum, hfew⟩ := oallFew_all hf
  obtain ⟨ts, hts, rfl⟩ := rows_trees L (fun l hl => (ofew_all (hfew l hl)).2.2)
  refine ⟨ts, ⟨h, hts, fun t ht => ?_⟩, ?_, rfl⟩
  · have := (ofew_all (hfew _ (List.mem_map_of_mem ht))).1
    omega
  · unfold sumL at hsum
    simp at hsum
    omega
/-- The keys at these places. -/
def pickT (ts : List (Tr Nd)) (P : List Nat) : List (Tr Nd) := P.map fun i => ts.getD i (.mk zeroN [])
theorem pickT_len (ts : List (Tr Nd)) (P : List Nat) : (pickT ts P).length = P.length := by simp [pickT]
theorem cat_pick (ts : List (Tr Nd)) (P : List Nat) {i k : Nat} (hi : i < P.length) (hk : k < P.length) : cat (pickT ts P) i k = cat ts P[i] P[k] := by
  unfold cat
  simp [pickT, List.getD, hi, hk]
/-- What is picked so far. -/
structure PkS (ts : List (Tr Nd)) (w : World) (P : List Nat) (k : Nat) (ov : Value) (wr : World) : Prop where
  ow : ∃ zs, Own slc 1 23 w.heap.size wr ov zs ∧ Els w zs ((pickT ts (P.take k)).map flat) ∧ zs.length = k
  bl : Below w.heap.size w wr
structure PkR (ts : List (Tr Nd)) (w : World) (P : List Nat) (n : Nat) (iv ov : Value) (wr : World) : Prop where
  ex : ∃ (k : Nat) (A : Option Addr) (c : Nat), k ≤ n ∧ iv = .int .i64 k ∧ ov = .slice A k c ∧ Hid (PkS ts w P k ov wr)

set_option maxRecDepth 100000 in
set_option maxHeartbeats 4000000 in
theorem refPick_any (v u : Value) (ts : List (Tr Nd)) (P : List Nat) (w : World) (h : Keys w v ts) (hu : Ins w u (P.map Int.ofNat)) (hP : ∀ x ∈ P, x < ts.length) (hn : P.length ≤ 100000) :
    Calls Try.prog 22 #[v, u] w fun e w' => ∃ (A : Option Addr) (c : Nat), e = .returned (.slice A P.length c) ∧ Keys w' (.slice A P.length c) (pickT ts P) ∧ Below w.heap.size w w' := by
  have HH := Lib.hid h
  have HU := Lib.hid hu
  have HP := Lib.hid hP
  obtain ⟨A, c, hvl⟩ : ∃ (A : Option Addr) (c : Nat), v = .slice A ts.length c := by
    obtain ⟨vs, hl, ⟨A, c, hv, -⟩, -⟩ := h.vls
    rw [List.length_map] at hl
    exact ⟨A, c, by rw [hv, hl]⟩
  subst hvl
  obtain ⟨B, d, rfl, -⟩ := hu
  rw [List.length_map] at HU ⊢
  clear h hP
  generalize hpn : P.length = n at *
  have HPN := Lib.hid hpn
  generalize hnn : ts.length = m at *
  have HM := Lib.hid hnn
  clear hnn hpn
  have hO : Own slc 1 23 w.heap.size (w.alloc (.cells #[] 23)) (.slice (some ⟨w.heap.size, 0, none⟩) 0 0) [] := Own.lit slc_len w #[] [] (Nat.le_refl _) (by simp) rfl
  have HO0 : Hid (PkS ts w P 0 (.slice (some ⟨w.heap.size, 0, none⟩) 0 0) (w.alloc (.cells #[] 23))) := Lib.hid ⟨⟨[], hO, ⟨rfl, fun k z l hz => by simp at hz⟩, rfl⟩, (Below.refl _ _).alloc (Nat.le_refl _) _⟩
  clear hO
  go_enter Try.func22, Try.ntmps22
  go_wp2_with fail
  go_loopw [6, 5] (fun iv ov wr => PkR ts w P n iv ov wr) (fun iv _ _ => n - (intOf iv).toNat)
  case atStart => exact ⟨0, some ⟨w.heap.size, 0, none⟩, 0, Nat.zero_le _, rfl, rfl, HO0⟩
  case round =>
    obtain ⟨k, A1, c1, hk, rfl, rfl, HG⟩ := hrel.ex
    by_cases hlt : k < n
    · have hkP : k < P.length := by rw [HPN.out]; exact hlt
      have htk : P.take (k + 1) = P.take k ++ [P[k]] := List.take_succ_eq_append_getElem hkP
      obtain ⟨g1, o1, c1', e1, -, -, hg1, hx1⟩ := HU.out.opened (by rw [List.length_map, HPN.out]; omega)
      injection e1 with e1 e2 e3
      subst e1
      have p1 : w.cell? ⟨g1, o1 + k, none⟩ = some (.int .i64 (P[k] : Nat)) := (hx1 k (P[k] : Nat) (by rw [List.getElem?_map, List.getElem?_eq_getElem hkP]; rfl)).int
      have q1 := (HG.out.bl.cell (p := ⟨g1, o1 + k, none⟩) hg1).trans p1
      have hPk : P[k] < ts.length := by rw [HM.out]; exact HP.out _ (List.getElem_mem hkP)
      obtain ⟨g2, o2, cc, A2, m2, d2, hv2, hg2, hc2, hn2, -⟩ := HH.out.at (i := P[k]) hPk
      injection hv2 with f1 f2 f3
      subst f1
      have q2 := (HG.out.bl.cell (p := ⟨g2, o2 + P[k], none⟩) hg2).trans hc2
      have hn3 : Nds w (.slice A2 m2 d2) (flat (ts.getD P[k] (.mk zeroN []))) := by rw [getD_at hPk]; exact hn2
      obtain ⟨zs, ho, hels, hzl⟩ := HG.out.ow
      have HO := Lib.hid ho
      have HEL := Lib.hid hels
      have HZ := Lib.hid hzl
      have HN3 := Lib.hid hn3
      have HTK := Lib.hid htk
      have hPm : P[k] < m := by rw [← HM.out]; exact hPk
      have HB := Lib.hid HG.out.bl
      clear p1 hx1 e2 e3 htk hPk hn2 hc2 f2 f3 hn3 ho hels hzl
      generalize P[k] = x at *
      have hr : Row slc 1 (wr.alloc (.cells #[.slice A2 m2 d2] 23)) (.slice (some ⟨wr.heap.size, 0, none⟩) 1 1) [(A2, m2, d2)] := Row.lit slc_len wr 23 #[.slice A2 m2 d2] [(A2, m2, d2)] (by unfold maxLen; simp) rfl
      have HR := Lib.hid hr
      have HO2 := Lib.hid (HO.out.alloc (.cells #[.slice A2 m2 d2] 23))
      clear hr
      go_wp2_with (at_builtin; refine wpList_append_row (base := w.heap.size) elVal rfl _ _ rfl rfl HO2.out rfl HR.out ?_ ?_ ?_ ?_)
      · rw [HZ.out]; unfold maxLen; simp; omega
      · rw [HZ.out]; simp; omega
      · have := HB.out.size; simp; omega
      · intro A4 c4 w4 hown4 hg4 hwh4
        have hb4 : Below wr.heap.size wr (wr.alloc (.cells #[.slice A2 m2 d2] 23)) := (Below.refl _ _).alloc (Nat.le_refl _) _
        have hk4 : Below w.heap.size (wr.alloc (.cells #[.slice A2 m2 d2] 23)) w4 := HO2.out.kept hg4 (by have := HB.out.size; simp; omega)
        have hb5 : Below w.heap.size w w4 := (HB.out.trans (hb4.mono HB.out.size)).trans hk4
        have HS : Hid (PkS ts w P (k + 1) (.slice A4 (zs.length + 1) c4) w4) := Lib.hid (by
          have h9 : (zs ++ [(A2, m2, d2)]).length = k + 1 := by rw [List.length_append, HZ.out]; rfl
          have hown5 : Own slc 1 23 w.heap.size w4 (.slice A4 (zs.length + 1) c4) (zs ++ [(A2, m2, d2)]) := by simpa using hown4
          refine ⟨⟨zs ++ [(A2, m2, d2)], hown5, ?_, h9⟩, hb5⟩
          rw [HTK.out, pickT, List.map_append, List.map_append]
          exact HEL.out.snoc HN3.out)
        clear hown4 hg4 hwh4 hb4 hk4 hb5
        go_wp2_with fail
        go_roundw
        case rel => exact ⟨k + 1, A4, c4, by omega, by go_num, by simp [HZ.out], HS⟩
        case measure => simp [intOf]; omega
    · obtain rfl : k = n := by omega
      obtain ⟨zs, ho, hels, hzl⟩ := HG.out.ow
      have hF : Keys wr (.slice A1 k c1) (pickT ts P) := by
        rw [show P.take k = P from List.take_of_length_le (by rw [HPN.out]; omega)] at hels
        refine ⟨(hels.below HG.out.bl).vls (ho.row slc_len), ?_, ?_⟩
        · intro t ht
          obtain ⟨i, hi, rfl⟩ := List.mem_map.1 ht
          have h1 : i < ts.length := by rw [HM.out]; exact HP.out i hi
          rw [getD_at h1]; exact HH.out.val _ (List.getElem_mem _)
        · intro t ht
          obtain ⟨i, hi, rfl⟩ := List.mem_map.1 ht
          have h1 : i < ts.length := by rw [HM.out]; exact HP.out i hi
          rw [getD_at h1]; exact HH.out.len _ (List.getElem_mem _)
      have HF := Lib.hid hF
      have HB := Lib.hid HG.out.bl
      clear ho hels hF
      go_wp2_with fail
      go_ret
      exact ⟨A1, c1, rfl, HF.out, HB.out⟩
end Go.Proofs.Ytbffeffplabaeaa

/-
  The walk of the statement OrderSorted: it returns true.
-/
namespace Go.Proofs.Ytbffeffplabaeaa
open Go.RowKit Np Rw Vp Ov

/-- A truth value's cell. -/
def boc (b : Bool) : List Value := [.bool b]
theorem boc_len (b : Bool) : (boc b).length = 1 := rfl
theorem bool_info : (Try.prog.info? 4).map (fun i => (i.zero, i.size, i.bytes)) = some (some (.bool false), 1, 1) := by kernel_rfl
theorem make_bools (n : Nat) (hn : n ≤ 1000000) (w : World) : (Instr.makeSlice 40 (.int .i64 (n : Int)) (.int .i64 (n : Int))).run Try.prog w = .ok (.slice (some ⟨w.heap.size, 0, none⟩) n n) (w.alloc (.cells (madeCells #[.bool false] n) 4)) := by
  obtain ⟨i, hi, hz0, hz1, hz2⟩ := info_parts bool_info
  have := run_make (P := Try.prog) w 40 4 i _ Try.underlying40 hi hz0 .i64 .i64 n n (by omega) (by omega) (by rw [hz2]; omega) (by omega)
  rw [hz1, Int.toNat_natCast, Nat.mul_one] at this
  exact this
/-- Which places have been seen. -/
def seenL (n : Nat) (P : List Nat) (k : Nat) : List Bool := (List.range n).map fun j => decide (j ∈ P.take k)
theorem seen_len (n : Nat) (P : List Nat) (k : Nat) : (seenL n P k).length = n := by simp [seenL]
theorem seen_zero (n : Nat) (P : List Nat) : seenL n P 0 = List.replicate n false := by
  apply List.ext_getElem <;> simp [seenL]
theorem seen_at {n : Nat} {P : List Nat} {k : Nat} (hk : k < P.length) (hd : P.Nodup) (hn : P[k] < n) : (seenL n P k)[P[k]]? = some false := by
  have h : P[k] ∉ P.take k := by
    intro hm
    obtain ⟨i, hi, e⟩ := List.getElem_of_mem hm
    rw [List.length_take] at hi
    rw [List.getElem_take] at e
    have := (List.getElem_inj hd).1 e
    omega
  simp [seenL, hn, h]
theorem seen_set {n : Nat} {P : List Nat} {k : Nat} (hk : k < P.length) : (seenL n P k).set P[k] true = seenL n P (k + 1) := by
  apply List.ext_getElem
  · simp [seenL]
  · intro i h1 h2
    rw [List.getElem_set]
    have e : P.take (k + 1) = P.take k ++ [P[k]] := List.take_succ_eq_append_getElem hk
    simp only [seenL, List.getElem_map, List.getElem_range, e, List.mem_append, List.mem_singleton]
    by_cases h : P[k] = i
    · simp [h]
    · have h' : ¬ i = P[k] := fun e => h e.symm
      simp [h, h']
def stayB (P : List Nat) (k : Nat) : Bool := decide (P.take k = List.range k)
theorem stay_step {P : List Nat} {k : Nat} (hk : k < P.length) : stayB P (k + 1) = (stayB P k && decide (P[k] = k)) := by
  have e : P.take (k + 1) = P.take k ++ [P[k]] := List.take_succ_eq_append_getElem hk
  unfold stayB
  rw [e, List.range_succ, Bool.eq_iff_iff]
  simp only [Bool.and_eq_true, decide_eq_true_eq]
  constructor
  · intro h
    obtain ⟨h1, h2⟩ := List.append_inj h (by rw [List.length_take, List.length_range]; omega)
    simp at h2
    exact ⟨h1, h2⟩
  · rintro ⟨h1, h2⟩
    rw [h1, h2]
theorem rise_picked {ts : List (Tr Nd)} {P : List Nat} (hb : P.Pairwise (Bf (cat ts))) : rise (cat (pickT ts P)) P.length = true := by
  rw [rise_iff]
  intro i hi
  rw [cat_pick ts P (by omega) hi]
  have := List.pairwise_iff_getElem.1 hb i (i + 1) (by omega) hi (by omega)
  unfold Bf at this
  omega

structure SoS (w1 : World) (n : Nat) (P : List Nat) (k : Nat) (wr : World) : Prop where
  sn : Own boc 1 4 w1.heap.size wr (.slice (some ⟨w1.heap.size, 0, none⟩) n n) (seenL n P k)
  bl : Below w1.heap.size w1 wr
structure SoR (w1 : World) (P : List Nat) (n : Nat) (iv : Value) (wr : World) : Prop where
  ex : ∃ k : Nat, k ≤ n ∧ iv = .int .i64 k ∧ Hid (SoS w1 n P k wr)
structure StR (w1 : World) (P : List Nat) (n : Nat) (iv bv : Value) (wr : World) : Prop where
  ex : ∃ k : Nat, k ≤ n ∧ iv = .int .i64 k ∧ bv = .bool (stayB P k) ∧ Hid (Below w1.heap.size w1 wr)

set_option maxRecDepth 100000 in
set_option maxHeartbeats 4000000 in
theorem orderSorted_all (v : Value) (ts : List (Tr Nd)) (w : World) (h : Keys w v ts) (hn : ts.length ≤ 60) (hf : allFew 60 (ts.map flat) = true) (hAF : ∀ W, Below w.heap.size w W → Calls Try.prog 10 #[v, .int .i64 (60 : Nat)] W fun e w' => e = .returned (.bool (allFew 60 (ts.map flat))) ∧ Below W.heap.size W w') :
    Calls Try.prog 6 #[v] w fun e w' => e = .returned (.bool true) ∧ Below w.heap.size w w' := by
  have HH := Lib.hid h
  have HAF := Lib.hid hAF
  have HF := Lib.hid hf
  have HS := Lib.hid (fun (W : World) (hb : Below w.heap.size w W) => sort_any v ts W (h.below hb) (by omega))
  have HRS := Lib.hid (fun (W : World) (hb : Below w.heap.size w W) => rises_any v ts W (h.below hb) (by omega))
  obtain ⟨A, c, hvl⟩ : ∃ (A : Option Addr) (c : Nat), v = .slice A ts.length c := by
    obtain ⟨vs, hl, ⟨A, c, hv, -⟩, -⟩ := h.vls
    rw [List.length_map] at hl
    exact ⟨A, c, by rw [hv, hl]⟩
  clear h hAF hf
  subst hvl
  generalize hnn : ts.length = n at *
  have HN := Lib.hid hnn
  clear hnn
  have HPL : Hid ((plc (cat ts) n).length = n) := Lib.hid (plc_len _ _)
  have HPX : Hid (∀ x ∈ plc (cat ts) n, x < n) := Lib.hid fun x hx => plc_lt hx
  have HPB : Hid ((plc (cat ts) n).Pairwise (Bf (cat ts))) := Lib.hid (plc_bf (cat_cp ts) n)
  have HPD : Hid ((plc (cat ts) n).Nodup) := Lib.hid (plc_nodup _ _)
  have HST : Hid (rise (cat ts) n = stayB (plc (cat ts) n) n) := Lib.hid (by
    have h1 := plc_stays (cat_cp ts) n
    unfold stayB
    rw [List.take_of_length_le (by rw [plc_len]; omega), Bool.eq_iff_iff, decide_eq_true_eq]
    exact h1.symm)
  generalize plc (cat ts) n = P at *
  go_enter Try.func6, Try.ntmps6
  go_wp2_with fail
  refine (HAF.out _ (Below.refl _ _)).mono ?_
  rintro e w0 ⟨rfl, hb0⟩
  rw [HF.out]
  have HB0 := Lib.hid hb0
  clear hb0
  go_wp2_with fail
  refine (HS.out _ HB0.out).mono ?_
  rintro e w1 ⟨A1, n1, c1, rfl, hi1, hb1⟩
  obtain rfl : n1 = n := by
    obtain ⟨A2, c2, h2, -⟩ := hi1
    injection h2 with _ h2 _
    rw [h2, List.length_map, HPL.out]
  have HI1 := Lib.hid hi1
  have HB1 := Lib.hid (Below.after HB0.out hb1)
  have hmk := make_bools n1 (by omega) w1
  clear hi1 hb1
  go_wp2_with fail
  clear hmk
  have HSN : Hid (SoS w1 n1 P 0 (w1.alloc (.cells (madeCells #[.bool false] n1) 4))) := Lib.hid ⟨by
    rw [seen_zero]
    exact Own.made1 (E := 4) boc_len w1 false (.bool false) rfl n1 (by unfold maxLen; omega) (Nat.le_refl _), (Below.refl _ _).alloc (Nat.le_refl _) _⟩
  generalize madeCells #[Value.bool false] n1 = cs at HSN ⊢
  go_loopw [5] (fun iv wr => SoR w1 P n1 iv wr) (fun iv _ => n1 - (intOf iv).toNat)
  case atStart => exact ⟨0, Nat.zero_le _, rfl, HSN⟩
  case round =>
    obtain ⟨k, hk, rfl, HG⟩ := hrel.ex
    by_cases hlt : k < n1
    · have hkP : k < P.length := by rw [HPL.out]; exact hlt
      obtain ⟨g1, o1, c1', e1, -, -, hg1, hx1⟩ := HI1.out.opened (by rw [List.length_map, HPL.out]; omega)
      injection e1 with e1 e2 e3
      subst e1
      have HCL : Hid (∀ i x, P[i]? = some x → ∀ W, Below w1.heap.size w1 W → W.cell? ⟨g1, o1 + i, none⟩ = some (.int .i64 (x : Nat))) := Lib.hid fun i x hx W hb => (hb.cell (p := ⟨g1, o1 + i, none⟩) hg1).trans ((hx1 i (x : Nat) (by rw [List.getElem?_map, hx]; rfl)).int)
      have q1 := HCL.out k P[k] (List.getElem?_eq_getElem hkP) wr HG.out.bl
      have hxn := HPX.out _ (List.getElem_mem hkP)
      have hsn : Own boc 1 4 w1.heap.size wr (.slice (some ⟨w1.heap.size, 0, none⟩) (seenL n1 P k).length n1) (seenL n1 P k) := by rw [seen_len]; exact HG.out.sn
      have s1 := Own.cell boc_len (j := 0) hsn (seen_at hkP HPD.out hxn) rfl
      have s2 := hsn.free (P[k] * 1 + 0)
      have s3 := Own.put boc_len (j := 0) (y := true) (u := .bool true) hsn (seen_at hkP HPD.out hxn) (by decide) rfl
      rw [seen_set hkP, seen_len] at s3
      simp only [Nat.mul_one, Nat.add_zero] at s1 s2 s3
      have HS3 : Hid (SoS w1 n1 P (k + 1) (wr.setCell ⟨w1.heap.size, P[k], none⟩ (.bool true))) := Lib.hid ⟨s3, HG.out.bl.setCell (Nat.le_refl _) _⟩
      have hx0 : ¬ ((P[k] : Nat) : Int) < 0 := by omega
      have hx2 : ¬ ((P[k] : Nat) : Int) ≥ (n1 : Int) := by omega
      have HKX : Hid (P[k]? = some P[k]) := Lib.hid (List.getElem?_eq_getElem hkP)
      clear s3 hsn e2 e3 hx1
      generalize P[k] = x at *
      go_upto_region 13 with fail
      clear s1 s2 q1
      generalize wr.setCell ⟨w1.heap.size, x, none⟩ (.bool true) = W1 at HS3 ⊢
      have HW1 := Lib.hid HS3.out.bl
      go_cut [88] from 57 to 88 (fun s88 wx => s88 = .bool false ∧ Hid (Below W1.heap.size W1 wx))
      case first =>
        by_cases h0 : k = 0
        · subst h0
          go_wp2_with fail
          go_quiet (fail)
          all_goals go_wp2_with fail
          all_goals go_meet
          all_goals exact ⟨rfl, Lib.hid (below_quiet ⟨_, rfl⟩)⟩
        · obtain ⟨j, hj⟩ : ∃ j, j + 1 = k := ⟨k - 1, by omega⟩
          have hjP : j < P.length := by rw [HPL.out]; omega
          have HJX : Hid (P[j]? = some P[j]) := Lib.hid (List.getElem?_eq_getElem hjP)
          have hyn := HPX.out _ (List.getElem_mem hjP)
          have hbf : Bf (cat ts) P[j] x := by
            have h1 := List.pairwise_iff_getElem.1 HPB.out j k hjP (by rw [HPL.out]; exact hlt) (by omega)
            have h2 := HKX.out
            rw [List.getElem?_eq_getElem (by rw [HPL.out]; exact hlt)] at h2
            injection h2 with h2
            rwa [h2] at h1
          have q1 := HCL.out k x HKX.out W1 HW1.out
          have q2 := HCL.out j P[j] HJX.out W1 HW1.out
          generalize P[j] = y at *
          obtain ⟨g2, o2, cc, A2, m2, d2, hv2, hg2, hc2, hn2, -⟩ := HH.out.at (i := x) (by rw [HN.out]; exact hxn)
          obtain ⟨g3, o3, cc3, A3, m3, d3, hv3, hg3, hc3, hn3, -⟩ := HH.out.at (i := y) (by rw [HN.out]; exact hyn)
          injection hv2 with f1 f2 f3
          injection hv3 with f4 f5 f6
          have f7 := f1.symm.trans f4
          injection f7 with f7
          injection f7 with f7 f8 f9
          subst f1 f7 f8
          have hB0 : Below w.heap.size w W1 := HB1.out.trans (HW1.out.mono HB1.out.size)
          have q3 := (hB0.cell (p := ⟨g2, o2 + x, none⟩) hg2).trans hc2
          have q4 := (hB0.cell (p := ⟨g2, o2 + y, none⟩) hg3).trans hc3
          have HSM : Hid (∀ W, Below W1.heap.size W1 W → Calls Try.prog 21 #[.slice A2 m2 d2, .slice A3 m3 d3] W fun e w' => e = .returned (.bool (decide (flat (ts[x]'(by rw [HN.out]; exact hxn)) = flat (ts[y]'(by rw [HN.out]; exact hyn))))) ∧ Below W.heap.size W w') := Lib.hid fun W hb => refSame_any _ _ _ _ _ (hn2.below (hB0.trans (hb.mono hB0.size))) (hn3.below (hB0.trans (hb.mono hB0.size)))
          have hl1 : g1 < W1.heap.size := World.block_lt_of_cell? _ _ q1
          have hl2 : g2 < W1.heap.size := World.block_lt_of_cell? _ _ q3
          have HKP : Hid (∀ W, Below W1.heap.size W1 W → W.cell? ⟨g1, o1 + k, none⟩ = some (.int .i64 (x : Nat)) ∧ W.cell? ⟨g1, o1 + j, none⟩ = some (.int .i64 (y : Nat)) ∧ W.cell? ⟨g2, o2 + x, none⟩ = some (.slice A2 m2 d2) ∧ W.cell? ⟨g2, o2 + y, none⟩ = some (.slice A3 m3 d3) ∧ Below W1.heap.size W1 W) := Lib.hid fun W hb => ⟨(hb.cell (p := ⟨g1, o1 + k, none⟩) hl1).trans q1, (hb.cell (p := ⟨g1, o1 + j, none⟩) hl1).trans q2, (hb.cell (p := ⟨g2, o2 + x, none⟩) hl2).trans q3, (hb.cell (p := ⟨g2, o2 + y, none⟩) hl2).trans q4, hb⟩
          have HWD : Hid (Below W1.heap.size W1 W1.drew) := Lib.hid (Below.refl _ W1).drew
          have hcz := cat_zero HH.out.val (i := x) (k := y) (by rw [HN.out]; exact hxn) (by rw [HN.out]; exact hyn)
          have hng := (cat_cp ts).neg y x
          have hz3 : (k : Int) - 1 = (j : Int) := by omega
          have hw4 : IntKind.i64.wrap (j : Int) = (j : Int) := by rw [IntKind.wrap_i64]; omega
          have hw3 : IntKind.i64.wrap ((k : Int) - 1) = (j : Int) := by rw [IntKind.wrap_i64]; omega
          have hk0 : (k : Int) > 0 := by omega
          have hk1 : 0 < k := by omega
          have hkn : (k : Int) < (n1 : Int) := by omega
          have hjn : (j : Int) < (n1 : Int) := by omega
          have hxn2 : (x : Int) < (n1 : Int) := by omega
          have hyn2 : (y : Int) < (n1 : Int) := by omega
          clear hc2 hc3 hn2 hn3 f2 f3 f4 f5 f6 f9 hB0 q1 q2 q3 q4 hl1 hl2 hjP hg2 hg3
          by_cases hsm : flat (ts[x]'(by rw [HN.out]; exact hxn)) = flat (ts[y]'(by rw [HN.out]; exact hyn))
          · have hyx : y ≤ x := by
              have h1 := hcz.2 hsm
              unfold Bf at hbf
              omega
            have hxy : ¬ (x : Int) < (y : Int) := by
              have h1 := hcz.2 hsm
              unfold Bf at hbf
              omega
            rw [decide_eq_true hsm] at HSM
            clear hsm hcz hng hbf hj
            refine wp_region_held_drew (S := (fun w' => w'.cell? ⟨g1, o1 + k, none⟩ = some (.int .i64 (x : Nat)) ∧ w'.cell? ⟨g1, o1 + j, none⟩ = some (.int .i64 (y : Nat)) ∧ w'.cell? ⟨g2, o2 + x, none⟩ = some (.slice A2 m2 d2) ∧ w'.cell? ⟨g2, o2 + y, none⟩ = some (.slice A3 m3 d3) ∧ Below W1.heap.size W1 w')) (by kernel_rfl) (HKP.out _ HWD.out) (fun hH => ?_)
            refine wpAnyH_take (i := 0) (v := .int .i64 (k : Nat)) rfl (by kernel_rfl) (by kernel_rfl) (by kernel_rfl) (fun _ _ _ h => h) (Or.inl ⟨by kernel_rfl, ?_⟩) (by assumption) ?_
            · intro w' hSw; (try dsimp only at hSw); go_simp
            try simp only [Act.put, List.getElem_toArray, List.getElem_cons_zero, List.setIfInBounds_toArray, List.set_cons_zero, List.set_cons_succ]
            refine wpAnyH_take (i := 1) (v := .bool true) rfl (by kernel_rfl) (by kernel_rfl) (by kernel_rfl) (fun _ _ _ h => h) (Or.inl ⟨by kernel_rfl, ?_⟩) (by assumption) ?_
            · intro w' hSw; (try dsimp only at hSw); go_simp
            try simp only [Act.put, List.getElem_toArray, List.getElem_cons_succ, List.getElem_cons_zero, List.setIfInBounds_toArray, List.set_cons_zero, List.set_cons_succ]
            refine wpAnyH_take (i := 2) (v := .bool true) rfl (by kernel_rfl) (by kernel_rfl) (by kernel_rfl) (fun _ _ _ h => h) (Or.inl ⟨by kernel_rfl, ?_⟩) (by assumption) ?_
            · intro w' hSw; (try dsimp only at hSw); go_simp
            try simp only [Act.put, List.getElem_toArray, List.getElem_cons_succ, List.getElem_cons_zero, List.setIfInBounds_toArray, List.set_cons_zero, List.set_cons_succ]
            refine wpAnyH_take (i := 3) (v := .slice (some ⟨g2, o2, none⟩) n1 c) rfl (by kernel_rfl) (by kernel_rfl) (by kernel_rfl) (fun _ _ _ h => h) (Or.inl ⟨by kernel_rfl, ?_⟩) (by assumption) ?_
            · intro w' hSw; (try dsimp only at hSw); go_simp
            try simp only [Act.put, List.getElem_toArray, List.getElem_cons_succ, List.getElem_cons_zero, List.setIfInBounds_toArray, List.set_cons_zero, List.set_cons_succ]
            refine wpAnyH_take (i := 4) (v := .slice (some ⟨g1, o1, none⟩) n1 c1) rfl (by kernel_rfl) (by kernel_rfl) (by kernel_rfl) (fun _ _ _ h => h) (Or.inl ⟨by kernel_rfl, ?_⟩) (by assumption) ?_
            · intro w' hSw; (try dsimp only at hSw); go_simp
            try simp only [Act.put, List.getElem_toArray, List.getElem_cons_succ, List.getElem_cons_zero, List.setIfInBounds_toArray, List.set_cons_zero, List.set_cons_succ]
            refine wpAnyH_take (i := 5) (v := .int .i64 (k : Nat)) rfl (by kernel_rfl) (by kernel_rfl) (by kernel_rfl) (fun _ _ _ h => h) (Or.inl ⟨by kernel_rfl, ?_⟩) (by assumption) ?_
            · intro w' hSw; (try dsimp only at hSw); go_simp
            try simp only [Act.put, List.getElem_toArray, List.getElem_cons_succ, List.getElem_cons_zero, List.setIfInBounds_toArray, List.set_cons_zero, List.set_cons_succ]
            refine wpAnyH_take (i := 6) (v := .pointer (some ⟨g1, o1 + k, none⟩)) rfl (by kernel_rfl) (by kernel_rfl) (by kernel_rfl) (fun _ _ _ h => h) (Or.inl ⟨by kernel_rfl, ?_⟩) (by assumption) ?_
            · intro w' hSw; (try dsimp only at hSw); go_simp
            try simp only [Act.put, List.getElem_toArray, List.getElem_cons_succ, List.getElem_cons_zero, List.setIfInBounds_toArray, List.set_cons_zero, List.set_cons_succ]
            refine wpAnyH_take (i := 7) (v := .int .i64 (x : Nat)) rfl (by kernel_rfl) (by kernel_rfl) (by kernel_rfl) (fun _ _ _ h => h) (Or.inl ⟨by kernel_rfl, ?_⟩) (by assumption) ?_
            · intro w' hSw; (try dsimp only at hSw); go_simp
            try simp only [Act.put, List.getElem_toArray, List.getElem_cons_succ, List.getElem_cons_zero, List.setIfInBounds_toArray, List.set_cons_zero, List.set_cons_succ]
            refine wpAnyH_take (i := 8) (v := .pointer (some ⟨g2, o2 + x, none⟩)) rfl (by kernel_rfl) (by kernel_rfl) (by kernel_rfl) (fun _ _ _ h => h) (Or.inl ⟨by kernel_rfl, ?_⟩) (by assumption) ?_
            · intro w' hSw; (try dsimp only at hSw); go_simp
            try simp only [Act.put, List.getElem_toArray, List.getElem_cons_succ, List.getElem_cons_zero, List.setIfInBounds_toArray, List.set_cons_zero, List.set_cons_succ]
            refine wpAnyH_take (i := 9) (v := .slice A2 m2 d2) rfl (by kernel_rfl) (by kernel_rfl) (by kernel_rfl) (fun _ _ _ h => h) (Or.inl ⟨by kernel_rfl, ?_⟩) (by assumption) ?_
            · intro w' hSw; (try dsimp only at hSw); go_simp
            try simp only [Act.put, List.getElem_toArray, List.getElem_cons_succ, List.getElem_cons_zero, List.setIfInBounds_toArray, List.set_cons_zero, List.set_cons_succ]
            refine wpAnyH_take (i := 10) (v := .slice (some ⟨g2, o2, none⟩) n1 c) rfl (by kernel_rfl) (by kernel_rfl) (by kernel_rfl) (fun _ _ _ h => h) (Or.inl ⟨by kernel_rfl, ?_⟩) (by assumption) ?_
            · intro w' hSw; (try dsimp only at hSw); go_simp
            try simp only [Act.put, List.getElem_toArray, List.getElem_cons_succ, List.getElem_cons_zero, List.setIfInBounds_toArray, List.set_cons_zero, List.set_cons_succ]
            refine wpAnyH_take (i := 11) (v := .slice (some ⟨g1, o1, none⟩) n1 c1) rfl (by kernel_rfl) (by kernel_rfl) (by kernel_rfl) (fun _ _ _ h => h) (Or.inl ⟨by kernel_rfl, ?_⟩) (by assumption) ?_
            · intro w' hSw; (try dsimp only at hSw); go_simp
            try simp only [Act.put, List.getElem_toArray, List.getElem_cons_succ, List.getElem_cons_zero, List.setIfInBounds_toArray, List.set_cons_zero, List.set_cons_succ]
            refine wpAnyH_take (i := 12) (v := .int .i64 (k : Nat)) rfl (by kernel_rfl) (by kernel_rfl) (by kernel_rfl) (fun _ _ _ h => h) (Or.inl ⟨by kernel_rfl, ?_⟩) (by assumption) ?_
            · intro w' hSw; (try dsimp only at hSw); go_simp
            try simp only [Act.put, List.getElem_toArray, List.getElem_cons_succ, List.getElem_cons_zero, List.setIfInBounds_toArray, List.set_cons_zero, List.set_cons_succ]
            refine wpAnyH_take (i := 13) (v := .int .i64 (j : Nat)) rfl (by kernel_rfl) (by kernel_rfl) (by kernel_rfl) (fun _ _ _ h => h) (Or.inl ⟨by kernel_rfl, ?_⟩) (by assumption) ?_
            · intro w' hSw; (try dsimp only at hSw); go_simp
            try simp only [Act.put, List.getElem_toArray, List.getElem_cons_succ, List.getElem_cons_zero, List.setIfInBounds_toArray, List.set_cons_zero, List.set_cons_succ]
            refine wpAnyH_take (i := 14) (v := .pointer (some ⟨g1, o1 + j, none⟩)) rfl (by kernel_rfl) (by kernel_rfl) (by kernel_rfl) (fun _ _ _ h => h) (Or.inl ⟨by kernel_rfl, ?_⟩) (by assumption) ?_
            · intro w' hSw; (try dsimp only at hSw); go_simp
            try simp only [Act.put, List.getElem_toArray, List.getElem_cons_succ, List.getElem_cons_zero, List.setIfInBounds_toArray, List.set_cons_zero, List.set_cons_succ]
            refine wpAnyH_take (i := 15) (v := .int .i64 (y : Nat)) rfl (by kernel_rfl) (by kernel_rfl) (by kernel_rfl) (fun _ _ _ h => h) (Or.inl ⟨by kernel_rfl, ?_⟩) (by assumption) ?_
            · intro w' hSw; (try dsimp only at hSw); go_simp
            try simp only [Act.put, List.getElem_toArray, List.getElem_cons_succ, List.getElem_cons_zero, List.setIfInBounds_toArray, List.set_cons_zero, List.set_cons_succ]
            refine wpAnyH_take (i := 16) (v := .pointer (some ⟨g2, o2 + y, none⟩)) rfl (by kernel_rfl) (by kernel_rfl) (by kernel_rfl) (fun _ _ _ h => h) (Or.inl ⟨by kernel_rfl, ?_⟩) (by assumption) ?_
            · intro w' hSw; (try dsimp only at hSw); go_simp
            try simp only [Act.put, List.getElem_toArray, List.getElem_cons_succ, List.getElem_cons_zero, List.setIfInBounds_toArray, List.set_cons_zero, List.set_cons_succ]
            refine wpAnyH_take (i := 17) (v := .slice A3 m3 d3) rfl (by kernel_rfl) (by kernel_rfl) (by kernel_rfl) (fun _ _ _ h => h) (Or.inl ⟨by kernel_rfl, ?_⟩) (by assumption) ?_
            · intro w' hSw; (try dsimp only at hSw); go_simp
            try simp only [Act.put, List.getElem_toArray, List.getElem_cons_succ, List.getElem_cons_zero, List.setIfInBounds_toArray, List.set_cons_zero, List.set_cons_succ]
            refine wpAnyH_ready (rs := [18]) (by kernel_rfl) (by simp) ?_
            refine AllReadyH.cons rfl (fun K18 hK18 => ?_) AllReadyH.nil
            go_simp
            go_at_call 21
            refine (HSM.out _ HWD.out).mono ?_
            rintro e w3 ⟨rfl, hb3⟩
            have HW3 : Hid (Below W1.heap.size W1 w3) := Lib.hid (Below.after HWD.out hb3)
            clear hb3
            go_wp2_with fail
            refine hK18.out _ _ (HKP.out _ HW3.out) (fun hHeld18 => ?_)
            clear hK18 K18
            try simp only [Act.put, List.getElem_toArray, List.getElem_cons_succ, List.getElem_cons_zero, List.setIfInBounds_toArray, List.set_cons_zero, List.set_cons_succ]
            refine wpAnyH_take (i := 19) (v := .bool true) rfl (by kernel_rfl) (by kernel_rfl) (by kernel_rfl) (fun _ _ _ h => h) (Or.inl ⟨by kernel_rfl, ?_⟩) (by assumption) ?_
            · intro w' hSw; (try dsimp only at hSw); go_simp
            try simp only [Act.put, List.getElem_toArray, List.getElem_cons_succ, List.getElem_cons_zero, List.setIfInBounds_toArray, List.set_cons_zero, List.set_cons_succ]
            refine wpAnyH_take (i := 20) (v := .bool true) rfl (by kernel_rfl) (by kernel_rfl) (by kernel_rfl) (fun _ _ _ h => h) (Or.inl ⟨by kernel_rfl, ?_⟩) (by assumption) ?_
            · intro w' hSw; (try dsimp only at hSw); go_simp
            try simp only [Act.put, List.getElem_toArray, List.getElem_cons_succ, List.getElem_cons_zero, List.setIfInBounds_toArray, List.set_cons_zero, List.set_cons_succ]
            refine wpAnyH_take (i := 21) (v := .slice (some ⟨g1, o1, none⟩) n1 c1) rfl (by kernel_rfl) (by kernel_rfl) (by kernel_rfl) (fun _ _ _ h => h) (Or.inl ⟨by kernel_rfl, ?_⟩) (by assumption) ?_
            · intro w' hSw; (try dsimp only at hSw); go_simp
            try simp only [Act.put, List.getElem_toArray, List.getElem_cons_succ, List.getElem_cons_zero, List.setIfInBounds_toArray, List.set_cons_zero, List.set_cons_succ]
            refine wpAnyH_take (i := 22) (v := .int .i64 (k : Nat)) rfl (by kernel_rfl) (by kernel_rfl) (by kernel_rfl) (fun _ _ _ h => h) (Or.inl ⟨by kernel_rfl, ?_⟩) (by assumption) ?_
            · intro w' hSw; (try dsimp only at hSw); go_simp
            try simp only [Act.put, List.getElem_toArray, List.getElem_cons_succ, List.getElem_cons_zero, List.setIfInBounds_toArray, List.set_cons_zero, List.set_cons_succ]
            refine wpAnyH_take (i := 23) (v := .pointer (some ⟨g1, o1 + k, none⟩)) rfl (by kernel_rfl) (by kernel_rfl) (by kernel_rfl) (fun _ _ _ h => h) (Or.inl ⟨by kernel_rfl, ?_⟩) (by assumption) ?_
            · intro w' hSw; (try dsimp only at hSw); go_simp
            try simp only [Act.put, List.getElem_toArray, List.getElem_cons_succ, List.getElem_cons_zero, List.setIfInBounds_toArray, List.set_cons_zero, List.set_cons_succ]
            refine wpAnyH_take (i := 24) (v := .int .i64 (x : Nat)) rfl (by kernel_rfl) (by kernel_rfl) (by kernel_rfl) (fun _ _ _ h => h) (Or.inl ⟨by kernel_rfl, ?_⟩) (by assumption) ?_
            · intro w' hSw; (try dsimp only at hSw); go_simp
            try simp only [Act.put, List.getElem_toArray, List.getElem_cons_succ, List.getElem_cons_zero, List.setIfInBounds_toArray, List.set_cons_zero, List.set_cons_succ]
            refine wpAnyH_take (i := 25) (v := .slice (some ⟨g1, o1, none⟩) n1 c1) rfl (by kernel_rfl) (by kernel_rfl) (by kernel_rfl) (fun _ _ _ h => h) (Or.inl ⟨by kernel_rfl, ?_⟩) (by assumption) ?_
            · intro w' hSw; (try dsimp only at hSw); go_simp
            try simp only [Act.put, List.getElem_toArray, List.getElem_cons_succ, List.getElem_cons_zero, List.setIfInBounds_toArray, List.set_cons_zero, List.set_cons_succ]
            refine wpAnyH_take (i := 26) (v := .int .i64 (k : Nat)) rfl (by kernel_rfl) (by kernel_rfl) (by kernel_rfl) (fun _ _ _ h => h) (Or.inl ⟨by kernel_rfl, ?_⟩) (by assumption) ?_
            · intro w' hSw; (try dsimp only at hSw); go_simp
            try simp only [Act.put, List.getElem_toArray, List.getElem_cons_succ, List.getElem_cons_zero, List.setIfInBounds_toArray, List.set_cons_zero, List.set_cons_succ]
            refine wpAnyH_take (i := 27) (v := .int .i64 (j : Nat)) rfl (by kernel_rfl) (by kernel_rfl) (by kernel_rfl) (fun _ _ _ h => h) (Or.inl ⟨by kernel_rfl, ?_⟩) (by assumption) ?_
            · intro w' hSw; (try dsimp only at hSw); go_simp
            try simp only [Act.put, List.getElem_toArray, List.getElem_cons_succ, List.getElem_cons_zero, List.setIfInBounds_toArray, List.set_cons_zero, List.set_cons_succ]
            refine wpAnyH_take (i := 28) (v := .pointer (some ⟨g1, o1 + j, none⟩)) rfl (by kernel_rfl) (by kernel_rfl) (by kernel_rfl) (fun _ _ _ h => h) (Or.inl ⟨by kernel_rfl, ?_⟩) (by assumption) ?_
            · intro w' hSw; (try dsimp only at hSw); go_simp
            try simp only [Act.put, List.getElem_toArray, List.getElem_cons_succ, List.getElem_cons_zero, List.setIfInBounds_toArray, List.set_cons_zero, List.set_cons_succ]
            refine wpAnyH_take (i := 29) (v := .int .i64 (y : Nat)) rfl (by kernel_rfl) (by kernel_rfl) (by kernel_rfl) (fun _ _ _ h => h) (Or.inl ⟨by kernel_rfl, ?_⟩) (by assumption) ?_
            · intro w' hSw; (try dsimp only at hSw); go_simp
            try simp only [Act.put, List.getElem_toArray, List.getElem_cons_succ, List.getElem_cons_zero, List.setIfInBounds_toArray, List.set_cons_zero, List.set_cons_succ]
            refine wpAnyH_take (i := 30) (v := .bool false) rfl (by kernel_rfl) (by kernel_rfl) (by kernel_rfl) (fun _ _ _ h => h) (Or.inl ⟨by kernel_rfl, ?_⟩) (by assumption) ?_
            · intro w' hSw; (try dsimp only at hSw); go_simp
            try simp only [Act.put, List.getElem_toArray, List.getElem_cons_succ, List.getElem_cons_zero, List.setIfInBounds_toArray, List.set_cons_zero, List.set_cons_succ]
            refine wpAnyH_take (i := 31) (v := .bool false) rfl (by kernel_rfl) (by kernel_rfl) (by kernel_rfl) (fun _ _ _ h => h) (Or.inl ⟨by kernel_rfl, ?_⟩) (by assumption) ?_
            · intro w' hSw; (try dsimp only at hSw); go_simp
            try simp only [Act.put, List.getElem_toArray, List.getElem_cons_succ, List.getElem_cons_zero, List.setIfInBounds_toArray, List.set_cons_zero, List.set_cons_succ]
            refine wpAnyH_done (by kernel_rfl) ?_ _
            go_wp2_with fail
            go_meet
            exact ⟨rfl, HW3⟩
          · rw [decide_eq_false hsm] at HSM
            clear hsm hcz hng hbf hj
            refine wp_region_held_drew (S := (fun w' => w'.cell? ⟨g1, o1 + k, none⟩ = some (.int .i64 (x : Nat)) ∧ w'.cell? ⟨g1, o1 + j, none⟩ = some (.int .i64 (y : Nat)) ∧ w'.cell? ⟨g2, o2 + x, none⟩ = some (.slice A2 m2 d2) ∧ w'.cell? ⟨g2, o2 + y, none⟩ = some (.slice A3 m3 d3) ∧ Below W1.heap.size W1 w')) (by kernel_rfl) (HKP.out _ HWD.out) (fun hH => ?_)
            refine wpAnyH_take (i := 0) (v := .int .i64 (k : Nat)) rfl (by kernel_rfl) (by kernel_rfl) (by kernel_rfl) (fun _ _ _ h => h) (Or.inl ⟨by kernel_rfl, ?_⟩) (by assumption) ?_
            · intro w' hSw; (try dsimp only at hSw); go_simp
            try simp only [Act.put, List.getElem_toArray, List.getElem_cons_zero, List.setIfInBounds_toArray, List.set_cons_zero, List.set_cons_succ]
            refine wpAnyH_take (i := 1) (v := .bool true) rfl (by kernel_rfl) (by kernel_rfl) (by kernel_rfl) (fun _ _ _ h => h) (Or.inl ⟨by kernel_rfl, ?_⟩) (by assumption) ?_
            · intro w' hSw; (try dsimp only at hSw); go_simp
            try simp only [Act.put, List.getElem_toArray, List.getElem_cons_succ, List.getElem_cons_zero, List.setIfInBounds_toArray, List.set_cons_zero, List.set_cons_succ]
            refine wpAnyH_take (i := 2) (v := .bool true) rfl (by kernel_rfl) (by kernel_rfl) (by kernel_rfl) (fun _ _ _ h => h) (Or.inl ⟨by kernel_rfl, ?_⟩) (by assumption) ?_
            · intro w' hSw; (try dsimp only at hSw); go_simp
            try simp only [Act.put, List.getElem_toArray, List.getElem_cons_succ, List.getElem_cons_zero, List.setIfInBounds_toArray, List.set_cons_zero, List.set_cons_succ]
            refine wpAnyH_take (i := 3) (v := .slice (some ⟨g2, o2, none⟩) n1 c) rfl (by kernel_rfl) (by kernel_rfl) (by kernel_rfl) (fun _ _ _ h => h) (Or.inl ⟨by kernel_rfl, ?_⟩) (by assumption) ?_
            · intro w' hSw; (try dsimp only at hSw); go_simp
            try simp only [Act.put, List.getElem_toArray, List.getElem_cons_succ, List.getElem_cons_zero, List.setIfInBounds_toArray, List.set_cons_zero, List.set_cons_succ]
            refine wpAnyH_take (i := 4) (v := .slice (some ⟨g1, o1, none⟩) n1 c1) rfl (by kernel_rfl) (by kernel_rfl) (by kernel_rfl) (fun _ _ _ h => h) (Or.inl ⟨by kernel_rfl, ?_⟩) (by assumption) ?_
            · intro w' hSw; (try dsimp only at hSw); go_simp
            try simp only [Act.put, List.getElem_toArray, List.getElem_cons_succ, List.getElem_cons_zero, List.setIfInBounds_toArray, List.set_cons_zero, List.set_cons_succ]
            refine wpAnyH_take (i := 5) (v := .int .i64 (k : Nat)) rfl (by kernel_rfl) (by kernel_rfl) (by kernel_rfl) (fun _ _ _ h => h) (Or.inl ⟨by kernel_rfl, ?_⟩) (by assumption) ?_
            · intro w' hSw; (try dsimp only at hSw); go_simp
            try simp only [Act.put, List.getElem_toArray, List.getElem_cons_succ, List.getElem_cons_zero, List.setIfInBounds_toArray, List.set_cons_zero, List.set_cons_succ]
            refine wpAnyH_take (i := 6) (v := .pointer (some ⟨g1, o1 + k, none⟩)) rfl (by kernel_rfl) (by kernel_rfl) (by kernel_rfl) (fun _ _ _ h => h) (Or.inl ⟨by kernel_rfl, ?_⟩) (by assumption) ?_
            · intro w' hSw; (try dsimp only at hSw); go_simp
            try simp only [Act.put, List.getElem_toArray, List.getElem_cons_succ, List.getElem_cons_zero, List.setIfInBounds_toArray, List.set_cons_zero, List.set_cons_succ]
            refine wpAnyH_take (i := 7) (v := .int .i64 (x : Nat)) rfl (by kernel_rfl) (by kernel_rfl) (by kernel_rfl) (fun _ _ _ h => h) (Or.inl ⟨by kernel_rfl, ?_⟩) (by assumption) ?_
            · intro w' hSw; (try dsimp only at hSw); go_simp
            try simp only [Act.put, List.getElem_toArray, List.getElem_cons_succ, List.getElem_cons_zero, List.setIfInBounds_toArray, List.set_cons_zero, List.set_cons_succ]
            refine wpAnyH_take (i := 8) (v := .pointer (some ⟨g2, o2 + x, none⟩)) rfl (by kernel_rfl) (by kernel_rfl) (by kernel_rfl) (fun _ _ _ h => h) (Or.inl ⟨by kernel_rfl, ?_⟩) (by assumption) ?_
            · intro w' hSw; (try dsimp only at hSw); go_simp
            try simp only [Act.put, List.getElem_toArray, List.getElem_cons_succ, List.getElem_cons_zero, List.setIfInBounds_toArray, List.set_cons_zero, List.set_cons_succ]
            refine wpAnyH_take (i := 9) (v := .slice A2 m2 d2) rfl (by kernel_rfl) (by kernel_rfl) (by kernel_rfl) (fun _ _ _ h => h) (Or.inl ⟨by kernel_rfl, ?_⟩) (by assumption) ?_
            · intro w' hSw; (try dsimp only at hSw); go_simp
            try simp only [Act.put, List.getElem_toArray, List.getElem_cons_succ, List.getElem_cons_zero, List.setIfInBounds_toArray, List.set_cons_zero, List.set_cons_succ]
            refine wpAnyH_take (i := 10) (v := .slice (some ⟨g2, o2, none⟩) n1 c) rfl (by kernel_rfl) (by kernel_rfl) (by kernel_rfl) (fun _ _ _ h => h) (Or.inl ⟨by kernel_rfl, ?_⟩) (by assumption) ?_
            · intro w' hSw; (try dsimp only at hSw); go_simp
            try simp only [Act.put, List.getElem_toArray, List.getElem_cons_succ, List.getElem_cons_zero, List.setIfInBounds_toArray, List.set_cons_zero, List.set_cons_succ]
            refine wpAnyH_take (i := 11) (v := .slice (some ⟨g1, o1, none⟩) n1 c1) rfl (by kernel_rfl) (by kernel_rfl) (by kernel_rfl) (fun _ _ _ h => h) (Or.inl ⟨by kernel_rfl, ?_⟩) (by assumption) ?_
            · intro w' hSw; (try dsimp only at hSw); go_simp
            try simp only [Act.put, List.getElem_toArray, List.getElem_cons_succ, List.getElem_cons_zero, List.setIfInBounds_toArray, List.set_cons_zero, List.set_cons_succ]
            refine wpAnyH_take (i := 12) (v := .int .i64 (k : Nat)) rfl (by kernel_rfl) (by kernel_rfl) (by kernel_rfl) (fun _ _ _ h => h) (Or.inl ⟨by kernel_rfl, ?_⟩) (by assumption) ?_
            · intro w' hSw; (try dsimp only at hSw); go_simp
            try simp only [Act.put, List.getElem_toArray, List.getElem_cons_succ, List.getElem_cons_zero, List.setIfInBounds_toArray, List.set_cons_zero, List.set_cons_succ]
            refine wpAnyH_take (i := 13) (v := .int .i64 (j : Nat)) rfl (by kernel_rfl) (by kernel_rfl) (by kernel_rfl) (fun _ _ _ h => h) (Or.inl ⟨by kernel_rfl, ?_⟩) (by assumption) ?_
            · intro w' hSw; (try dsimp only at hSw); go_simp
            try simp only [Act.put, List.getElem_toArray, List.getElem_cons_succ, List.getElem_cons_zero, List.setIfInBounds_toArray, List.set_cons_zero, List.set_cons_succ]
            refine wpAnyH_take (i := 14) (v := .pointer (some ⟨g1, o1 + j, none⟩)) rfl (by kernel_rfl) (by kernel_rfl) (by kernel_rfl) (fun _ _ _ h => h) (Or.inl ⟨by kernel_rfl, ?_⟩) (by assumption) ?_
            · intro w' hSw; (try dsimp only at hSw); go_simp
            try simp only [Act.put, List.getElem_toArray, List.getElem_cons_succ, List.getElem_cons_zero, List.setIfInBounds_toArray, List.set_cons_zero, List.set_cons_succ]
            refine wpAnyH_take (i := 15) (v := .int .i64 (y : Nat)) rfl (by kernel_rfl) (by kernel_rfl) (by kernel_rfl) (fun _ _ _ h => h) (Or.inl ⟨by kernel_rfl, ?_⟩) (by assumption) ?_
            · intro w' hSw; (try dsimp only at hSw); go_simp
            try simp only [Act.put, List.getElem_toArray, List.getElem_cons_succ, List.getElem_cons_zero, List.setIfInBounds_toArray, List.set_cons_zero, List.set_cons_succ]
            refine wpAnyH_take (i := 16) (v := .pointer (some ⟨g2, o2 + y, none⟩)) rfl (by kernel_rfl) (by kernel_rfl) (by kernel_rfl) (fun _ _ _ h => h) (Or.inl ⟨by kernel_rfl, ?_⟩) (by assumption) ?_
            · intro w' hSw; (try dsimp only at hSw); go_simp
            try simp only [Act.put, List.getElem_toArray, List.getElem_cons_succ, List.getElem_cons_zero, List.setIfInBounds_toArray, List.set_cons_zero, List.set_cons_succ]
            refine wpAnyH_take (i := 17) (v := .slice A3 m3 d3) rfl (by kernel_rfl) (by kernel_rfl) (by kernel_rfl) (fun _ _ _ h => h) (Or.inl ⟨by kernel_rfl, ?_⟩) (by assumption) ?_
            · intro w' hSw; (try dsimp only at hSw); go_simp
            try simp only [Act.put, List.getElem_toArray, List.getElem_cons_succ, List.getElem_cons_zero, List.setIfInBounds_toArray, List.set_cons_zero, List.set_cons_succ]
            refine wpAnyH_ready (rs := [18]) (by kernel_rfl) (by simp) ?_
            refine AllReadyH.cons rfl (fun K18 hK18 => ?_) AllReadyH.nil
            go_simp
            go_at_call 21
            refine (HSM.out _ HWD.out).mono ?_
            rintro e w3 ⟨rfl, hb3⟩
            have HW3 : Hid (Below W1.heap.size W1 w3) := Lib.hid (Below.after HWD.out hb3)
            clear hb3
            go_wp2_with fail
            refine hK18.out _ _ (HKP.out _ HW3.out) (fun hHeld18 => ?_)
            clear hK18 K18
            try simp only [Act.put, List.getElem_toArray, List.getElem_cons_succ, List.getElem_cons_zero, List.setIfInBounds_toArray, List.set_cons_zero, List.set_cons_succ]
            refine wpAnyH_take (i := 19) (v := .bool false) rfl (by kernel_rfl) (by kernel_rfl) (by kernel_rfl) (fun _ _ _ h => h) (Or.inl ⟨by kernel_rfl, ?_⟩) (by assumption) ?_
            · intro w' hSw; (try dsimp only at hSw); go_simp
            try simp only [Act.put, List.getElem_toArray, List.getElem_cons_succ, List.getElem_cons_zero, List.setIfInBounds_toArray, List.set_cons_zero, List.set_cons_succ]
            refine wpAnyH_take (i := 20) (v := .bool false) rfl (by kernel_rfl) (by kernel_rfl) (by kernel_rfl) (fun _ _ _ h => h) (Or.inl ⟨by kernel_rfl, ?_⟩) (by assumption) ?_
            · intro w' hSw; (try dsimp only at hSw); go_simp
            try simp only [Act.put, List.getElem_toArray, List.getElem_cons_succ, List.getElem_cons_zero, List.setIfInBounds_toArray, List.set_cons_zero, List.set_cons_succ]
            refine wpAnyH_take (i := 21) (v := undef) rfl (by kernel_rfl) (by kernel_rfl) (by kernel_rfl) (fun _ _ _ h => h) (Or.inr ⟨by kernel_rfl, rfl⟩) (by assumption) ?_
            try simp only [Act.put, List.getElem_toArray, List.getElem_cons_succ, List.getElem_cons_zero, List.setIfInBounds_toArray, List.set_cons_zero, List.set_cons_succ]
            refine wpAnyH_take (i := 22) (v := undef) rfl (by kernel_rfl) (by kernel_rfl) (by kernel_rfl) (fun _ _ _ h => h) (Or.inr ⟨by kernel_rfl, rfl⟩) (by assumption) ?_
            try simp only [Act.put, List.getElem_toArray, List.getElem_cons_succ, List.getElem_cons_zero, List.setIfInBounds_toArray, List.set_cons_zero, List.set_cons_succ]
            refine wpAnyH_take (i := 23) (v := undef) rfl (by kernel_rfl) (by kernel_rfl) (by kernel_rfl) (fun _ _ _ h => h) (Or.inr ⟨by kernel_rfl, rfl⟩) (by assumption) ?_
            try simp only [Act.put, List.getElem_toArray, List.getElem_cons_succ, List.getElem_cons_zero, List.setIfInBounds_toArray, List.set_cons_zero, List.set_cons_succ]
            refine wpAnyH_take (i := 24) (v := undef) rfl (by kernel_rfl) (by kernel_rfl) (by kernel_rfl) (fun _ _ _ h => h) (Or.inr ⟨by kernel_rfl, rfl⟩) (by assumption) ?_
            try simp only [Act.put, List.getElem_toArray, List.getElem_cons_succ, List.getElem_cons_zero, List.setIfInBounds_toArray, List.set_cons_zero, List.set_cons_succ]
            refine wpAnyH_take (i := 25) (v := undef) rfl (by kernel_rfl) (by kernel_rfl) (by kernel_rfl) (fun _ _ _ h => h) (Or.inr ⟨by kernel_rfl, rfl⟩) (by assumption) ?_
            try simp only [Act.put, List.getElem_toArray, List.getElem_cons_succ, List.getElem_cons_zero, List.setIfInBounds_toArray, List.set_cons_zero, List.set_cons_succ]
            refine wpAnyH_take (i := 26) (v := undef) rfl (by kernel_rfl) (by kernel_rfl) (by kernel_rfl) (fun _ _ _ h => h) (Or.inr ⟨by kernel_rfl, rfl⟩) (by assumption) ?_
            try simp only [Act.put, List.getElem_toArray, List.getElem_cons_succ, List.getElem_cons_zero, List.setIfInBounds_toArray, List.set_cons_zero, List.set_cons_succ]
            refine wpAnyH_take (i := 27) (v := undef) rfl (by kernel_rfl) (by kernel_rfl) (by kernel_rfl) (fun _ _ _ h => h) (Or.inr ⟨by kernel_rfl, rfl⟩) (by assumption) ?_
            try simp only [Act.put, List.getElem_toArray, List.getElem_cons_succ, List.getElem_cons_zero, List.setIfInBounds_toArray, List.set_cons_zero, List.set_cons_succ]
            refine wpAnyH_take (i := 28) (v := undef) rfl (by kernel_rfl) (by kernel_rfl) (by kernel_rfl) (fun _ _ _ h => h) (Or.inr ⟨by kernel_rfl, rfl⟩) (by assumption) ?_
            try simp only [Act.put, List.getElem_toArray, List.getElem_cons_succ, List.getElem_cons_zero, List.setIfInBounds_toArray, List.set_cons_zero, List.set_cons_succ]
            refine wpAnyH_take (i := 29) (v := undef) rfl (by kernel_rfl) (by kernel_rfl) (by kernel_rfl) (fun _ _ _ h => h) (Or.inr ⟨by kernel_rfl, rfl⟩) (by assumption) ?_
            try simp only [Act.put, List.getElem_toArray, List.getElem_cons_succ, List.getElem_cons_zero, List.setIfInBounds_toArray, List.set_cons_zero, List.set_cons_succ]
            refine wpAnyH_take (i := 30) (v := undef) rfl (by kernel_rfl) (by kernel_rfl) (by kernel_rfl) (fun _ _ _ h => h) (Or.inr ⟨by kernel_rfl, rfl⟩) (by assumption) ?_
            try simp only [Act.put, List.getElem_toArray, List.getElem_cons_succ, List.getElem_cons_zero, List.setIfInBounds_toArray, List.set_cons_zero, List.set_cons_succ]
            refine wpAnyH_take (i := 31) (v := .bool false) rfl (by kernel_rfl) (by kernel_rfl) (by kernel_rfl) (fun _ _ _ h => h) (Or.inl ⟨by kernel_rfl, ?_⟩) (by assumption) ?_
            · intro w' hSw; (try dsimp only at hSw); go_simp
            try simp only [Act.put, List.getElem_toArray, List.getElem_cons_succ, List.getElem_cons_zero, List.setIfInBounds_toArray, List.set_cons_zero, List.set_cons_succ]
            refine wpAnyH_done (by kernel_rfl) ?_ _
            go_wp2_with fail
            go_meet
            exact ⟨rfl, HW3⟩
      case rest =>
        obtain ⟨rfl, HWC⟩ := hcut
        have HS4 : Hid (SoS w1 n1 P (k + 1) wc) := Lib.hid ⟨HS3.out.sn.below HWC.out, HS3.out.bl.trans (HWC.out.mono HS3.out.bl.size)⟩
        go_wp2_with fail
        go_roundw
        case rel => exact ⟨k + 1, by omega, by go_num, HS4⟩
        case measure => simp [intOf]; omega
    · obtain rfl : k = n1 := by omega
      have HBE := Lib.hid HG.out.bl
      obtain ⟨hl0, hl1⟩ : (0 : Nat) ≤ k ∧ k ≤ P.length := ⟨Nat.zero_le _, by rw [HPL.out]; omega⟩
      clear hrel HG HSN
      go_wp2_with fail
      go_loopw [7, 6] (fun iv bv wr => StR w1 P k iv bv wr) (fun iv _ _ => k - (intOf iv).toNat)
      case atStart => exact ⟨0, Nat.zero_le _, rfl, rfl, HBE⟩
      case round =>
        obtain ⟨i, hi, rfl, rfl, HW⟩ := hrel.ex
        by_cases hlt2 : i < k
        · have hiP : i < P.length := by rw [HPL.out]; exact hlt2
          obtain ⟨g1, o1, c1', e1, -, -, hg1, hx1⟩ := HI1.out.opened (by rw [List.length_map, HPL.out]; omega)
          injection e1 with e1 e2 e3
          subst e1
          have q1 := (HW.out.cell (p := ⟨g1, o1 + i, none⟩) hg1).trans ((hx1 i (P[i] : Nat) (by rw [List.getElem?_map, List.getElem?_eq_getElem hiP]; rfl)).int)
          have HSS := Lib.hid (stay_step hiP)
          clear e2 e3 hx1
          generalize P[i] = x at *
          cases hsb : stayB P i with
          | false =>
            rw [hsb] at HSS
            have HSB := Lib.hid hsb
            clear hsb
            go_wp2_with fail
            go_roundw
            case rel => exact ⟨i + 1, by omega, by go_num, by rw [HSS.out]; rfl, HW⟩
            case measure => simp [intOf]; omega
          | true =>
            rw [hsb] at HSS
            clear hsb
            by_cases hxi : x = i
            · have hxi2 : ((x : Nat) : Int) = (i : Int) := by omega
              have HS1 : Hid (stayB P (i + 1) = true) := Lib.hid (by rw [HSS.out]; simp [hxi])
              clear hxi
              go_wp2_with fail
              go_roundw
              case rel => exact ⟨i + 1, by omega, by go_num, by rw [HS1.out], HW⟩
              case measure => simp [intOf]; omega
            · have hxi2 : ¬ ((x : Nat) : Int) = (i : Int) := by omega
              have HS1 : Hid (stayB P (i + 1) = false) := Lib.hid (by rw [HSS.out]; simp [hxi])
              go_wp2_with fail
              go_roundw
              case rel => exact ⟨i + 1, by omega, by go_num, by rw [HS1.out]; simp [hxi2], HW⟩
              case measure => simp [intOf]; omega
        · obtain rfl : i = k := by omega
          have HBW : Hid (Below w.heap.size w wr) := Lib.hid (HB1.out.trans (HW.out.mono HB1.out.size))
          go_wp2_with fail
          refine (oalive_any _).mono ?_
          rintro e w2 ⟨rfl, hb2⟩
          have HB2 := Lib.hid (Below.after HBW.out hb2)
          have HI2 := Lib.hid ((HI1.out.below HW.out).below hb2)
          clear hb2
          go_wp2_with fail
          refine (refPick_any _ _ ts P w2 (HH.out.below HB2.out) HI2.out (by intro y hy; rw [HN.out]; exact HPX.out y hy) (by rw [HPL.out]; omega)).mono ?_
          rintro e w3 ⟨A3, c3, rfl, hk3, hb3⟩
          have HB3 := Lib.hid (Below.after HB2.out hb3)
          have HK3 := Lib.hid hk3
          clear hb3 hk3
          go_wp2_with fail
          have hR := rises_any _ _ _ HK3.out (by rw [pickT_len, HPL.out]; omega)
          rw [pickT_len, rise_picked HPB.out] at hR
          refine hR.mono ?_
          rintro e w4 ⟨rfl, hb4⟩
          have HB4 := Lib.hid (Below.after HB3.out hb4)
          clear hb4 hR
          go_wp2_with fail
          refine (HRS.out _ HB4.out).mono ?_
          rintro e w5 ⟨rfl, hb5⟩
          have HB5 := Lib.hid (Below.after HB4.out hb5)
          clear hb5
          rw [HST.out]
          generalize stayB P i = b at *
          go_wp2_with fail
          go_ret
          exact ⟨rfl, HB5.out⟩

set_option maxRecDepth 100000 in
set_option maxHeartbeats 4000000 in
theorem orderSorted_any (v : Value) (L : List (List Nd)) (w : World) (h : Vls w v L) (hb1 : L.length ≤ 140737488355328) (hb2 : ∀ l ∈ L, l.length ≤ 140737488355328) :
    Calls Try.prog 6 #[v] w fun e w' => e = .returned (.bool true) ∧ Below w.heap.size w w' := by
  have hAF := fun (W : World) (hb : Below w.heap.size w W) => refAll_any v L 60 W (h.below hb) (by decide) hb1 hb2
  cases hf : allFew 60 L with
  | true =>
    obtain ⟨ts, hK, hn, rfl⟩ := keys_of h hf
    exact orderSorted_all v ts w hK hn hf hAF
  | false =>
    have HAF := Lib.hid hAF
    have HF := Lib.hid hf
    obtain ⟨vs, hl, ⟨A, c, rfl, -⟩, -⟩ := h
    clear hAF hf hl
    generalize vs.length = n at *
    go_enter Try.func6, Try.ntmps6
    go_wp2_with fail
    refine (HAF.out _ (Below.refl _ _)).mono ?_
    rintro e w0 ⟨rfl, hb0⟩
    rw [HF.out]
    have HB0 := Lib.hid hb0
    clear hb0
    go_wp2_with fail
    refine (oalive_any _).mono ?_
    rintro e w1 ⟨rfl, hb1⟩
    have HB1 := Lib.hid (Below.after HB0.out hb1)
    clear hb1
    go_wp2_with fail
    go_ret
    exact ⟨rfl, HB1.out⟩
end Go.Proofs.Ytbffeffplabaeaa

/-
  The statement OrderSorted holds: called with any rows of nodes, whatever lies in memory, it returns true, and each argument reads as it read before. Conditions: none.
-/
namespace Go.Proofs.Ytbffeffplabaeaa
open Go.ChangeShapes Go.WideShapes Go.ChangeAt Go.RowKit Go.ChangeMaps

set_option maxRecDepth 100000 in
theorem orderSorted_lifted (os : Go.Os) (started : os.Started) (H : Type) (enc : TypeId × Value → H) :
    ReturnsInHanded {} Try.checked os 6 .any (Rows.orderSortedSpec.pre6 enc Try.prog Try.f6 Rows.orderSortedRow.domain false)
      (Rows.orderSortedSpec.post enc Try.prog Try.f6 false true false false) := by
  refine returnsInHanded_of_change_sized (C := Try.checked) ownKn started (by kernel_rfl) Try.func6
    (ChangeSpec.witness6 (enc := enc) (C := Try.checked) false ⟨#[], #[.slice none 0 0], []⟩ 8 (by kernel_rfl) (by kernel_rfl) (by kernel_rfl) (by kernel_rfl)) ?_
  intro W base args ds gs before hval0 hW _ hwt0 _
  have hval : ∀ (j : Nat) t v, Try.f6.params[j]? = some t → args[j]? = some v → Value.okWide Try.prog W .any base t v := hval0
  have hW' := hW
  obtain ⟨p, q, hA0, hV, rfl, _, _⟩ := hW
  have hA : DataW.TrodAll enc Try.prog W 0 (fun _ => true) true Try.f6.params.toList args.toList ds p := hA0
  have hwt : (DataW.weightsEach Try.prog (Try.f6.params.toList ++ Rows.orderSortedSpec.plain.varTypes Try.prog) (ds ++ gs)).all (· ≤ reachBytes) = true := hwt0
  rw [Try.params6] at hA hval
  obtain ⟨v0, d0, rfl, rfl, h0⟩ := trodAll_one hA
  obtain ⟨rfl, rfl⟩ := trodVars_none hV
  obtain ⟨l0, hl0, hn0, hm0⟩ := open_vals (hval 0 _ v0 rfl rfl) h0 (vals_sized (j := 0) (d := d0) hwt (by rw [Try.params6]; rfl) rfl)
  refine (orderSorted_any v0 l0 W hl0 hn0 hm0).mono fun e W' ⟨he, hb⟩ => ?_
  subst he
  exact ⟨_, rfl, law_post (tb := 4) laidOut hW' rfl Try.underlying4 (by kernel_rfl) rfl (by
    rw [Try.params6]
    intro t ht
    have hall : ([24].all fun t => Try.prog.readableRec t && decide (t < Try.prog.types.size)) = true := by kernel_rfl
    obtain ⟨h1, h2⟩ := Bool.and_eq_true_iff.1 (List.all_eq_true.1 hall t ht)
    exact ⟨h1, of_decide_eq_true h2⟩) hb⟩

theorem orderSorted_holds : Rows.OrderSortedSaid :=
  OpenClaim.holds_of_wide 6 Try.f6 rfl rfl rfl rfl rfl rfl rfl ⟨rfl, rfl, rfl, rfl, rfl⟩ rfl rfl rfl rfl rfl (by kernel_rfl) Try.func6 (by kernel_rfl)
    (of_decide_eq_true (by kernel_rfl)) (by unfold Func.isWrapper; first | (rw [if_pos (by decide +kernel)]; kernel_rfl) | (rw [if_neg (by decide +kernel)]; exact ⟨rfl, rfl⟩))
    (fun os started H enc _ => orderSorted_lifted os started H enc)
#print axioms orderSorted_holds
end Go.Proofs.Ytbffeffplabaeaa
