/-
  Joined: BackP, OPick, RefW7, ORef2, ORef3, NumPlain6, NumPlain2, NumPlain3, NumPlain7, NumPlain8, NumPlain9, NumPlain4, NumPlain10, NumPlain11, NumPlain12, NumPlain13, NumW15, ORef4, ORef5, ORef6, OrderGroups, OrderGroupsSaid.
-/
import Derived.Test.YtbffeffplabaeaaOrderTotalJ16
import Derived.Test.YtbffeffplabaeaaOrderTotalJ22
import Derived.Test.YtbffeffplabaeaaOrderTotalJ8
import Derived.Test.YtbffeffplabaeaaOrderTotalJ21
import Derived.Test.YtbffeffplabaeaaOrderTotalJ1
import Derived.Lib.Strings
import Derived.Lib.Repeat
import Derived.Lib.ItoaNum
import Derived.Lib.ItoaLen
import Derived.Test.YtbffeffplabaeaaOrderTotalJ3
import Derived.Test.YtbffeffplabaeaaOrderTotalJ5
import Derived.Deep.RegionHeld3
import Derived.Deep.LoopGhost
import Derived.Deep.DeepCutAuto

/-
  Plain words: a list's parts are what it was made of; an object, made of its names and parts, is it; parts are right, and less deep. No program stands here.
-/
namespace Go.Proofs.Ytbffeffplabaeaa
namespace Vp
open Go.RowKit Np Rw

theorem setNm_val {t : Tr Nd} (h : Val t) : setNm [] (flat t) = flat t := by rw [← flat_nmd, ← h.nm, nmd_self]
theorem rows_trees : ∀ L : List (List Nd), (∀ l ∈ L, rightL l = true) → ∃ ts : List (Tr Nd), (∀ t ∈ ts, Val t) ∧ L = ts.map flat
  | [], _ => ⟨[], by simp, rfl⟩
  | l :: L, h => by
    obtain ⟨ts, h1, h2⟩ := rows_trees L (fun x hx => h x (by simp [hx]))
    obtain ⟨t, ht, he⟩ := val_of_rightL (h l (by simp))
    exact ⟨t :: ts, by intro x hx; rcases List.mem_cons.1 hx with rfl | hx <;> first | exact ht | exact h1 x hx, by rw [List.map_cons, ← h2, he]⟩
theorem laid_plain : ∀ ts : List (Tr Nd), (∀ t ∈ ts, Val t) → laid ((ts.map flat).map fun l => (([], l) : Pr)) = flats ts
  | [], _ => rfl
  | t :: ts, h => by
    rw [List.map_cons, List.map_cons, laid_cons, laid_plain ts (fun x hx => h x (by simp [hx])), flats_cons]
    rw [setNm_val (h t (by simp))]
theorem list_tree {ts : List (Tr Nd)} (h : ∀ t ∈ ts, Val t) : hdN 5 (ts.map flat).length :: laid ((ts.map flat).map fun l => ([], l)) = flat (arrT ts) := by
  rw [laid_plain ts h, flat_arrT, List.length_map]
theorem nmd_all {ts : List (Tr Nd)} (h : ∀ t ∈ ts, t.nd.name = []) : ts.map (fun k => flat (nmd [] k)) = ts.map flat := by
  apply List.map_congr_left
  intro t ht
  conv => rhs; rw [← nmd_self t, h t ht]
theorem part_val {t k : Tr Nd} (h : Val t) (hk : k ∈ t.ks) : Val (nmd [] k) := Val.clr (h.parts k hk).1 (h.parts k hk).2
theorem depth_nmd (nm : List UInt8) (t : Tr Nd) : depth (nmd nm t) = depth t := by rw [depth_eq, depth_eq t]; rfl
theorem depths_le : ∀ {ts : List (Tr Nd)} {k : Tr Nd}, k ∈ ts → depth k ≤ depths ts
  | t :: ts, k, h => by
    rw [depths_cons]
    rcases List.mem_cons.1 h with rfl | h
    · omega
    · have := depths_le h; omega
theorem Val.cont {t : Tr Nd} (h : Val t) (h0 : t.ks ≠ []) : cont t.nd.kind = true := by
  rcases Classical.em (t.nd.kind = 5) with h5 | h5
  · rw [h5]; rfl
  · rcases Classical.em (t.nd.kind = 6) with h6 | h6
    · rw [h6]; rfl
    · exact absurd (h.leaf h5 h6) h0
theorem part_depth {t k : Tr Nd} (h : Val t) (hk : k ∈ t.ks) : depth (nmd [] k) < depth t := by
  rw [depth_nmd, depth_eq t, if_pos (h.cont (by intro e; rw [e] at hk; cases hk))]
  have := depths_le hk
  omega
theorem laid_named : ∀ ks : List (Tr Nd), laid ((ks.map fun k => k.nd.name).zip (ks.map fun k => flat (nmd [] k))) = flats ks
  | [] => rfl
  | k :: ks => by
    rw [List.map_cons, List.map_cons, List.zip_cons_cons, laid_cons, laid_named ks, flats_cons]
    show setNm k.nd.name (flat (nmd [] k)) ++ _ = _
    rw [← flat_nmd, nmd_nmd, nmd_self]
theorem obj_again {t : Tr Nd} (h : Val t) (hk : t.nd.kind = 6) : objB (t.ks.map fun k => k.nd.name) (t.ks.map fun k => flat (nmd [] k)) = true ∧ objV (t.ks.map fun k => k.nd.name) (t.ks.map fun k => flat (nmd [] k)) = flat t := by
  obtain ⟨h1, h2⟩ := h.named hk
  have hr : (t.ks.map fun k => k.nd.name).Pairwise (· < ·) := List.pairwise_map.2 h1
  have hb : objB (t.ks.map fun k => k.nd.name) (t.ks.map fun k => flat (nmd [] k)) = true := by
    refine objB_iff.2 ⟨by simp, ?_, fun s hs => ?_⟩
    · exact hr.imp (fun {a b} hab (e : a = b) => by subst e; exact List.lt_irrefl a hab)
    · obtain ⟨k, hk', rfl⟩ := List.mem_map.1 hs
      exact h2 k hk'
  refine ⟨hb, ?_⟩
  have hz : rises ((t.ks.map fun k => k.nd.name).zip (t.ks.map fun k => flat (nmd [] k))) := by
    have := List.pairwise_map (f := Prod.fst) (l := (t.ks.map fun k => k.nd.name).zip (t.ks.map fun k => flat (nmd [] k))) (R := (· < ·))
    rw [zip_keys (by simp)] at this
    exact this.1 hr
  rw [objV, if_pos hb, srt_of (List.Perm.refl _) hz, laid_named]
  conv => rhs; rw [h.obj hk, flat_objT]
  rw [List.length_map]
theorem arr_again {t : Tr Nd} (h : Val t) (hk : t.nd.kind = 5) : hdN 5 (t.ks.map fun k => flat (nmd [] k)).length :: laid ((t.ks.map fun k => flat (nmd [] k)).map fun l => ([], l)) = flat t := by
  have hn := h.unnamed hk
  have hv : ∀ k ∈ t.ks, Val k := fun k hk' => ⟨(h.parts k hk').1, (h.parts k hk').2, hn k hk'⟩
  rw [nmd_all hn, list_tree hv, ← h.arr hk]
theorem depth_leaf {t : Tr Nd} (h5 : t.nd.kind ≠ 5) (h6 : t.nd.kind ≠ 6) : depth t = 0 := by
  rw [depth_eq, if_neg]
  simp [cont, h5, h6]
theorem mem_flats : ∀ {ts : List (Tr Nd)} {k : Tr Nd} {n : Nd}, k ∈ ts → n ∈ flat k → n ∈ flats ts
  | t :: ts, k, n, h, hn => by
    rw [flats_cons, List.mem_append]
    rcases List.mem_cons.1 h with rfl | h
    · exact .inl hn
    · exact .inr (mem_flats h hn)
theorem len_flats : ∀ {ts : List (Tr Nd)} {k : Tr Nd}, k ∈ ts → (flat k).length ≤ (flats ts).length
  | t :: ts, k, h => by
    rw [flats_cons, List.length_append]
    rcases List.mem_cons.1 h with rfl | h
    · omega
    · have := len_flats h; omega
theorem sum_flats : ∀ ts : List (Tr Nd), ((ts.map flat).map List.length).sum = (flats ts).length
  | [] => rfl
  | t :: ts => by rw [List.map_cons, List.map_cons, List.sum_cons, sum_flats ts, flats_cons, List.length_append]
end Vp
open Go.RowKit Np Rw in
/-- The names of an object's parts. -/
def namesT (t : Tr Nd) : List (List UInt8) := if t.nd.kind = 6 then t.ks.map (fun k => k.nd.name) else []
end Go.Proofs.Ytbffeffplabaeaa

/-
  What the document's own Pick answers: the keys at these places.
-/
namespace Go.Proofs.Ytbffeffplabaeaa
open Go.RowKit Np Rw Vp Ov

/-- Rows that are few are keys. -/
theorem keys_of {w : World} {v : Value} {L : List (List Nd)} (h : Vls w v L) (hf : allFew 60 L = true) : ∃ ts : List (Tr Nd), Keys w v ts ∧ ts.length ≤ 60 ∧ L = ts.map flat := by
  obtain ⟨hsum, hfew⟩ := oallFew_all hf
  obtain ⟨ts, hts, rfl⟩ := rows_trees L (fun l hl => (ofew_all (hfew l hl)).2.2)
  refine ⟨ts, ⟨h, hts, fun t ht => ?_⟩, ?_, rfl⟩
  · have := (ofew_all (hfew _ (List.mem_map_of_mem ht))).1
    omega
  · unfold sumL at hsum
    simp at hsum
    omega
/-- The keys at these places. -/
def pickT (ts : List (Tr Nd)) (P : List Nat) : List (Tr Nd) := P.map fun i => ts.getD i (.mk zeroN [])
theorem pickT_len (ts : List (Tr Nd)) (P : List Nat) : (pickT ts P).length = P.length := by simp [pickT]
theorem cat_pick (ts : List (Tr Nd)) (P : List Nat) {i k : Nat} (hi : i < P.length) (hk : k < P.length) : cat (pickT ts P) i k = cat ts P[i] P[k] := by
  unfold cat
  simp [pickT, List.getD, hi, hk]
/-- What is picked so far. -/
structure PkS (ts : List (Tr Nd)) (w : World) (P : List Nat) (k : Nat) (ov : Value) (wr : World) : Prop where
  ow : ∃ zs, Own slc 1 23 w.heap.size wr ov zs ∧ Els w zs ((pickT ts (P.take k)).map flat) ∧ zs.length = k
  bl : Below w.heap.size w wr
structure PkR (ts : List (Tr Nd)) (w : World) (P : List Nat) (n : Nat) (iv ov : Value) (wr : World) : Prop where
  ex : ∃ (k : Nat) (A : Option Addr) (c : Nat), k ≤ n ∧ iv = .int .i64 k ∧ ov = .slice A k c ∧ Hid (PkS ts w P k ov wr)

set_option maxRecDepth 100000 in
set_option maxHeartbeats 4000000 in
theorem refPick_any (v u : Value) (ts : List (Tr Nd)) (P : List Nat) (w : World) (h : Keys w v ts) (hu : Ins w u (P.map Int.ofNat)) (hP : ∀ x ∈ P, x < ts.length) (hn : P.length ≤ 100000) :
    Calls Try.prog 22 #[v, u] w fun e w' => ∃ (A : Option Addr) (c : Nat), e = .returned (.slice A P.length c) ∧ Keys w' (.slice A P.length c) (pickT ts P) ∧ Below w.heap.size w w' := by
  have HH := Lib.hid h
  have HU := Lib.hid hu
  have HP := Lib.hid hP
  obtain ⟨A, c, hvl⟩ : ∃ (A : Option Addr) (c : Nat), v = .slice A ts.length c := by
    obtain ⟨vs, hl, ⟨A, c, hv, -⟩, -⟩ := h.vls
    rw [List.length_map] at hl
    exact ⟨A, c, by rw [hv, hl]⟩
  subst hvl
  obtain ⟨B, d, rfl, -⟩ := hu
  rw [List.length_map] at HU ⊢
  clear h hP
  generalize hpn : P.length = n at *
  have HPN := Lib.hid hpn
  generalize hnn : ts.length = m at *
  have HM := Lib.hid hnn
  clear hnn hpn
  have hO : Own slc 1 23 w.heap.size (w.alloc (.cells #[] 23)) (.slice (some ⟨w.heap.size, 0, none⟩) 0 0) [] := Own.lit slc_len w #[] [] (Nat.le_refl _) (by simp) rfl
  have HO0 : Hid (PkS ts w P 0 (.slice (some ⟨w.heap.size, 0, none⟩) 0 0) (w.alloc (.cells #[] 23))) := Lib.hid ⟨⟨[], hO, ⟨rfl, fun k z l hz => by simp at hz⟩, rfl⟩, (Below.refl _ _).alloc (Nat.le_refl _) _⟩
  clear hO
  go_enter Try.func22, Try.ntmps22
  go_wp2_with fail
  go_loopw [6, 5] (fun iv ov wr => PkR ts w P n iv ov wr) (fun iv _ _ => n - (intOf iv).toNat)
  case atStart => exact ⟨0, some ⟨w.heap.size, 0, none⟩, 0, Nat.zero_le _, rfl, rfl, HO0⟩
  case round =>
    obtain ⟨k, A1, c1, hk, rfl, rfl, HG⟩ := hrel.ex
    by_cases hlt : k < n
    · have hkP : k < P.length := by rw [HPN.out]; exact hlt
      have htk : P.take (k + 1) = P.take k ++ [P[k]] := List.take_succ_eq_append_getElem hkP
      obtain ⟨g1, o1, c1', e1, -, -, hg1, hx1⟩ := HU.out.opened (by rw [List.length_map, HPN.out]; omega)
      injection e1 with e1 e2 e3
      subst e1
      have p1 : w.cell? ⟨g1, o1 + k, none⟩ = some (.int .i64 (P[k] : Nat)) := (hx1 k (P[k] : Nat) (by rw [List.getElem?_map, List.getElem?_eq_getElem hkP]; rfl)).int
      have q1 := (HG.out.bl.cell (p := ⟨g1, o1 + k, none⟩) hg1).trans p1
      have hPk : P[k] < ts.length := by rw [HM.out]; exact HP.out _ (List.getElem_mem hkP)
      obtain ⟨g2, o2, cc, A2, m2, d2, hv2, hg2, hc2, hn2, -⟩ := HH.out.at (i := P[k]) hPk
      injection hv2 with f1 f2 f3
      subst f1
      have q2 := (HG.out.bl.cell (p := ⟨g2, o2 + P[k], none⟩) hg2).trans hc2
      have hn3 : Nds w (.slice A2 m2 d2) (flat (ts.getD P[k] (.mk zeroN []))) := by rw [getD_at hPk]; exact hn2
      obtain ⟨zs, ho, hels, hzl⟩ := HG.out.ow
      have HO := Lib.hid ho
      have HEL := Lib.hid hels
      have HZ := Lib.hid hzl
      have HN3 := Lib.hid hn3
      have HTK := Lib.hid htk
      have hPm : P[k] < m := by rw [← HM.out]; exact hPk
      have HB := Lib.hid HG.out.bl
      clear p1 hx1 e2 e3 htk hPk hn2 hc2 f2 f3 hn3 ho hels hzl
      generalize P[k] = x at *
      have hr : Row slc 1 (wr.alloc (.cells #[.slice A2 m2 d2] 23)) (.slice (some ⟨wr.heap.size, 0, none⟩) 1 1) [(A2, m2, d2)] := Row.lit slc_len wr 23 #[.slice A2 m2 d2] [(A2, m2, d2)] (by unfold maxLen; simp) rfl
      have HR := Lib.hid hr
      have HO2 := Lib.hid (HO.out.alloc (.cells #[.slice A2 m2 d2] 23))
      clear hr
      go_wp2_with (at_builtin; refine wpList_append_row (base := w.heap.size) elVal rfl _ _ rfl rfl HO2.out rfl HR.out ?_ ?_ ?_ ?_)
      · rw [HZ.out]; unfold maxLen; simp; omega
      · rw [HZ.out]; simp; omega
      · have := HB.out.size; simp; omega
      · intro A4 c4 w4 hown4 hg4 hwh4
        have hb4 : Below wr.heap.size wr (wr.alloc (.cells #[.slice A2 m2 d2] 23)) := (Below.refl _ _).alloc (Nat.le_refl _) _
        have hk4 : Below w.heap.size (wr.alloc (.cells #[.slice A2 m2 d2] 23)) w4 := HO2.out.kept hg4 (by have := HB.out.size; simp; omega)
        have hb5 : Below w.heap.size w w4 := (HB.out.trans (hb4.mono HB.out.size)).trans hk4
        have HS : Hid (PkS ts w P (k + 1) (.slice A4 (zs.length + 1) c4) w4) := Lib.hid (by
          have h9 : (zs ++ [(A2, m2, d2)]).length = k + 1 := by rw [List.length_append, HZ.out]; rfl
          have hown5 : Own slc 1 23 w.heap.size w4 (.slice A4 (zs.length + 1) c4) (zs ++ [(A2, m2, d2)]) := by simpa using hown4
          refine ⟨⟨zs ++ [(A2, m2, d2)], hown5, ?_, h9⟩, hb5⟩
          rw [HTK.out, pickT, List.map_append, List.map_append]
          exact HEL.out.snoc HN3.out)
        clear hown4 hg4 hwh4 hb4 hk4 hb5
        go_wp2_with fail
        go_roundw
        case rel => exact ⟨k + 1, A4, c4, by omega, by go_num, by simp [HZ.out], HS⟩
        case measure => simp [intOf]; omega
    · obtain rfl : k = n := by omega
      obtain ⟨zs, ho, hels, hzl⟩ := HG.out.ow
      have hF : Keys wr (.slice A1 k c1) (pickT ts P) := by
        rw [show P.take k = P from List.take_of_length_le (by rw [HPN.out]; omega)] at hels
        refine ⟨(hels.below HG.out.bl).vls (ho.row slc_len), ?_, ?_⟩
        · intro t ht
          obtain ⟨i, hi, rfl⟩ := List.mem_map.1 ht
          have h1 : i < ts.length := by rw [HM.out]; exact HP.out i hi
          rw [getD_at h1]; exact HH.out.val _ (List.getElem_mem _)
        · intro t ht
          obtain ⟨i, hi, rfl⟩ := List.mem_map.1 ht
          have h1 : i < ts.length := by rw [HM.out]; exact HP.out i hi
          rw [getD_at h1]; exact HH.out.len _ (List.getElem_mem _)
      have HF := Lib.hid hF
      have HB := Lib.hid HG.out.bl
      clear ho hels hF
      go_wp2_with fail
      go_ret
      exact ⟨A1, c1, rfl, HF.out, HB.out⟩
end Go.Proofs.Ytbffeffplabaeaa

/-
  What the document's own answers are: own, Parts, Names, Depth.
-/
namespace Go.Proofs.Ytbffeffplabaeaa
open Go.RowKit Np Rw Vp

set_option maxRecDepth 100000 in
set_option maxHeartbeats 4000000 in
theorem refOwn_any (v : Value) (l : List Nd) (a b : Nat) (n : Nd) (rest : List Nd) (w : World) (hv : Nds w v l) (hl : l.length ≤ 65536) (hab : a < b) (hbl : b ≤ l.length) (hs : (l.drop a).take (b - a) = n :: rest) :
    Calls Try.prog 51 #[v, .int .i64 a, .int .i64 b] w (OwnsN w (noName n :: rest)) := by
  obtain ⟨g, o, c, rfl, hc, hcm, hg, -⟩ := hv.opened (by omega)
  have HPC : Hid (Nds w (.slice (some ⟨g, o + a * 6, none⟩) (b - a) (c - a)) (n :: rest)) := Lib.hid (by
    have := hv.piece a (b - a) (by omega)
    rwa [hs] at this)
  have HLN : Hid ((n :: rest).length = b - a) := Lib.hid (by rw [← hs]; simp; omega)
  clear hs hv
  generalize hn : l.length = N at *
  have hac : a ≤ c := by omega
  have hbc : b ≤ c := by omega
  have hane : ¬ a = c := by omega
  clear hn
  generalize hr : n :: rest = r at HPC HLN
  have HR := Lib.hid hr
  clear hr
  go_enter Try.func51, Try.ntmps51
  have HO0 : Hid (OwnN w.heap.size (w.alloc (.cells #[] 38)) (.slice (some ⟨w.heap.size, 0, none⟩) 0 0) []) := Lib.hid (by
    have := Own.lit (base := w.heap.size) (E := 38) ndc_len w #[] [] (Nat.le_refl _) (by simp) rfl
    simpa using this)
  go_wp2_with (at_builtin; refine wpList_append_row (base := w.heap.size) elNode rfl _ _ rfl rfl HO0.out rfl (HPC.out.below ((Below.refl _ _).alloc (Nat.le_refl _) _)) ?_ ?_ ?_ ?_)
  · have := HLN.out; unfold maxLen; simp only [List.length_nil]; omega
  · have := HLN.out; simp only [List.length_nil]; omega
  · simp
  · intro A3 c3 w3 hown3 hg3 hwh
    clear hwh
    have HO3 : Hid (OwnN w.heap.size w3 (.slice A3 r.length c3) r) := Lib.hid hown3
    have HB3 : Hid (Below w.heap.size w w3) := Lib.hid (((Below.refl w.heap.size w).alloc (Nat.le_refl _) (.cells #[] 38)).trans (HO0.out.kept hg3 (by simp)))
    clear hown3 hg3
    obtain ⟨g', rfl, hc3, HG⟩ : ∃ g', A3 = some ⟨g', 0, none⟩ ∧ b - a ≤ c3 ∧ Hid (w.heap.size ≤ g' ∧ g' < w3.heap.size) := by
      have h := HO3.out
      obtain ⟨g', cap, hv, h1, h2⟩ := h.opened (by have := HLN.out; omega)
      injection hv with e1 _ e3
      have := h.cap.2.1
      exact ⟨g', e1, by have := HLN.out; omega, Lib.hid ⟨h1, h2⟩⟩
    have hk0 : r[0]? = some n := by rw [← HR.out]; rfl
    have x0 := Own.cell ndc_len (j := 0) HO3.out hk0 rfl
    have x1 := Own.cell ndc_len (j := 1) HO3.out hk0 rfl
    have x2 := Own.cell ndc_len (j := 2) HO3.out hk0 rfl
    have x3 := Own.cell ndc_len (j := 3) HO3.out hk0 rfl
    have x4 := Own.cell ndc_len (j := 4) HO3.out hk0 rfl
    have x5 := Own.cell ndc_len (j := 5) HO3.out hk0 rfl
    simp only [Nat.zero_mul, Nat.zero_add] at x0 x1 x2 x3 x4 x5
    have HK0 := Lib.hid hk0
    clear hk0
    rw [HLN.out] at HO3 ⊢
    have hba : 0 < b - a := by omega
    have HTH : Hid (∀ ob : Obj, (w3.alloc ob).there g' 0 6) := Lib.hid (fun ob => by
      have h : OwnN w.heap.size (w3.alloc ob) (.slice (some ⟨g', 0, none⟩) r.length c3) r := by rw [HLN.out]; exact HO3.out.alloc ob
      have := Own.there ndc_len h HK0.out
      simpa using this)
    have HPU : Hid (∀ ob : Obj, OwnN w.heap.size ((w3.alloc ob).setCells g' 0 (ndc (noName n))) (.slice (some ⟨g', 0, none⟩) (b - a) c3) (noName n :: rest)) := Lib.hid (fun ob => by
      have h : OwnN w.heap.size (w3.alloc ob) (.slice (some ⟨g', 0, none⟩) r.length c3) r := by rw [HLN.out]; exact HO3.out.alloc ob
      have h2 := Own.puts (y := noName n) ndc_len h HK0.out
      rw [HLN.out] at h2
      rw [← HR.out] at h2
      simpa using h2)
    go_wp2_with (refine wpList_store_node rfl _ _ rfl g' 0 (noName n) rfl rfl (HTH.out _) ?_)
    go_ret
    exact ⟨_, rfl, HPU.out _, Below.setCells HG.out.1 _ _ (HB3.out.alloc HB3.out.size _)⟩

theorem Elems.aside {base : Nat} {W W' : World} {v : Value} {xs zs : List (Option Addr × Nat × Nat)} {L : List (List Nd)} (h : Elems base W zs L) (hv : Own slc 1 23 base W v xs) (hg : W.grownBy W' v.ownBlock) : Elems base W' zs L :=
  ⟨h.1, fun k z l hz hl => Own.aside (h.2 k z l hz hl) hv (by decide) hg⟩

/-- What is handed back is one's own, so that more can be appended to it. -/
def OwnsV (w : World) (L : List (List Nd)) (e : Ending) (w' : World) : Prop := ∃ v' zs, e = .returned v' ∧ Own slc 1 23 w.heap.size w' v' zs ∧ Elems w.heap.size w' zs L ∧ Below w.heap.size w w'
def OwnsS (w : World) (L : List (List UInt8)) (e : Ending) (w' : World) : Prop := ∃ v', e = .returned v' ∧ Own stc 1 9 w.heap.size w' v' L ∧ Below w.heap.size w w'

set_option maxRecDepth 100000 in
set_option maxHeartbeats 4000000 in
theorem refParts_own (v : Value) (t : Tr Nd) (w : World) (hv : Nds w v (flat t)) (hl : (flat t).length ≤ 65536) (ht : Val t) :
    Calls Try.prog 31 #[v] w (OwnsV w (t.ks.map fun k => flat (nmd [] k))) := by
  have hvo := hv
  obtain ⟨g, o, c, rfl, hc, hcm, hg, hx⟩ := hvo.opened (flat_pos t)
  have hmany : t.nd.many = t.ks.length := (okT_eq.1 ht.ok).1
  have a1 : w.cell? ⟨g, o + 1, none⟩ = some (.int .i64 (t.ks.length : Nat)) := by
    have := (hx 0 t.nd (by rw [flat_eq]; rfl)).nd.c1
    rw [hmany] at this
    simpa using this
  have HA1 := Lib.hid a1
  have HV := Lib.hid hv
  have HKS := Lib.hid (okT_eq.1 ht.ok).2
  have hkl : t.ks.length ≤ 65536 := by
    have h1 := flats_len t.ks
    rw [flat_eq] at hl
    simp at hl
    omega
  have hpos := flat_pos t
  have HDR : Hid (∀ pre post, t.ks = pre ++ post → (flat t).drop (1 + (flats pre).length) = flats post) := Lib.hid (fun pre post h => by
    rw [flat_eq, h, flats_append, Nat.add_comm, List.drop_succ_cons, List.drop_left])
  clear hx hv hvo hmany a1
  have HLL := Lib.hid hl
  generalize hn : (flat t).length = n at *
  have HN := Lib.hid hn
  clear hn
  generalize hq : t.ks.length = q at *
  have HQ := Lib.hid hq
  clear hq
  go_enter Try.func31, Try.ntmps31
  have HO0 : Hid (Own slc 1 23 w.heap.size (w.alloc (.cells #[] 23)) (.slice (some ⟨w.heap.size, 0, none⟩) 0 0) []) := Lib.hid (by
    have := Own.lit (base := w.heap.size) (E := 23) slc_len w #[] [] (Nat.le_refl _) (by simp) rfl
    simpa using this)
  go_wp2_with fail
  go_loopw [3, 4, 5] (fun ov iv kv wr => ∃ (pre post : List (Tr Nd)) (zs : List (Option Addr × Nat × Nat)), t.ks = pre ++ post ∧ kv = .int .i64 pre.length ∧ iv = .int .i64 (1 + (flats pre).length : Nat) ∧ Own slc 1 23 w.heap.size wr ov zs ∧ Elems w.heap.size wr zs (pre.map fun k => flat (nmd [] k)) ∧ Below w.heap.size w wr) (fun _ _ kv _ => q - (intOf kv).toNat)
  case atStart => exact ⟨[], t.ks, [], rfl, rfl, rfl, HO0.out, ⟨rfl, fun k z l h => by simp at h⟩, (Below.refl _ _).alloc (Nat.le_refl _) _⟩
  case round =>
    obtain ⟨pre, post, zs, hpp, rfl, rfl, hown, hels, hb⟩ := hrel
    have a2 := (hb.cell (p := ⟨g, o + 1, none⟩) hg).trans HA1.out
    have HO := Lib.hid hown
    have HE := Lib.hid hels
    have HB := Lib.hid hb
    have HP := Lib.hid hpp
    have hlen : pre.length + post.length = q := by rw [← HQ.out, hpp]; simp
    clear hown hels hb hpp
    cases post with
    | nil =>
      simp only [List.length_nil, Nat.add_zero] at hlen
      have HF : Hid (pre = t.ks) := Lib.hid (by rw [HP.out]; simp)
      have hlt : ¬ (pre.length : Int) < q := by omega
      have HLN := Lib.hid hlen
      clear hlen
      go_wp2_with fail
      go_ret
      exact ⟨_, _, rfl, HO.out, by have := HE.out; rwa [HF.out] at this, HB.out⟩
    | cons u rest =>
      simp only [List.length_cons] at hlen
      have hdr := HDR.out pre (u :: rest) HP.out
      rw [flats_cons] at hdr
      have hoku : okT many u := by have := HKS.out; rw [HP.out, okTs_append, okTs_cons] at this; exact this.2.1
      have hnx := nxt_at hdr hoku
      have hpl := part_lt hdr
      have hup := flat_pos u
      have hlt : (pre.length : Int) < q := by omega
      rw [HN.out] at hpl
      generalize hi : 1 + (flats pre).length = i at *
      generalize hm : (flat u).length = m at *
      have HNX := Lib.hid hnx
      have HDRU : Hid (((flat t).drop i).take (i + m - i) = u.nd :: flats u.ks) := Lib.hid (by
        rw [hdr, show i + m - i = m by omega, ← hm, List.take_left, ← flat_eq])
      have HIX : Hid (1 + (flats (pre ++ [u])).length = i + m) := Lib.hid (by rw [flats_append, flats_cons]; simp; omega)
      have HPL := Lib.hid hlen
      have HUM := Lib.hid hm
      clear hdr hoku hnx hi hm hlen
      have hib : i ≤ n := by omega
      have hOW := refOwn_any (.slice (some ⟨g, o, none⟩) n c) (flat t) i (i + m) u.nd (flats u.ks) wr (HV.out.below HB.out) (by rw [HN.out]; exact hl) (by omega) (by rw [HN.out]; exact hpl) HDRU.out
      rw [Int.natCast_add] at hOW
      have HOW := Lib.hid hOW
      clear hOW
      go_wp2_with (go_at_call 40; refine (refNext_any _ (flat t) i _ (HV.out.below HB.out) (by rw [HN.out]; exact hl) (by rw [HN.out]; exact hib)).mono ?_; rintro e w' ⟨rfl, rfl⟩; rw [HNX.out])
      refine HOW.out.mono ?_
      rintro e w1 ⟨v1, rfl, ho1, hb1⟩
      obtain ⟨A1, c1, rfl, -⟩ := ho1.form
      have HZ : Hid (OwnN w.heap.size w1 (.slice A1 (noName u.nd :: flats u.ks).length c1) (flat (nmd [] u))) := Lib.hid (by rw [nmd, flat_mk]; exact ho1.mono HB.out.size)
      have HO1 := Lib.hid (HO.out.below hb1)
      have HE1 := Lib.hid (HE.out.below hb1)
      have HB1 := Lib.hid (Below.after HB.out hb1)
      clear ho1 hb1 a2
      generalize (noName u.nd :: flats u.ks).length = m2 at HZ ⊢
      have HZL : Hid (zs.length + 1 ≤ 65537) := Lib.hid (by have := HE1.out.1; rw [List.length_map] at this; omega)
      go_wp2_with (at_builtin; refine wpList_append_row (base := w.heap.size) elVal rfl _ _ rfl rfl (HO1.out.alloc _) rfl (row_one slc_len w1 _ rfl 23 #[.slice A1 m2 c1] (A1, m2, c1) rfl) ?_ ?_ ?_ ?_)
      · have := HZL.out; unfold maxLen; simp only [List.length_singleton]; omega
      · have := HZL.out; simp only [List.length_singleton]; omega
      · have := HB1.out.size; simp; omega
      · intro A' c' w2 hown2 hg2 hwh
        clear hwh
        have HO2 : Hid (Own slc 1 23 w.heap.size w2 (.slice A' (zs.length + 1) c') (zs ++ [(A1, m2, c1)])) := Lib.hid hown2
        have HE2 : Hid (Elems w.heap.size w2 (zs ++ [(A1, m2, c1)]) ((pre ++ [u]).map fun k => flat (nmd [] k))) := Lib.hid (by
          have h1 : Elems w.heap.size w2 zs (pre.map fun k => flat (nmd [] k)) := (HE1.out.below ((Below.refl _ _).alloc (Nat.le_refl _) _)).aside (HO1.out.alloc _) hg2
          have h2 : OwnN w.heap.size w2 (.slice A1 m2 c1) (flat (nmd [] u)) := Own.aside (HZ.out.alloc _) (HO1.out.alloc _) (by decide) hg2
          rw [List.map_append]
          exact h1.snoc h2)
        have HB2 : Hid (Below w.heap.size w w2) := Lib.hid ((HB1.out.alloc HB1.out.size _).trans ((HO1.out.alloc _).kept hg2 (by have := HB1.out.size; simp; omega)))
        clear hown2 hg2
        generalize zs.length + 1 = zl at HO2 ⊢
        go_wp2_with fail
        go_roundw
        case rel => exact ⟨pre ++ [u], rest, zs ++ [(A1, m2, c1)], by rw [HP.out]; simp, by simp, by rw [HIX.out]; go_num, HO2.out, HE2.out, HB2.out⟩
        case measure => simp [intOf]; omega

theorem refParts_any (v : Value) (t : Tr Nd) (w : World) (hv : Nds w v (flat t)) (hl : (flat t).length ≤ 65536) (ht : Val t) :
    Calls Try.prog 31 #[v] w (GivesV w (t.ks.map fun k => flat (nmd [] k))) :=
  (refParts_own v t w hv hl ht).mono fun _ _ ⟨v', _, h1, h2, h3, h4⟩ => ⟨v', h1, h3.vls (h2.row slc_len), h4⟩

set_option maxRecDepth 100000 in
set_option maxHeartbeats 4000000 in
theorem refNames_own (v : Value) (t : Tr Nd) (w : World) (hv : Nds w v (flat t)) (hl : (flat t).length ≤ 65536) (ht : Val t) :
    Calls Try.prog 33 #[v] w (OwnsS w (namesT t)) := by
  have hvo := hv
  obtain ⟨g, o, c, rfl, hc, hcm, hg, hx⟩ := hvo.opened (flat_pos t)
  have hmany : t.nd.many = t.ks.length := (okT_eq.1 ht.ok).1
  have a1 : w.cell? ⟨g, o + 1, none⟩ = some (.int .i64 (t.ks.length : Nat)) := by
    have := (hx 0 t.nd (by rw [flat_eq]; rfl)).nd.c1
    rw [hmany] at this
    simpa using this
  have a0 : w.cell? ⟨g, o, none⟩ = some (.int .i64 t.nd.kind) := by
    have := (hx 0 t.nd (by rw [flat_eq]; rfl)).nd.c0
    simpa using this
  have HA1 := Lib.hid a1
  have HV := Lib.hid hv
  have HXX := Lib.hid hx
  have HKS := Lib.hid (okT_eq.1 ht.ok).2
  have hkl : t.ks.length ≤ 65536 := by
    have h1 := flats_len t.ks
    rw [flat_eq] at hl
    simp at hl
    omega
  have hpos := flat_pos t
  have HDR : Hid (∀ pre post, t.ks = pre ++ post → (flat t).drop (1 + (flats pre).length) = flats post) := Lib.hid (fun pre post h => by
    rw [flat_eq, h, flats_append, Nat.add_comm, List.drop_succ_cons, List.drop_left])
  clear hx hv hvo hmany a1
  generalize hn : (flat t).length = n at *
  have HN := Lib.hid hn
  clear hn
  generalize hq : t.ks.length = q at *
  have HQ := Lib.hid hq
  clear hq
  have HO0 : Hid (Own stc 1 9 w.heap.size (w.alloc (.cells #[] 9)) (.slice (some ⟨w.heap.size, 0, none⟩) 0 0) []) := Lib.hid (by
    have := Own.lit (base := w.heap.size) (E := 9) stc_len w #[] [] (Nat.le_refl _) (by simp) rfl
    simpa using this)
  by_cases hk : t.nd.kind = 6
  · have HNT : Hid (namesT t = t.ks.map fun k => k.nd.name) := Lib.hid (by rw [namesT, if_pos hk])
    rw [hk] at a0
    have HA0 := Lib.hid a0
    clear a0 hk
    go_enter Try.func33, Try.ntmps33
    go_wp2_with fail
    go_loopw [3, 4, 5] (fun ov iv kv wr => ∃ (pre post : List (Tr Nd)), t.ks = pre ++ post ∧ kv = .int .i64 pre.length ∧ iv = .int .i64 (1 + (flats pre).length : Nat) ∧ Own stc 1 9 w.heap.size wr ov (pre.map fun k => k.nd.name) ∧ Below w.heap.size w wr) (fun _ _ kv _ => q - (intOf kv).toNat)
    case atStart => exact ⟨[], t.ks, rfl, rfl, rfl, HO0.out, (Below.refl _ _).alloc (Nat.le_refl _) _⟩
    case round =>
      obtain ⟨pre, post, hpp, rfl, rfl, hown, hb⟩ := hrel
      have a2 := (hb.cell (p := ⟨g, o + 1, none⟩) hg).trans HA1.out
      have a3 := (hb.cell (p := ⟨g, o, none⟩) hg).trans HA0.out
      have HO := Lib.hid hown
      have HB := Lib.hid hb
      have HP := Lib.hid hpp
      have hlen : pre.length + post.length = q := by rw [← HQ.out, hpp]; simp
      clear hown hpp
      cases post with
      | nil =>
        simp only [List.length_nil, Nat.add_zero] at hlen
        have HF : Hid (pre = t.ks) := Lib.hid (by rw [HP.out]; simp)
        have hlt : ¬ (pre.length : Int) < q := by omega
        clear hlen hb
        go_wp2_with fail
        go_ret
        exact ⟨_, rfl, by rw [HNT.out, ← HF.out]; exact HO.out, HB.out⟩
      | cons u rest =>
        simp only [List.length_cons] at hlen
        have hdr := HDR.out pre (u :: rest) HP.out
        rw [flats_cons] at hdr
        have hoku : okT many u := by have := HKS.out; rw [HP.out, okTs_append, okTs_cons] at this; exact this.2.1
        have hnx := nxt_at hdr hoku
        have hpl := part_lt hdr
        have hup := flat_pos u
        have hlt : (pre.length : Int) < q := by omega
        have hhd := head_at hdr
        rw [HN.out] at hpl
        generalize hi : 1 + (flats pre).length = i at *
        have b2 := (hb.cell (p := ⟨g, o + i * 6 + 2, none⟩) hg).trans (HXX.out i _ hhd).nd.c2
        generalize hm : (flat u).length = m at *
        have HNX := Lib.hid hnx
        have HIX : Hid (1 + (flats (pre ++ [u])).length = i + m) := Lib.hid (by rw [flats_append, flats_cons]; simp; omega)
        have HPL : Hid (pre.length + 1 ≤ 65537) := Lib.hid (by omega)
        have hii : (i : Int) < n := by omega
        have hiin : i < n := by omega
        generalize hnm : u.nd.name = nm at b2
        have HNM := Lib.hid hnm
        have hprel : (pre.map fun k => k.nd.name).length = pre.length := by simp
        generalize hpn : (pre.map fun k => k.nd.name) = pn at HO hprel
        have HPN := Lib.hid hpn
        have HPNL := Lib.hid hprel
        have hlq := hlen
        clear hdr hoku hnx hi hm hlen hhd hnm hpn hprel hb
        have HLQ := Lib.hid hlq
        clear hlq
        go_wp2_with (at_builtin; refine wpList_append_row (base := w.heap.size) elText rfl _ _ rfl rfl (HO.out.alloc _) rfl (row_one stc_len wr _ rfl 9 #[.string ⟨nm.toArray⟩] nm rfl) ?_ ?_ ?_ ?_)
        · have := HPL.out; have := HPNL.out; unfold maxLen; simp only [List.length_singleton]; omega
        · have := HPL.out; have := HPNL.out; simp only [List.length_singleton]; omega
        · have := HB.out.size; simp; omega
        · intro A' c' w2 hown2 hg2 hwh
          clear hwh
          have HO2 : Hid (Own stc 1 9 w.heap.size w2 (.slice A' (pn.length + 1) c') (pn ++ [nm])) := Lib.hid hown2
          have HB2 : Hid (Below w.heap.size w w2) := Lib.hid ((HB.out.alloc HB.out.size _).trans ((HO.out.alloc _).kept hg2 (by have := HB.out.size; simp; omega)))
          clear hown2 hg2
          generalize pn.length + 1 = zl at HO2 ⊢
          have hib : i ≤ n := by omega
          clear a2 a3 b2
          go_wp2_with (go_at_call 40; refine (refNext_any _ (flat t) i _ (HV.out.below HB2.out) (by rw [HN.out]; exact hl) (by rw [HN.out]; exact hib)).mono ?_; rintro e w' ⟨rfl, rfl⟩; rw [HNX.out])
          go_roundw
          case rel => exact ⟨pre ++ [u], rest, by rw [HP.out]; simp, by simp, by rw [HIX.out]; go_num, by rw [List.map_append, HPN.out]; have := HO2.out; rw [← HNM.out] at this; exact this, HB2.out⟩
          case measure => have := HLQ.out; simp [intOf]; omega
  · have HNT : Hid (namesT t = []) := Lib.hid (by rw [namesT, if_neg hk])
    have e6 : (t.nd.kind == 6) = false := by simp [hk]
    have a1 := HA1.out
    clear hk
    go_enter Try.func33, Try.ntmps33
    go_wp2_with fail
    go_loopw [3, 4, 5] (fun ov iv kv wr => kv = .int .i64 0 ∧ ov = .slice (some ⟨w.heap.size, 0, none⟩) 0 0 ∧ wr = w.alloc (.cells #[] 9)) (fun _ _ _ _ => 0)
    case atStart => exact ⟨rfl, rfl, rfl⟩
    case round =>
      obtain ⟨rfl, rfl, rfl⟩ := hrel
      by_cases hq0 : 0 < q
      · have hq1 : (0 : Int) < q := by omega
        go_wp2_with fail
        go_ret
        exact ⟨_, rfl, by rw [HNT.out]; exact HO0.out, (Below.refl _ _).alloc (Nat.le_refl _) _⟩
      · have hq1 : ¬ (0 : Int) < q := by omega
        go_wp2_with fail
        go_ret
        exact ⟨_, rfl, by rw [HNT.out]; exact HO0.out, (Below.refl _ _).alloc (Nat.le_refl _) _⟩
theorem refNames_any (v : Value) (t : Tr Nd) (w : World) (hv : Nds w v (flat t)) (hl : (flat t).length ≤ 65536) (ht : Val t) :
    Calls Try.prog 33 #[v] w (GivesS w (namesT t)) :=
  (refNames_own v t w hv hl ht).mono fun _ _ ⟨v', h1, h2, h4⟩ => ⟨v', h1, h2.row stc_len, h4⟩
end Go.Proofs.Ytbffeffplabaeaa

/-
  What the document's own names, rows and Cmp are.
-/
namespace Go.Proofs.Ytbffeffplabaeaa
open Go.RowKit Np Rw Vp Ov

theorem nm_drop {la lb : List (List UInt8)} {k : Nat} (h1 : k < la.length) (h2 : k < lb.length) : cmpNm (la.drop k) (lb.drop k) = orI (cmpB la[k] lb[k]) (cmpNm (la.drop (k + 1)) (lb.drop (k + 1))) := by
  rw [← List.getElem_cons_drop h1, ← List.getElem_cons_drop h2, cmpNm_cons]
theorem nm_last {la lb : List (List UInt8)} {k : Nat} (h : k = la.length ∨ k = lb.length) (h1 : k ≤ la.length) (h2 : k ≤ lb.length) : cmpNm (la.drop k) (lb.drop k) = Lib.compareInt (la.length : Int) (lb.length : Int) := by
  rw [cmpNm_nn (by simp; omega)]
  simp only [List.length_drop]
  unfold Lib.compareInt
  (repeat' split) <;> omega
set_option maxRecDepth 100000 in
set_option maxHeartbeats 2000000 in
theorem refNamesCmp_any (va vb : Value) (la lb : List (List UInt8)) (w : World) (ha : Sts w va la) (hb : Sts w vb lb) (h1 : la.length ≤ 100000) (h2 : lb.length ≤ 100000) :
    Calls Try.prog 32 #[va, vb] w fun e w' => e = .returned (.int .i64 (cmpNm la lb)) ∧ Below w.heap.size w w' := by
  have HXA : Hid (∀ j x, la[j]? = some x → ∃ g o c, va = .slice (some ⟨g, o, none⟩) la.length c ∧ g < w.heap.size ∧ w.cell? ⟨g, o + j, none⟩ = some (.string ⟨x.toArray⟩)) := Lib.hid fun j x hx => by
    obtain ⟨g, o, c, hv, -, -, hg, h⟩ := ha.opened (by have := (List.getElem?_eq_some_iff.1 hx).1; omega)
    exact ⟨g, o, c, hv, hg, (h j x hx).st⟩
  have HXB : Hid (∀ j x, lb[j]? = some x → ∃ g o c, vb = .slice (some ⟨g, o, none⟩) lb.length c ∧ g < w.heap.size ∧ w.cell? ⟨g, o + j, none⟩ = some (.string ⟨x.toArray⟩)) := Lib.hid fun j x hx => by
    obtain ⟨g, o, c, hv, -, -, hg, h⟩ := hb.opened (by have := (List.getElem?_eq_some_iff.1 hx).1; omega)
    exact ⟨g, o, c, hv, hg, (h j x hx).st⟩
  obtain ⟨A, c, rfl, -⟩ := ha
  obtain ⟨B, d, rfl, -⟩ := hb
  have HR : Hid (cmpNm la lb = cmpNm (la.drop 0) (lb.drop 0)) := Lib.hid (by simp)
  generalize hR : cmpNm la lb = R at *
  clear hR
  generalize hm : la.length = m at *
  generalize hn : lb.length = n at *
  have HM := Lib.hid hm
  have HN := Lib.hid hn
  clear hm hn
  go_enter Try.func32, Try.ntmps32
  go_wp2_with fail
  go_loopw [5] (fun iv wr => ∃ k : Nat, k ≤ m ∧ k ≤ n ∧ iv = .int .i64 k ∧ Hid (R = cmpNm (la.drop k) (lb.drop k)) ∧ Hid (∃ q, wr = w.drewN q)) (fun iv _ => m - (intOf iv).toNat)
  case atStart => exact ⟨0, Nat.zero_le _, Nat.zero_le _, rfl, HR, Lib.hid ⟨0, rfl⟩⟩
  case round =>
    obtain ⟨k, hkm, hkn, rfl, HK, HQ⟩ := hrel
    by_cases hgo : k < m ∧ k < n
    · obtain ⟨h3, h4⟩ := hgo
      have h3' : k < la.length := by rw [HM.out]; exact h3
      have h4' : k < lb.length := by rw [HN.out]; exact h4
      have hst := nm_drop h3' h4'
      obtain ⟨g, o, c1, e1, hg, p1⟩ := HXA.out k _ (List.getElem?_eq_getElem h3')
      obtain ⟨g2, o2, d1, e2, hg2, p2⟩ := HXB.out k _ (List.getElem?_eq_getElem h4')
      injection e1 with e1 e3 e4
      injection e2 with e2 e5 e6
      subst e1 e2 e4 e6
      have q1 := cell_quiet p1 HQ.out
      have q2 := cell_quiet p2 HQ.out
      have HST := Lib.hid hst
      clear p1 p2 e3 e5 hst hg hg2
      generalize la[k] = x at *
      generalize lb[k] = y at *
      by_cases he : x = y
      · subst he
        have HK2 : Hid (R = cmpNm (la.drop (k + 1)) (lb.drop (k + 1))) := Lib.hid (by rw [HK.out, HST.out, (cmpB_eq _ _).2 rfl, orI_z])
        go_wp2_with fail
        go_quiet (fail)
        go_wp2_with fail
        refine ⟨⟨k + 1, by omega, by omega, rfl, HK2, Lib.hid (quiet_more HQ.out _)⟩, ?_⟩
        simp [intOf]; omega
      · have HK2 : Hid (R = cmpB x y) := Lib.hid (by rw [HK.out, HST.out, orI_ne (fun h => he ((cmpB_eq _ _).1 h))])
        have hd : (!x == y) = true := by simpa using he
        go_wp2_with fail
        go_quiet (fail)
        have HK3 : Hid (R = sgB (Op.bytesLess x y) false) := Lib.hid (by
          rw [HK2.out, ← sgB_bytes, bytesLess_eq, decide_eq_false he])
        have hq3 := Lib.hid (quiet_more HQ.out nq)
        go_wp2_with fail
        go_region_with (first | (go_at_call 28; refine (refSign_any _ _ _).mono ?_; rintro e w1 ⟨rfl, rfl⟩))
        all_goals go_wp2_with fail
        all_goals go_ret
        all_goals exact ⟨ret_i64 HK3.out.symm, below_quiet (quiet_more hq3.out 1)⟩
    · have HK2 : Hid (R = sgB (decide (m < n)) (decide (m = n))) := Lib.hid (by
        have h9 := nm_last (la := la) (lb := lb) (k := k) (by rw [HM.out, HN.out]; omega) (by rw [HM.out]; exact hkm) (by rw [HN.out]; exact hkn)
        rw [HK.out, h9, HM.out, HN.out, ← sgB_int]
        congr 1
        · rw [decide_eq_decide]; omega
        · rw [decide_eq_decide]; omega)
      have hgo2 : ¬ k < m ∨ ¬ k < n := by omega
      clear hgo
      go_wp2_with fail
      all_goals go_at_call 28
      all_goals refine (refSign_any _ _ _).mono ?_
      all_goals rintro e w1 ⟨rfl, rfl⟩
      all_goals go_wp2_with fail
      all_goals go_ret
      all_goals exact ⟨ret_i64 (by rw [HK2.out]; congr 1; rw [Bool.eq_iff_iff]; simp; omega), below_quiet HQ.out⟩
end Go.Proofs.Ytbffeffplabaeaa

/-
  What the document's own rows are, over any two rows of values whose comparison is what it should be.
-/
namespace Go.Proofs.Ytbffeffplabaeaa
open Go.RowKit Np Rw Vp Ov

/-- A comparison of two values by the document's own Cmp. -/
def RefQ (t u : Tr Nd) : Prop := ∀ (va vb : Value) (w : World), Nds w va (flat t) → Nds w vb (flat u) →
  Calls Try.prog 13 #[va, vb] w fun e w' => e = .returned (.int .i64 (cmpT t u)) ∧ Below w.heap.size w w'
theorem vls_at {w : World} {v : Value} {ts : List (Tr Nd)} (h : Vls w v (ts.map flat)) {i : Nat} (hi : i < ts.length) : ∃ g o c A n d, v = .slice (some ⟨g, o, none⟩) ts.length c ∧ g < w.heap.size ∧ w.cell? ⟨g, o + i, none⟩ = some (.slice A n d) ∧ Nds w (.slice A n d) (flat ts[i]) := by
  obtain ⟨vs, hl, hr, hx⟩ := h
  rw [List.length_map] at hl
  obtain ⟨g, o, c, hv, -, -, hg, hc⟩ := hr.opened (by omega)
  have hi' : i < vs.length := by omega
  have h1 := hc i vs[i] (List.getElem?_eq_getElem hi')
  have h2 := hx i vs[i] (flat ts[i]) (List.getElem?_eq_getElem hi') (by rw [List.getElem?_map, List.getElem?_eq_getElem hi]; rfl)
  obtain ⟨A, d, h3, -⟩ := id h2
  rw [h3] at h1 h2
  exact ⟨g, o, c, A, _, d, by rw [hv, hl], hg, h1.one, h2⟩
theorem ts_last {ts us : List (Tr Nd)} {k : Nat} (h : k = ts.length ∨ k = us.length) (h1 : k ≤ ts.length) (h2 : k ≤ us.length) : cmpTs (ts.drop k) (us.drop k) = Lib.compareInt (ts.length : Int) (us.length : Int) := by
  rw [cmpTs_end h h1 h2]
  unfold Lib.compareInt
  (repeat' split) <;> omega
set_option maxRecDepth 100000 in
set_option maxHeartbeats 4000000 in
theorem refRows_of {ts us : List (Tr Nd)} (H : ∀ t ∈ ts, ∀ u ∈ us, RefQ t u) (va vb : Value) (w : World) (ha : Vls w va (ts.map flat)) (hb : Vls w vb (us.map flat)) (h1 : ts.length ≤ 100000) :
    Calls Try.prog 30 #[va, vb] w fun e w' => e = .returned (.int .i64 (cmpTs ts us)) ∧ Below w.heap.size w w' := by
  have HA := Lib.hid ha
  have HB := Lib.hid hb
  have HH := Lib.hid H
  obtain ⟨A, c, rfl⟩ : ∃ (A : Option Addr) (c : Nat), va = .slice A ts.length c := by
    obtain ⟨vs, hl, ⟨A, c, hv, -⟩, -⟩ := ha
    rw [List.length_map] at hl
    exact ⟨A, c, by rw [hv, hl]⟩
  obtain ⟨B, d, rfl⟩ : ∃ (B : Option Addr) (d : Nat), vb = .slice B us.length d := by
    obtain ⟨vs, hl, ⟨A, c, hv, -⟩, -⟩ := hb
    rw [List.length_map] at hl
    exact ⟨A, c, by rw [hv, hl]⟩
  clear ha hb H
  have HR : Hid (cmpTs ts us = cmpTs (ts.drop 0) (us.drop 0)) := Lib.hid (by simp)
  generalize hR : cmpTs ts us = R at *
  clear hR
  generalize hm : ts.length = m at *
  generalize hn : us.length = n at *
  have HM := Lib.hid hm
  have HN := Lib.hid hn
  clear hm hn
  go_enter Try.func30, Try.ntmps30
  go_wp2_with fail
  go_loopw [5] (fun iv wr => ∃ k : Nat, k ≤ m ∧ k ≤ n ∧ iv = .int .i64 k ∧ Hid (R = cmpTs (ts.drop k) (us.drop k)) ∧ Hid (Below w.heap.size w wr)) (fun iv _ => m - (intOf iv).toNat)
  case atStart => exact ⟨0, Nat.zero_le _, Nat.zero_le _, rfl, HR, Lib.hid (Below.refl _ _)⟩
  case round =>
    obtain ⟨k, hkm, hkn, rfl, HK, HQ⟩ := hrel
    by_cases hgo : k < m ∧ k < n
    · obtain ⟨h3, h4⟩ := hgo
      have h3' : k < ts.length := by rw [HM.out]; exact h3
      have h4' : k < us.length := by rw [HN.out]; exact h4
      have hst := cmpTs_at h3' h4'
      obtain ⟨g, o, c1, A1, n1, d1, e1, hg, p1, r1⟩ := vls_at HA.out h3'
      obtain ⟨g2, o2, c2, A2, n2, d2, e2, hg2, p2, r2⟩ := vls_at HB.out h4'
      rw [HM.out] at e1
      rw [HN.out] at e2
      injection e1 with e1 e3 e4
      injection e2 with e2 e5 e6
      subst e1 e2 e4 e6
      have q1 := (HQ.out.cell (p := ⟨g, o + k, none⟩) hg).trans p1
      have q2 := (HQ.out.cell (p := ⟨g2, o2 + k, none⟩) hg2).trans p2
      have HC : Hid (∀ W, Below w.heap.size w W → Calls Try.prog 13 #[.slice A1 n1 d1, .slice A2 n2 d2] W fun e w' => e = .returned (.int .i64 (cmpT ts[k] us[k])) ∧ Below W.heap.size W w') := Lib.hid fun W hb => HH.out _ (List.getElem_mem _) _ (List.getElem_mem _) _ _ W (r1.below hb) (r2.below hb)
      have HST := Lib.hid hst
      clear p1 p2 e3 e5 hst hg hg2 r1 r2
      generalize cmpT ts[k] us[k] = q at *
      have HQD : Hid (Below w.heap.size w wr.drew) := Lib.hid HQ.out.drew
      by_cases hq : q = 0
      · subst hq
        have HK2 : Hid (R = cmpTs (ts.drop (k + 1)) (us.drop (k + 1))) := Lib.hid (by rw [HK.out, HST.out, orI_z])
        go_wp2_with fail
        go_region_with (first | (go_at_call 13; refine (HC.out _ HQD.out).mono ?_; rintro e w1 ⟨rfl, hb1⟩))
        all_goals go_wp2_with fail
        all_goals
          refine ⟨⟨k + 1, by omega, by omega, rfl, HK2, Lib.hid (HQD.out.trans (hb1.mono HQD.out.size))⟩, ?_⟩
          simp [intOf]; omega
      · have HK2 : Hid (R = q) := Lib.hid (by rw [HK.out, HST.out, orI_ne hq])
        have hq1 : ((q == 0) : Bool) = false := by simpa using hq
        go_wp2_with fail
        go_region_with (first | (go_at_call 13; refine (HC.out _ HQD.out).mono ?_; rintro e w1 ⟨rfl, hb1⟩))
        all_goals go_wp2_with fail
        all_goals go_ret
        all_goals exact ⟨ret_i64 HK2.out.symm, HQD.out.trans (hb1.mono HQD.out.size)⟩
    · have HK2 : Hid (R = sgB (decide (m < n)) (decide (m = n))) := Lib.hid (by
        have h9 := ts_last (ts := ts) (us := us) (k := k) (by rw [HM.out, HN.out]; omega) (by rw [HM.out]; exact hkm) (by rw [HN.out]; exact hkn)
        rw [HK.out, h9, HM.out, HN.out, ← sgB_int]
        congr 1
        · rw [decide_eq_decide]; omega
        · rw [decide_eq_decide]; omega)
      have hgo2 : ¬ k < m ∨ ¬ k < n := by omega
      clear hgo
      go_wp2_with fail
      all_goals go_at_call 28
      all_goals refine (refSign_any _ _ _).mono ?_
      all_goals rintro e w1 ⟨rfl, rfl⟩
      all_goals go_wp2_with fail
      all_goals go_ret
      all_goals exact ⟨ret_i64 (by rw [HK2.out]; congr 1; rw [Bool.eq_iff_iff]; simp; omega), HQ.out⟩
end Go.Proofs.Ytbffeffplabaeaa

/-
  Plain words: noughts are taken off figures one by one; what a power comes to. No program stands here.
-/
namespace Go.Proofs.Ytbffeffplabaeaa
namespace Np
open Go.RowKit

theorem extract_len (s : ByteArray) (a b : Nat) (h : a ≤ b) (h2 : b ≤ s.size) : (s.extract a b).size = b - a := by
  rw [← size_toList, Lib.extract_data]; simp; omega
theorem first_split (s : ByteArray) (h : 0 < s.size) : s.data.toList = s[0] :: s.data.toList.drop 1 := by
  have h2 : 0 < s.data.toList.length := by rw [size_toList]; exact h
  have e := List.drop_eq_getElem_cons h2
  rw [List.drop_zero, get_toList s 0 h] at e
  exact e
theorem trimLeft_step (s : ByteArray) (h : 0 < s.size) (h48 : s[0] = 48) : Lib.trimLeftB (s.extract 1 s.size).data.toList 48 = Lib.trimLeftB s.data.toList 48 := by
  rw [Lib.extract_data]
  have e := first_split s h
  rw [List.take_of_length_le (by simp)]
  conv => rhs; rw [e]
  simp [Lib.trimLeftB, h48]
theorem trimLeft_stop (s : ByteArray) (h : ∀ h : 0 < s.size, s[0] ≠ 48) : Lib.trimLeftB s.data.toList 48 = s.data.toList := by
  unfold Lib.trimLeftB
  by_cases h0 : 0 < s.size
  · have e := first_split s h0
    rw [e, List.dropWhile_cons_of_neg (by simpa using h h0)]
  · have : s.data.toList = [] := by rw [← List.length_eq_zero_iff, size_toList]; omega
    rw [this]; rfl
theorem last_split (s : ByteArray) (h : 0 < s.size) : s.data.toList = (s.extract 0 (s.size - 1)).data.toList ++ [s[s.size - 1]] := by
  have h2 : s.size - 1 < s.data.toList.length := by rw [size_toList]; omega
  have e := List.take_append_getElem h2
  rw [show s.size - 1 + 1 = s.data.toList.length by rw [size_toList]; omega, List.take_length] at e
  rw [Lib.extract_data, List.drop_zero, Nat.sub_zero, ← get_toList s (s.size - 1) (by omega)]
  exact e.symm
theorem trimRight_step (s : ByteArray) (h : 0 < s.size) (h48 : s[s.size - 1] = 48) : Lib.trimRightB (s.extract 0 (s.size - 1)).data.toList 48 = Lib.trimRightB s.data.toList 48 := by
  conv => rhs; rw [last_split s h]
  simp [Lib.trimRightB, h48]
theorem trimRight_snoc (l : List UInt8) (c : UInt8) (h : c ≠ 48) : Lib.trimRightB (l ++ [c]) 48 = l ++ [c] := by simp [Lib.trimRightB, h]
theorem trimRight_stop (s : ByteArray) (h : 0 < s.size) (h48 : s[s.size - 1] ≠ 48) : Lib.trimRightB s.data.toList 48 = s.data.toList := by
  have e := last_split s h
  have e2 := trimRight_snoc (s.extract 0 (s.size - 1)).data.toList s[s.size - 1] h48
  rw [← e] at e2
  exact e2
theorem dropWhile_nil (p : UInt8 → Bool) : ∀ l : List UInt8, l.dropWhile p = [] → ∀ x ∈ l, p x = true
  | [], _, _, hx => by cases hx
  | a :: t, h, x, hx => by
    rw [List.dropWhile_cons] at h
    cases ha : p a
    · rw [ha] at h; simp at h
    · rw [ha] at h
      simp only [if_true] at h
      rcases List.mem_cons.1 hx with e | e
      · rw [e]; exact ha
      · exact dropWhile_nil p t h x e
theorem trimRight_ne {c : UInt8} {t : List UInt8} (h : c ≠ 48) : Lib.trimRightB (c :: t) 48 ≠ [] := by
  intro e
  unfold Lib.trimRightB at e
  rw [List.reverse_eq_nil_iff] at e
  have := dropWhile_nil _ _ e c (by simp)
  simp at this
  exact h this
theorem trimRight_head {c : UInt8} {t : List UInt8} (h : c ≠ 48) : (Lib.trimRightB (c :: t) 48).headD 0 = c := by
  have hp : Lib.trimRightB (c :: t) 48 <+: c :: t := by
    unfold Lib.trimRightB
    have := List.dropWhile_suffix (· == (48 : UInt8)) (l := (c :: t).reverse)
    rw [← List.reverse_prefix] at this
    simpa using this
  cases hl : Lib.trimRightB (c :: t) 48 with
  | nil => exact absurd hl (trimRight_ne h)
  | cons a b =>
    rw [hl] at hp
    rw [List.cons_prefix_cons] at hp
    exact hp.1
theorem trimRight_last (l : List UInt8) (h : Lib.trimRightB l 48 ≠ []) : (Lib.trimRightB l 48).getLastD 0 ≠ 48 := by
  unfold Lib.trimRightB at h ⊢
  rw [ne_eq, List.reverse_eq_nil_iff] at h
  cases hd : l.reverse.dropWhile (· == 48) with
  | nil => exact absurd hd h
  | cons a b =>
    have := List.head?_dropWhile_not (· == (48 : UInt8)) l.reverse
    rw [hd] at this
    simp at this
    simp
    exact this
theorem trimLeft_head (l : List UInt8) (h : Lib.trimLeftB l 48 ≠ []) : ∃ c t, Lib.trimLeftB l 48 = c :: t ∧ c ≠ 48 := by
  cases hd : Lib.trimLeftB l 48 with
  | nil => exact absurd hd h
  | cons a b =>
    refine ⟨a, b, rfl, ?_⟩
    have := List.head?_dropWhile_not (· == (48 : UInt8)) l
    unfold Lib.trimLeftB at hd
    rw [hd] at this
    simpa using this
theorem figs_trimRight {l : List UInt8} (h : figs l = true) : figs (Lib.trimRightB l 48) = true := by
  rw [figs, List.all_eq_true] at h ⊢
  intro x hx
  unfold Lib.trimRightB at hx
  rw [List.mem_reverse] at hx
  have := (List.dropWhile_suffix _).subset hx
  rw [List.mem_reverse] at this
  exact h x this
theorem figs_trimLeft' {l : List UInt8} (h : figs l = true) : figs (Lib.trimLeftB l 48) = true := by
  rw [figs, List.all_eq_true] at h ⊢
  exact fun x hx => h x ((List.dropWhile_suffix _).subset hx)
/-- What the number of figures is, once noughts ahead and behind are off. -/
theorem mkN_right (g : Bool) (f : List UInt8) (e : Int) (hf : figs f = true) (h : Lib.trimLeftB f 48 ≠ []) :
    right (mkN g f e) = (decide ((Lib.trimRightB (Lib.trimLeftB f 48) 48).length ≤ 100) && decide (-1000 ≤ (mkN g f e).e) && decide ((mkN g f e).e ≤ 1000 - (Lib.trimRightB (Lib.trimLeftB f 48) 48).length)) := by
  obtain ⟨c, t, e1, hc⟩ := trimLeft_head f h
  have h1 : Lib.trimRightB (Lib.trimLeftB f 48) 48 ≠ [] := by rw [e1]; exact trimRight_ne hc
  have h2 := trimRight_last _ h1
  have h3 : (Lib.trimRightB (Lib.trimLeftB f 48) 48).headD 0 ≠ 48 := by rw [e1, trimRight_head hc]; exact hc
  have h4 := figs_trimRight (figs_trimLeft' hf)
  rw [right_some rfl rfl rfl (by show List.isEmpty (Lib.trimRightB (Lib.trimLeftB f 48) 48) = false; simpa using h1)]
  show (rfigs (Lib.trimRightB (Lib.trimLeftB f 48) 48) && rpow (Lib.trimRightB (Lib.trimLeftB f 48) 48).length (mkN g f e).e) = _
  unfold rfigs rpow
  rw [bne_iff_ne.2 h2, bne_iff_ne.2 h3, h4]
  simp [Bool.and_assoc]
theorem trim_len (f : List UInt8) : (Lib.trimRightB (Lib.trimLeftB f 48) 48).length ≤ (Lib.trimLeftB f 48).length ∧ (Lib.trimLeftB f 48).length ≤ f.length := by
  refine ⟨?_, (List.dropWhile_suffix _).length_le⟩
  rw [Lib.trimRightB, List.length_reverse]
  exact Nat.le_trans (List.dropWhile_suffix _).length_le (by simp)
theorem mkN_e (g : Bool) (f : List UInt8) (e : Int) (hl : f.length ≤ 1000000) (h1 : -100000000 ≤ e) (h2 : e ≤ 100000000) :
    (mkN g f e).e = e + ((Lib.trimLeftB f 48).length - (Lib.trimRightB (Lib.trimLeftB f 48) 48).length : Nat) := by
  obtain ⟨a, b⟩ := trim_len f
  unfold mkN
  simp only
  unfold wrap64
  omega
theorem mkN_far (g : Bool) (f : List UInt8) (e : Int) (hf : figs f = true) (h : Lib.trimLeftB f 48 ≠ []) (hl : f.length ≤ 1000000) (h0 : -9223372036854775808 ≤ e) (h1 : e ≤ 9223372036854775807) (h2 : e < -100000000 ∨ 100000000 < e) : right (mkN g f e) = false := by
  obtain ⟨a, b⟩ := trim_len f
  rw [mkN_right g f e hf h]
  have h3 : ¬ (-1000 ≤ (mkN g f e).e ∧ (mkN g f e).e ≤ 1000) := by
    unfold mkN
    simp only
    unfold wrap64
    omega
  rw [← Bool.not_eq_true]
  simp only [Bool.and_eq_true, decide_eq_true_eq]
  omega

end Np
end Go.Proofs.Ytbffeffplabaeaa

/-
  Plain words on numbers that are written: the worth of figures, how a text is taken apart. No program stands here.
-/
namespace Go.Proofs.Ytbffeffplabaeaa
namespace Np
open Go.RowKit

/-- The number of some figures. -/
def worth (l : List UInt8) : Nat := l.foldl (fun n c => 10 * n + (c.toNat - 48)) 0
theorem worth_snoc (l : List UInt8) (c : UInt8) : worth (l ++ [c]) = 10 * worth l + (c.toNat - 48) := by simp [worth]
theorem figs_at {l : List UInt8} {k : Nat} (h : figs l = true) (hk : k < l.length) : fig l[k] = true := by
  rw [figs, List.all_eq_true] at h
  exact h _ (List.getElem_mem hk)
theorem figs_take {l : List UInt8} (h : figs l = true) (k : Nat) : figs (l.take k) = true := by
  rw [figs, List.all_eq_true] at h ⊢
  exact fun x hx => h x (List.mem_of_mem_take hx)
theorem worth_lt : ∀ (l : List UInt8), figs l = true → worth l < 10 ^ l.length := by
  intro l
  induction hn : l.length generalizing l with
  | zero => intro _; rw [List.length_eq_zero_iff.1 hn]; decide
  | succ n ih =>
    intro hf
    have hl := List.take_append_getElem (i := n) (l := l) (by omega)
    rw [show n + 1 = l.length by omega, List.take_length] at hl
    have h1 := ih (l.take n) (by simp; omega) (figs_take hf n)
    have h2 := (fig_iff _).1 (figs_at hf (k := n) (by omega))
    rw [← hl, worth_snoc, Nat.pow_succ]
    omega
theorem worth_small (l : List UInt8) (h : l.length ≤ 6) (hf : figs l = true) : worth l < 1000000 :=
  Nat.lt_of_lt_of_le (worth_lt l hf) (Nat.pow_le_pow_right (n := 10) (i := l.length) (j := 6) (by decide) h)

/-- Where figures end. -/
theorem takeWhile_stop : ∀ (l : List UInt8) (j : Nat), j ≤ l.length → figs (l.take j) = true → (∀ h : j < l.length, fig l[j] = false) → l.takeWhile fig = l.take j := by
  intro l
  induction l with
  | nil => intro j hj _ _; simp
  | cons a t ih =>
    intro j hj hf hs
    cases j with
    | zero =>
      have := hs (by simp)
      simp only [List.getElem_cons_zero] at this
      simp [List.takeWhile, this]
    | succ j =>
      simp only [List.take_succ_cons, figs, List.all_cons, Bool.and_eq_true] at hf
      simp only [List.length_cons, Nat.add_le_add_iff_right] at hj
      rw [List.takeWhile_cons, if_pos hf.1, List.take_succ_cons, ih j hj hf.2]
      intro h
      have := hs (by simpa using h)
      simpa using this

/-- Does this byte stand there? -/
def stands (l : List UInt8) (i : Nat) (c : UInt8) : Bool := l[i]? == some c
def run (l : List UInt8) (i : Nat) : List UInt8 := (l.drop i).takeWhile fig
theorem run_le (l : List UInt8) (i : Nat) (h : i ≤ l.length) : i + (run l i).length ≤ l.length := by
  have := (List.takeWhile_sublist fig (l := l.drop i)).length_le
  simp only [List.length_drop] at this
  unfold run; omega
theorem run_figs (l : List UInt8) (i : Nat) : figs (run l i) = true := by
  unfold figs run; exact List.all_takeWhile
theorem stands_lt {l : List UInt8} {i : Nat} {c : UInt8} (h : stands l i c = true) : i < l.length := by
  unfold stands at h
  rw [beq_iff_eq] at h
  exact (List.getElem?_eq_some_iff.1 h).1

/-- A number as it is written, taken apart: places, figures, and whether it can't go on. -/
def i0F (l : List UInt8) : Nat := if stands l 0 45 = true then 1 else 0
def wholeF (l : List UInt8) : List UInt8 := if stands l (i0F l) 48 = true then [] else run l (i0F l)
def i1F (l : List UInt8) : Nat := if stands l (i0F l) 48 = true then i0F l + 1 else i0F l + (run l (i0F l)).length
def bad1 (l : List UInt8) : Bool := !stands l (i0F l) 48 && (run l (i0F l)).isEmpty
def partF (l : List UInt8) : List UInt8 := if stands l (i1F l) 46 = true then run l (i1F l + 1) else []
def i3F (l : List UInt8) : Nat := if stands l (i1F l) 46 = true then i1F l + 1 + (run l (i1F l + 1)).length else i1F l
def bad2 (l : List UInt8) : Bool := stands l (i1F l) 46 && (run l (i1F l + 1)).isEmpty
def exF (l : List UInt8) : Bool := stands l (i3F l) 101 || stands l (i3F l) 69
def plusF (l : List UInt8) : Bool := stands l (i3F l + 1) 43
def lessF (l : List UInt8) : Bool := stands l (i3F l + 1) 45
def downF (l : List UInt8) : Bool := exF l && !plusF l && lessF l
def i5F (l : List UInt8) : Nat := if exF l = true then (if (plusF l || lessF l) = true then i3F l + 2 else i3F l + 1) else i3F l
def powF (l : List UInt8) : List UInt8 := if exF l = true then run l (i5F l) else []
def i6F (l : List UInt8) : Nat := i5F l + (powF l).length
def bad3 (l : List UInt8) : Bool := exF l && (powF l).isEmpty
structure Wr where
  neg : Bool
  whole : List UInt8
  part : List UInt8
  down : Bool
  power : List UInt8
def wr0 : Wr := ⟨false, [], [], false, []⟩
def scanF (l : List UInt8) : Wr × Nat × Bool :=
  if bad1 l = true then (wr0, i0F l, false) else if bad2 l = true then (wr0, i1F l + 1, false) else if bad3 l = true then (wr0, i5F l, false)
  else (⟨stands l 0 45, wholeF l, partF l, downF l, powF l⟩, i6F l, i6F l == l.length)
theorem at1_no {l : List UInt8} (h : stands l (i0F l) 48 = false) : bad1 l = (run l (i0F l)).isEmpty ∧ wholeF l = run l (i0F l) ∧ i1F l = i0F l + (run l (i0F l)).length := by
  refine ⟨by simp [bad1, h], by simp [wholeF, h], by simp [i1F, h]⟩
theorem at1_yes {l : List UInt8} (h : stands l (i0F l) 48 = true) : bad1 l = false ∧ wholeF l = [] ∧ i1F l = i0F l + 1 := by
  refine ⟨by simp [bad1, h], by simp [wholeF, h], by simp [i1F, h]⟩
theorem at2_no {l : List UInt8} (h : stands l (i1F l) 46 = false) : bad2 l = false ∧ partF l = [] ∧ i3F l = i1F l := by
  refine ⟨by simp [bad2, h], by simp [partF, h], by simp [i3F, h]⟩
theorem at2_yes {l : List UInt8} (h : stands l (i1F l) 46 = true) : bad2 l = (run l (i1F l + 1)).isEmpty ∧ partF l = run l (i1F l + 1) ∧ i3F l = i1F l + 1 + (run l (i1F l + 1)).length := by
  refine ⟨by simp [bad2, h], by simp [partF, h], by simp [i3F, h]⟩
theorem at3_no {l : List UInt8} (h : exF l = false) : bad3 l = false ∧ downF l = false ∧ powF l = [] ∧ i6F l = i3F l := by
  refine ⟨by simp [bad3, h], by simp [downF, h], by simp [powF, h], by simp [i6F, powF, i5F, h]⟩
theorem at3_yes {l : List UInt8} (h : exF l = true) : bad3 l = (run l (i5F l)).isEmpty ∧ powF l = run l (i5F l) ∧ i6F l = i5F l + (run l (i5F l)).length := by
  refine ⟨by simp [bad3, powF, h], by simp [powF, h], by simp [i6F, powF, h]⟩
theorem at5_plus {l : List UInt8} (h : exF l = true) (h2 : stands l (i3F l + 1) 43 = true) : downF l = false ∧ i5F l = i3F l + 1 + 1 := by
  refine ⟨by simp [downF, plusF, h2], by simp [i5F, plusF, h, h2]⟩
theorem at5_rest {l : List UInt8} (h : exF l = true) (h2 : stands l (i3F l + 1) 43 = false) : downF l = stands l (i3F l + 1) 45 ∧ i5F l = (if stands l (i3F l + 1) 45 then i3F l + 1 + 1 else i3F l + 1) := by
  refine ⟨by simp [downF, plusF, lessF, h, h2], by simp [i5F, plusF, lessF, h, h2]⟩
theorem scanF_1 {l : List UInt8} (h : bad1 l = true) : scanF l = (wr0, i0F l, false) := by rw [scanF, if_pos h]
theorem scanF_2 {l : List UInt8} (h : bad1 l = false) (h2 : bad2 l = true) : scanF l = (wr0, i1F l + 1, false) := by rw [scanF, if_neg (by rw [h]; decide), if_pos h2]
theorem scanF_3 {l : List UInt8} (h : bad1 l = false) (h2 : bad2 l = false) (h3 : bad3 l = true) : scanF l = (wr0, i5F l, false) := by
  rw [scanF, if_neg (by rw [h]; decide), if_neg (by rw [h2]; decide), if_pos h3]
theorem scanF_4 {l : List UInt8} (h : bad1 l = false) (h2 : bad2 l = false) (h3 : bad3 l = false) : scanF l = (⟨stands l 0 45, wholeF l, partF l, downF l, powF l⟩, i6F l, i6F l == l.length) := by
  rw [scanF, if_neg (by rw [h]; decide), if_neg (by rw [h2]; decide), if_neg (by rw [h3]; decide)]
theorem i0F_le (l : List UInt8) : i0F l ≤ l.length := by
  unfold i0F; split
  · rename_i h; exact stands_lt h
  · omega
theorem i1F_le (l : List UInt8) : i1F l ≤ l.length := by
  unfold i1F; split
  · rename_i h; exact stands_lt h
  · exact run_le _ _ (i0F_le l)
theorem i3F_le (l : List UInt8) : i3F l ≤ l.length := by
  unfold i3F; split
  · rename_i h; exact run_le _ _ (stands_lt h)
  · exact i1F_le l
theorem i5F_le (l : List UInt8) : i5F l ≤ l.length := by
  unfold i5F; split
  · rename_i h
    have hlt : i3F l < l.length := by
      unfold exF at h
      rw [Bool.or_eq_true] at h
      rcases h with h | h <;> exact stands_lt h
    split
    · rename_i h2
      rw [Bool.or_eq_true] at h2
      rcases h2 with h2 | h2 <;> exact stands_lt h2
    · exact hlt
  · exact i3F_le l
theorem i6F_le (l : List UInt8) : i6F l ≤ l.length := by
  unfold i6F powF; split
  · exact run_le _ _ (i5F_le l)
  · simp; exact i5F_le l

end Np
end Go.Proofs.Ytbffeffplabaeaa

/-
  Plain words on numbers that are written: the number that a text is written as. No program stands here.
-/
namespace Go.Proofs.Ytbffeffplabaeaa
namespace Np
open Go.RowKit

/-- The number that a text is written as, where it can't go on, and how that ends. -/
def powOf (r : Wr) : Int := if r.down = true then -(worth (Lib.trimLeftB r.power 48) : Int) else (worth (Lib.trimLeftB r.power 48) : Int)
def mkW (r : Wr) : Nd × Int := mk r.neg (r.whole ++ r.part) (powOf r - r.part.length)
def readF (l : List UInt8) : Nd × Int × Int :=
  if (scanF l).2.2 = false then (nd0, (scanF l).2.1, 1) else if 6 < (Lib.trimLeftB (scanF l).1.power 48).length then (nd0, 0, 2) else ((mkW (scanF l).1).1, 0, (mkW (scanF l).1).2)
theorem scanF_figs (l : List UInt8) : figs (scanF l).1.whole = true ∧ figs (scanF l).1.part = true ∧ figs (scanF l).1.power = true := by
  unfold scanF
  split
  · exact ⟨rfl, rfl, rfl⟩
  split
  · exact ⟨rfl, rfl, rfl⟩
  split
  · exact ⟨rfl, rfl, rfl⟩
  refine ⟨?_, ?_, ?_⟩
  · show figs (wholeF l) = true
    unfold wholeF; split
    · rfl
    · exact run_figs _ _
  · show figs (partF l) = true
    unfold partF; split
    · exact run_figs _ _
    · rfl
  · show figs (powF l) = true
    unfold powF; split
    · exact run_figs _ _
    · rfl
theorem run_len (l : List UInt8) (i : Nat) : (run l i).length ≤ l.length := by
  have := (List.takeWhile_sublist fig (l := l.drop i)).length_le
  simp only [List.length_drop] at this
  unfold run; omega
theorem scanF_len (l : List UInt8) : (scanF l).1.whole.length ≤ l.length ∧ (scanF l).1.part.length ≤ l.length ∧ (scanF l).1.power.length ≤ l.length := by
  unfold scanF
  split
  · exact ⟨Nat.zero_le _, Nat.zero_le _, Nat.zero_le _⟩
  split
  · exact ⟨Nat.zero_le _, Nat.zero_le _, Nat.zero_le _⟩
  split
  · exact ⟨Nat.zero_le _, Nat.zero_le _, Nat.zero_le _⟩
  refine ⟨?_, ?_, ?_⟩
  · show (wholeF l).length ≤ _
    unfold wholeF; split
    · exact Nat.zero_le _
    · exact run_len _ _
  · show (partF l).length ≤ _
    unfold partF; split
    · exact run_len _ _
    · exact Nat.zero_le _
  · show (powF l).length ≤ _
    unfold powF; split
    · exact run_len _ _
    · exact Nat.zero_le _
theorem figs_trimLeft {l : List UInt8} (h : figs l = true) : figs (Lib.trimLeftB l 48) = true := by
  rw [figs, List.all_eq_true] at h ⊢
  exact fun x hx => h x ((List.dropWhile_suffix _).subset hx)

theorem readF_form {l : List UInt8} {r : Wr} {i : Nat} (h : scanF l = (r, i, false)) : readF l = (nd0, (i : Int), 1) := by rw [readF, h]; rfl
theorem readF_large {l : List UInt8} {r : Wr} {i : Nat} (h : scanF l = (r, i, true)) (h6 : 6 < (Lib.trimLeftB r.power 48).length) : readF l = (nd0, 0, 2) := by
  rw [readF, h, if_neg (by simp), if_pos h6]
theorem readF_ok {l : List UInt8} {r : Wr} {i : Nat} (h : scanF l = (r, i, true)) (h6 : ¬ 6 < (Lib.trimLeftB r.power 48).length) : readF l = ((mkW r).1, 0, (mkW r).2) := by
  rw [readF, h, if_neg (by simp), if_neg h6]

end Np
end Go.Proofs.Ytbffeffplabaeaa

/-
  Plain words: where a number's figures end, in the document's words. No program stands here.
-/
namespace Go.Proofs.Ytbffeffplabaeaa
namespace Np
open Go.RowKit

theorem run_at {l : List UInt8} {i : Nat} (h : stands l i 48 = true) : (run l i).isEmpty = false := by
  have hlt := stands_lt h
  unfold stands at h
  rw [List.getElem?_eq_getElem hlt] at h
  have h48 : l[i] = 48 := by simpa using h
  unfold run
  rw [List.drop_eq_getElem_cons hlt, List.takeWhile_cons, if_pos (by rw [h48]; decide)]
  rfl
theorem bad1_run (l : List UInt8) : bad1 l = (run l (i0F l)).isEmpty := by
  unfold bad1
  cases h : stands l (i0F l) 48
  · simp
  · simp [run_at h]

end Np
end Go.Proofs.Ytbffeffplabaeaa

/-
  Plain words: a nought ahead makes no other number. No program stands here.
-/
namespace Go.Proofs.Ytbffeffplabaeaa
namespace Np
open Go.RowKit

theorem mk_nought_ahead (g : Bool) (f : List UInt8) (e : Int) : mk g (48 :: f) e = mk g f e := by
  have h1 : figs (48 :: f) = figs f := by simp [figs, show fig 48 = true by decide]
  have h2 : Lib.trimLeftB (48 :: f) 48 = Lib.trimLeftB f 48 := by simp [Lib.trimLeftB]
  unfold mk mkN
  rw [h1, h2]
/-- The figures ahead of the point, with a nought that leads. -/
def aheadF (l : List UInt8) : List UInt8 := (l.drop (i0F l)).take (i1F l - i0F l)
theorem aheadF_eq (l : List UInt8) : aheadF l = wholeF l ∨ aheadF l = 48 :: wholeF l := by
  unfold aheadF
  cases h : stands l (i0F l) 48
  · obtain ⟨_, e2, e3⟩ := at1_no h
    left
    rw [e2, e3, Nat.add_sub_cancel_left]
    exact (List.prefix_iff_eq_take.1 (List.takeWhile_prefix fig)).symm
  · obtain ⟨_, e2, e3⟩ := at1_yes h
    right
    have hlt := stands_lt h
    unfold stands at h
    rw [List.getElem?_eq_getElem hlt] at h
    have h48 : l[i0F l] = 48 := by simpa using h
    rw [e2, e3, Nat.add_sub_cancel_left, List.drop_eq_getElem_cons hlt, h48]
    rfl
theorem mk_ahead (g : Bool) (l p : List UInt8) (e : Int) : mk g (aheadF l ++ p) e = mk g (wholeF l ++ p) e := by
  rcases aheadF_eq l with h | h
  · rw [h]
  · rw [h, List.cons_append, mk_nought_ahead]

theorem read_short {l : List UInt8} (h1 : bad1 l = false) (h2 : bad2 l = false) (h : i6F l < l.length) : readF l = (nd0, (i6F l : Int), 1) := by
  cases h3 : bad3 l
  · have e := scanF_4 h1 h2 h3
    rw [show (i6F l == l.length) = false by rw [beq_eq_false_iff_ne]; omega] at e
    exact readF_form e
  · have e := readF_form (scanF_3 h1 h2 h3)
    have hp : powF l = [] := by
      unfold bad3 at h3
      rw [Bool.and_eq_true] at h3
      exact List.isEmpty_iff.1 h3.2
    rw [e]; unfold i6F; rw [hp]; simp
theorem read_bad3 {l : List UInt8} (h1 : bad1 l = false) (h2 : bad2 l = false) (h3 : bad3 l = true) : readF l = (nd0, (i6F l : Int), 1) := by
  have e := readF_form (scanF_3 h1 h2 h3)
  have hp : powF l = [] := by
    unfold bad3 at h3
    rw [Bool.and_eq_true] at h3
    exact List.isEmpty_iff.1 h3.2
  rw [e]; unfold i6F; rw [hp]; simp
theorem scan_all {l : List UInt8} (h1 : bad1 l = false) (h2 : bad2 l = false) (h3 : bad3 l = false) (h : i6F l = l.length) : scanF l = (⟨stands l 0 45, wholeF l, partF l, downF l, powF l⟩, i6F l, true) := by
  have e := scanF_4 h1 h2 h3
  rw [show (i6F l == l.length) = true by rw [beq_iff_eq]; exact h] at e
  exact e

end Np
end Go.Proofs.Ytbffeffplabaeaa

/-
  Plain words: one number, many writings. No program stands here.
-/
namespace Go.Proofs.Ytbffeffplabaeaa
namespace Np
open Go.RowKit

def noughts (n : Nat) : List UInt8 := List.replicate n 48
theorem mk_noughts_ahead (g : Bool) (f : List UInt8) (e : Int) : ∀ n, mk g (noughts n ++ f) e = mk g f e
  | 0 => rfl
  | n + 1 => by
    rw [show noughts (n + 1) ++ f = 48 :: (noughts n ++ f) by simp [noughts, List.replicate_succ], mk_nought_ahead, mk_noughts_ahead g f e n]
theorem trimLeft_behind (f : List UInt8) (b : Nat) : Lib.trimLeftB (f ++ noughts b) 48 = if Lib.trimLeftB f 48 = [] then [] else Lib.trimLeftB f 48 ++ noughts b := by
  induction f with
  | nil =>
    simp only [Lib.trimLeftB, List.nil_append, List.dropWhile_nil, if_true]
    unfold noughts
    induction b with
    | zero => rfl
    | succ b ih => rw [List.replicate_succ, List.dropWhile_cons_of_pos (by simp)]; exact ih
  | cons c t ih =>
    by_cases hc : c = 48
    · subst hc
      have e1 : Lib.trimLeftB (48 :: t ++ noughts b) 48 = Lib.trimLeftB (t ++ noughts b) 48 := by simp [Lib.trimLeftB]
      have e2 : Lib.trimLeftB (48 :: t) 48 = Lib.trimLeftB t 48 := by simp [Lib.trimLeftB]
      rw [e1, e2, ih]
    · have e1 : Lib.trimLeftB (c :: t ++ noughts b) 48 = c :: t ++ noughts b := by simp [Lib.trimLeftB, hc]
      have e2 : Lib.trimLeftB (c :: t) 48 = c :: t := by simp [Lib.trimLeftB, hc]
      rw [e1, e2, if_neg (by simp)]
theorem trimRight_behind (f : List UInt8) : ∀ b, Lib.trimRightB (f ++ noughts b) 48 = Lib.trimRightB f 48
  | 0 => by simp [noughts]
  | b + 1 => by
    rw [show f ++ noughts (b + 1) = (f ++ noughts b) ++ [48] by simp [noughts, List.replicate_succ']]
    rw [← trimRight_behind f b]
    simp [Lib.trimRightB]
theorem mk_noughts_behind (g : Bool) (f : List UInt8) (e : Int) (b : Nat) : mk g (f ++ noughts b) (e - b) = mk g f e := by
  have hfi : figs (f ++ noughts b) = figs f := by simp [figs, noughts, show fig 48 = true by decide]
  have hl := trimLeft_behind f b
  by_cases h : Lib.trimLeftB f 48 = []
  · rw [if_pos h] at hl
    unfold mk
    rw [hfi, hl, h]
    rfl
  · rw [if_neg h] at hl
    have hr : Lib.trimRightB (Lib.trimLeftB (f ++ noughts b) 48) 48 = Lib.trimRightB (Lib.trimLeftB f 48) 48 := by rw [hl, trimRight_behind]
    have hN : mkN g (f ++ noughts b) (e - b) = mkN g f e := by
      obtain ⟨t1, t2⟩ := trim_len f
      unfold mkN
      rw [hr, hl]
      congr 1
      rw [List.length_append]
      simp only [noughts, List.length_replicate]
      unfold wrap64
      omega
    unfold mk
    rw [hfi, hN, hl]
    have e1 : (Lib.trimLeftB f 48 ++ noughts b).isEmpty = (Lib.trimLeftB f 48).isEmpty := by
      cases hc : Lib.trimLeftB f 48 with
      | nil => exact absurd hc h
      | cons a t => rfl
    rw [e1]
theorem mk_many (f : List UInt8) (e : Int) (a b : Nat) : mk false (noughts a ++ f ++ noughts b) (e - b) = mk false f e := by
  rw [List.append_assoc, mk_noughts_ahead, mk_noughts_behind false f e b]
theorem run_whole {l : List UInt8} (h : figs l = true) : run l 0 = l := by
  unfold run
  rw [List.drop_zero, takeWhile_stop l l.length (Nat.le_refl _) (by rw [List.take_length]; exact h) (fun hh => absurd hh (by omega)), List.take_length]
theorem stands_fig {l : List UInt8} {i : Nat} {c : UInt8} (h : figs l = true) (hc : fig c = false) : stands l i c = false := by
  cases hs : stands l i c
  · rfl
  · have hlt := stands_lt hs
    unfold stands at hs
    rw [List.getElem?_eq_getElem hlt] at hs
    have e : l[i] = c := by simpa using hs
    have := figs_at h hlt
    rw [e, hc] at this; cases this
theorem stands_end (l : List UInt8) (c : UInt8) : stands l l.length c = false := by
  cases hs : stands l l.length c
  · rfl
  · exact absurd (stands_lt hs) (by omega)
/-- Figures alone, read, are that number; or they are none, as a nought leads them. -/
theorem read_plain {l : List UInt8} (h : figs l = true) (hne : l ≠ []) : (readF l = ((mk false l 0).1, 0, (mk false l 0).2)) ∨ (readF l).2.2 = 1 := by
  have h45 : stands l 0 45 = false := stands_fig h (by decide)
  have hi0 : i0F l = 0 := by simp [i0F, h45]
  have h46 : ∀ i, stands l i 46 = false := fun i => stands_fig h (by decide)
  have h101 : ∀ i, stands l i 101 = false := fun i => stands_fig h (by decide)
  have h69 : ∀ i, stands l i 69 = false := fun i => stands_fig h (by decide)
  obtain ⟨q1, q2, q3⟩ := at2_no (h46 (i1F l))
  have hx : exF l = false := by simp [exF, h101, h69]
  obtain ⟨r1, r2, r3, r4⟩ := at3_no hx
  cases h48 : stands l (i0F l) 48
  · obtain ⟨p1, p2, p3⟩ := at1_no h48
    rw [hi0, run_whole h] at p1 p2 p3
    have b1 : bad1 l = false := by rw [p1]; cases l with | nil => exact absurd rfl hne | cons a t => rfl
    have e := scan_all b1 q1 r1 (by rw [r4, q3, p3]; omega)
    left
    rw [readF_ok e (by rw [r3]; simp [Lib.trimLeftB])]
    have : mkW ⟨stands l 0 45, wholeF l, partF l, downF l, powF l⟩ = mk false l 0 := by
      show mk _ _ (powOf _ - _) = _
      rw [h45, p2, q2, List.append_nil]
      unfold powOf
      rw [r2, r3]
      rfl
    rw [this]
  · obtain ⟨p1, p2, p3⟩ := at1_yes h48
    rw [hi0] at p3 h48
    by_cases hl : l.length = 1
    · have e := scan_all p1 q1 r1 (by rw [r4, q3, p3, hl])
      left
      rw [readF_ok e (by rw [r3]; simp [Lib.trimLeftB])]
      have hl48 : l = [48] := by
        match l, hl, h48 with
        | [a], _, h48 =>
          unfold stands at h48
          simp at h48
          rw [h48]
      have : mkW ⟨stands l 0 45, wholeF l, partF l, downF l, powF l⟩ = mk false l 0 := by
        show mk _ _ (powOf _ - _) = _
        rw [h45, p2, q2, List.append_nil]
        unfold powOf
        rw [r2, r3, hl48]
        decide
      rw [this]
    · right
      have hlt := stands_lt h48
      rw [read_short p1 q1 (by rw [r4, q3, p3]; omega)]

end Np
end Go.Proofs.Ytbffeffplabaeaa

/-
  Plain words on numbers: a number's text. No program stands here.
-/
namespace Go.Proofs.Ytbffeffplabaeaa
namespace Np
open Go.RowKit

/-- Figures with so many behind the point. -/
def padF (f : List UInt8) (b : Nat) : List UInt8 := Lib.repeatL [48] (b + 1 - f.length) ++ f
def pointF (f : List UInt8) (b : Nat) : List UInt8 := (padF f b).take ((padF f b).length - b) ++ 46 :: (padF f b).drop ((padF f b).length - b)
def printS (f : List UInt8) (e : Int) : List UInt8 :=
  if f.isEmpty = true then [48] else if 0 ≤ e ∧ e ≤ 20 - f.length then f ++ Lib.repeatL [48] e.toNat
  else if -20 ≤ e ∧ e ≤ -1 then pointF f (-e).toNat else f ++ 101 :: Lib.itoa e
def printN (f : List UInt8) (g : Bool) (e : Int) : List UInt8 := if g = true then 45 :: printS f e else printS f e
theorem padF_long {f : List UInt8} {b : Nat} (h : b < f.length) : padF f b = f := by
  unfold padF; rw [show b + 1 - f.length = 0 by omega]; rfl
theorem padF_len (f : List UInt8) (b : Nat) : b < (padF f b).length := by
  unfold padF; rw [List.length_append, Lib.repeatL_length]; simp; omega
theorem padF_le (f : List UInt8) (b : Nat) : (padF f b).length ≤ f.length + b + 1 := by
  unfold padF; rw [List.length_append, Lib.repeatL_length]; simp; omega

theorem printS_len (f : List UInt8) (e : Int) (hf : f.length ≤ 1000000) (he : -1000000 ≤ e) (he2 : e ≤ 1000000) : (printS f e).length ≤ 1000100 := by
  unfold printS
  split
  · simp
  split
  · rw [List.length_append, Lib.repeatL_length]; simp; omega
  split
  · have h := padF_le f (-e).toNat
    have h2 := padF_len f (-e).toNat
    unfold pointF
    simp only [List.length_append, List.length_take, List.length_cons, List.length_drop]
    omega
  · have := Lib.itoa_length_le e (by omega) (by omega)
    simp only [List.length_append, List.length_cons]
    omega

end Np
end Go.Proofs.Ytbffeffplabaeaa

/-
  Plain words: a number's text is read as it was printed. No program stands here.
-/
namespace Go.Proofs.Ytbffeffplabaeaa
namespace Np
open Go.RowKit

theorem stands_drop {l R : List UInt8} {i : Nat} (h : l.drop i = R) (c : UInt8) : stands l i c = (R.head? == some c) := by
  unfold stands; rw [← h, List.head?_drop]
theorem run_drop {l R : List UInt8} {i : Nat} (h : l.drop i = R) : run l i = R.takeWhile fig := by unfold run; rw [h]
theorem drop_more {l A B : List UInt8} {i : Nat} (h : l.drop i = A ++ B) : l.drop (i + A.length) = B := by
  rw [← List.drop_drop, h, List.drop_left]
theorem takeWhile_figs {A B : List UInt8} (h : figs A = true) (hB : ∀ c, B.head? = some c → fig c = false) : (A ++ B).takeWhile fig = A := by
  have e : B.takeWhile fig = [] := by
    cases B with
    | nil => rfl
    | cons c t => simp [hB c rfl]
  rw [List.takeWhile_append_of_pos (by unfold figs at h; rw [List.all_eq_true] at h; exact h), e, List.append_nil]
/-- How a number is written. -/
structure Txt where
  g : Bool
  W : List UInt8
  dot : Bool
  P : List UInt8
  ex : Bool
  neg : Bool
  D : List UInt8
def Txt.exp (t : Txt) : List UInt8 := if t.ex = true then 101 :: ((if t.neg = true then [45] else []) ++ t.D) else []
def Txt.point (t : Txt) : List UInt8 := if t.dot = true then 46 :: t.P else []
def Txt.sign (t : Txt) : List UInt8 := if t.g = true then [45] else []
def Txt.text (t : Txt) : List UInt8 := t.sign ++ (t.W ++ (t.point ++ t.exp))
structure Txt.Fine (t : Txt) : Prop where
  w : t.W = [48] ∨ (∃ c r, t.W = c :: r ∧ c ≠ 48)
  wf : figs t.W = true
  p : t.dot = true → t.P ≠ []
  p0 : t.dot = false → t.P = []
  pf : figs t.P = true
  d : t.ex = true → t.D ≠ []
  df : figs t.D = true
  d0 : t.ex = false → t.D = [] ∧ t.neg = false
theorem fig_head {l : List UInt8} {c : UInt8} (h : figs l = true) (hc : l.head? = some c) : fig c = true := by
  cases l with
  | nil => cases hc
  | cons a r => simp at hc; subst hc; simp [figs] at h; exact h.1
theorem scan_text {t : Txt} (h : t.Fine) : ∃ wh, (wh = t.W ∨ t.W = 48 :: wh) ∧ scanF t.text = (⟨t.g, wh, t.P, t.neg, t.D⟩, t.text.length, true) := by
  have hWne : t.W ≠ [] := by rcases h.w with e | ⟨c, r, e, _⟩ <;> rw [e] <;> simp
  have hexp : ∀ c, t.exp.head? = some c → c = 101 := by
    intro c hc; unfold Txt.exp at hc; split at hc
    · simpa using hc.symm
    · cases hc
  have hrest : ∀ c, (t.point ++ t.exp).head? = some c → c = 46 ∨ c = 101 := by
    intro c hc
    unfold Txt.point at hc
    split at hc
    · left; simpa using hc.symm
    · right; exact hexp c (by simpa using hc)
  obtain ⟨a, r, hW⟩ : ∃ a r, t.W = a :: r := by cases hw : t.W with | nil => exact absurd hw hWne | cons a r => exact ⟨a, r, rfl⟩
  have ha : fig a = true := fig_head h.wf (by rw [hW]; rfl)
  have d0 : t.text.drop 0 = t.sign ++ (t.W ++ (t.point ++ t.exp)) := rfl
  have s45 : stands t.text 0 45 = t.g := by
    rw [stands_drop d0]
    unfold Txt.sign
    cases t.g
    · rw [hW]; simp; intro e; subst e; cases ha
    · simp
  have i0 : i0F t.text = t.sign.length := by
    unfold i0F; rw [s45]; unfold Txt.sign; cases t.g <;> simp
  have d1 : t.text.drop (i0F t.text) = t.W ++ (t.point ++ t.exp) := by
    rw [i0]; have := drop_more (i := 0) d0; rwa [Nat.zero_add] at this
  have r1 : run t.text (i0F t.text) = t.W := by
    rw [run_drop d1]
    refine takeWhile_figs h.wf (fun c hc => ?_)
    rcases hrest c hc with e | e <;> rw [e] <;> decide
  have b1 : bad1 t.text = false := by rw [bad1_run, r1, hW]; rfl
  have hw1 : (wholeF t.text = t.W ∨ t.W = 48 :: wholeF t.text) ∧ i1F t.text = i0F t.text + t.W.length := by
    cases h48 : stands t.text (i0F t.text) 48
    · obtain ⟨_, e2, e3⟩ := at1_no h48
      rw [r1] at e2 e3
      exact ⟨.inl e2, e3⟩
    · obtain ⟨_, e2, e3⟩ := at1_yes h48
      rw [stands_drop d1, hW] at h48
      have ha48 : a = 48 := by simpa using h48
      rcases h.w with e | ⟨c, r', e, hc⟩
      · rw [e]
        exact ⟨.inr (by rw [e2]), e3⟩
      · rw [hW] at e; cases e; exact absurd ha48 hc
  have d2 : t.text.drop (i1F t.text) = t.point ++ t.exp := by rw [hw1.2]; exact drop_more d1
  have s46 : stands t.text (i1F t.text) 46 = t.dot := by
    rw [stands_drop d2]
    unfold Txt.point
    cases hd : t.dot
    · simp
      intro e
      have := hexp _ e
      cases this
    · simp
  have hp : partF t.text = t.P ∧ i3F t.text = i1F t.text + t.point.length ∧ bad2 t.text = false := by
    cases hd : t.dot
    · obtain ⟨e1, e2, e3⟩ := at2_no (s46.trans hd)
      exact ⟨by rw [e2, h.p0 hd], by rw [e3]; unfold Txt.point; rw [hd]; simp, e1⟩
    · obtain ⟨e1, e2, e3⟩ := at2_yes (s46.trans hd)
      have d2' : t.text.drop (i1F t.text + 1) = t.P ++ t.exp := by
        have : t.text.drop (i1F t.text) = [46] ++ (t.P ++ t.exp) := by rw [d2]; unfold Txt.point; rw [hd]; rfl
        exact drop_more this
      have r2 : run t.text (i1F t.text + 1) = t.P := by
        rw [run_drop d2']
        exact takeWhile_figs h.pf (fun c hc => by rw [hexp c hc]; decide)
      rw [r2] at e1 e2 e3
      refine ⟨e2, by rw [e3]; unfold Txt.point; rw [hd]; simp; omega, ?_⟩
      rw [e1]
      cases hP : t.P with
      | nil => exact absurd hP (h.p hd)
      | cons a r => rfl
  obtain ⟨p1, p2, p3⟩ := hp
  have d3 : t.text.drop (i3F t.text) = t.exp := by rw [p2]; exact drop_more d2
  have hlen : t.text.length = i3F t.text + t.exp.length := by
    have := congrArg List.length d3
    rw [List.length_drop] at this
    have hle := i3F_le t.text
    omega
  have s69 : stands t.text (i3F t.text) 69 = false := by
    rw [stands_drop d3]
    simp
    intro e
    have := hexp _ e
    cases this
  have s101 : stands t.text (i3F t.text) 101 = t.ex := by
    rw [stands_drop d3]
    unfold Txt.exp
    cases t.ex <;> simp
  have hx : exF t.text = t.ex := by unfold exF; rw [s69, s101, Bool.or_false]
  refine ⟨wholeF t.text, hw1.1, ?_⟩
  cases he : t.ex
  · obtain ⟨q1, q2, q3, q4⟩ := at3_no (hx.trans he)
    obtain ⟨hD, hN⟩ := h.d0 he
    rw [scan_all b1 p3 q1 (by rw [q4, hlen]; unfold Txt.exp; rw [he]; simp), s45, p1, q2, q3, hD, hN, q4, hlen]
    unfold Txt.exp
    rw [he]; simp
  · have hxt := hx.trans he
    have d4 : t.text.drop (i3F t.text + 1) = (if t.neg = true then [45] else []) ++ t.D := by
      have : t.text.drop (i3F t.text) = [101] ++ ((if t.neg = true then [45] else []) ++ t.D) := by rw [d3]; unfold Txt.exp; rw [he]; rfl
      exact drop_more this
    obtain ⟨b, rb, hD⟩ : ∃ b rb, t.D = b :: rb := by cases hd : t.D with | nil => exact absurd hd (h.d he) | cons b rb => exact ⟨b, rb, rfl⟩
    have hb : fig b = true := fig_head h.df (by rw [hD]; rfl)
    have s43 : stands t.text (i3F t.text + 1) 43 = false := by
      rw [stands_drop d4]
      cases t.neg
      · rw [hD]; simp; intro e; subst e; cases hb
      · simp
    have s45' : stands t.text (i3F t.text + 1) 45 = t.neg := by
      rw [stands_drop d4]
      cases t.neg
      · rw [hD]; simp; intro e; subst e; cases hb
      · simp
    obtain ⟨e1, e2⟩ := at5_rest hxt s43
    rw [s45'] at e1 e2
    have d5 : t.text.drop (i5F t.text) = t.D ++ [] := by
      rw [e2, List.append_nil]
      have := drop_more d4
      cases hn : t.neg
      · rw [hn] at this; simpa using this
      · rw [hn] at this; simpa using this
    have r5 : run t.text (i5F t.text) = t.D := by
      rw [run_drop d5]; exact takeWhile_figs h.df (fun c hc => by cases hc)
    obtain ⟨q1, q2, q3⟩ := at3_yes hxt
    rw [r5] at q1 q2 q3
    have q1' : bad3 t.text = false := by rw [q1, hD]; rfl
    have hl6 : i6F t.text = t.text.length := by
      have := congrArg List.length d5
      rw [List.length_drop, List.append_nil] at this
      have hle := i5F_le t.text
      rw [q3]; omega
    rw [scan_all b1 p3 q1' hl6, s45, p1, e1, q2, hl6]

end Np
end Go.Proofs.Ytbffeffplabaeaa

/-
  Plain words: what is printed is read as it was; what is read is right. No program stands here.
-/
namespace Go.Proofs.Ytbffeffplabaeaa
namespace Np
open Go.RowKit

theorem read_text {t : Txt} (h : t.Fine) (h6 : ¬ 6 < (Lib.trimLeftB t.D 48).length) :
    readF t.text = ((mk t.g (t.W ++ t.P) ((if t.neg = true then -(worth (Lib.trimLeftB t.D 48) : Int) else (worth (Lib.trimLeftB t.D 48) : Int)) - t.P.length)).1, 0,
      (mk t.g (t.W ++ t.P) ((if t.neg = true then -(worth (Lib.trimLeftB t.D 48) : Int) else (worth (Lib.trimLeftB t.D 48) : Int)) - t.P.length)).2) := by
  obtain ⟨wh, hw, e⟩ := scan_text h
  rw [readF_ok e h6]
  have : mkW ⟨t.g, wh, t.P, t.neg, t.D⟩ = mk t.g (t.W ++ t.P) ((if t.neg = true then -(worth (Lib.trimLeftB t.D 48) : Int) else (worth (Lib.trimLeftB t.D 48) : Int)) - t.P.length) := by
    show mk t.g (wh ++ t.P) (powOf _ - _) = _
    unfold powOf
    rcases hw with e | e
    · rw [e]
    · rw [e, List.cons_append, mk_nought_ahead]
  rw [this]
theorem repeat_noughts : ∀ n, Lib.repeatL [48] n = noughts n
  | 0 => rfl
  | n + 1 => by
    show [48] ++ Lib.repeatL [48] n = _
    rw [repeat_noughts n]; simp [noughts, List.replicate_succ]
theorem mk_right {n : Nd} (hr : right n = true) (hs : n.s ≠ []) : mk n.neg n.s n.e = (n, 0) := by
  obtain ⟨h1, h2, h3, ⟨h4, _⟩ | ⟨_, hf, he1, he2⟩⟩ := (right_iff n).1 hr
  · exact absurd h4 hs
  obtain ⟨k, m, nm, s, g, e⟩ := n
  simp only at h1 h2 h3 hs hf he1 he2 ⊢
  subst h1 h2 h3
  obtain ⟨c, t, hct⟩ : ∃ c t, s = c :: t := by cases s with | nil => exact absurd rfl hs | cons c t => exact ⟨c, t, rfl⟩
  have hf' := hf
  unfold rfigs at hf
  simp only [Bool.and_eq_true, decide_eq_true_eq, bne_iff_ne] at hf
  obtain ⟨⟨⟨hl, hfi⟩, hh⟩, hla⟩ := hf
  have hc : c ≠ 48 := by rw [hct] at hh; exact hh
  have tl : Lib.trimLeftB s 48 = s := by rw [hct]; simp [Lib.trimLeftB, hc]
  have tr : Lib.trimRightB s 48 = s := by
    rcases List.eq_nil_or_concat s with h | ⟨q, b, h⟩
    · exact absurd h hs
    · rw [h, List.concat_eq_append] at hla ⊢
      exact trimRight_snoc q b (by simpa using hla)
  have hN : mkN g s e = ⟨3, 0, [], s, g, e⟩ := by
    unfold mkN
    rw [tl, tr]
    congr 1
    unfold wrap64
    omega
  have h := mk_ok g s e hfi (by rw [tl, hct]; rfl) (by rw [hN]; exact hr)
  rw [h, hN]
theorem worth_from (l : List UInt8) : worth (48 :: l) = worth l := by simp [worth]
theorem worth_trim : ∀ l : List UInt8, worth (Lib.trimLeftB l 48) = worth l
  | [] => rfl
  | c :: t => by
    by_cases hc : c = 48
    · subst hc
      rw [show Lib.trimLeftB (48 :: t) 48 = Lib.trimLeftB t 48 by simp [Lib.trimLeftB], worth_trim t, worth_from]
    · rw [show Lib.trimLeftB (c :: t) 48 = c :: t by simp [Lib.trimLeftB, hc]]
theorem dig_nat (d : Nat) (h : d < 10) : (UInt8.ofNat (48 + d)).toNat = 48 + d := by
  rw [UInt8.toNat_ofNat']; omega
theorem dec_worth (u : Nat) : worth (Lib.decDigits u) = u ∧ figs (Lib.decDigits u) = true ∧ Lib.decDigits u ≠ [] := by
  induction u using Nat.strongRecOn with
  | _ u ih =>
    rw [Lib.decDigits]
    split
    · rename_i h
      refine ⟨?_, ?_, by simp⟩
      · simp [worth]; omega
      · simp [figs, fig]; omega
    · rename_i h
      obtain ⟨i1, i2, i3⟩ := ih (u / 10) (by omega)
      have := dig_nat (u % 10) (by omega)
      refine ⟨?_, ?_, by simp⟩
      · rw [worth_snoc, i1, this]; omega
      · rw [figs_snoc, i2]; simp [fig]; omega
theorem dec_len (u : Nat) (h : u ≤ 1000) : (Lib.decDigits u).length ≤ 4 := by
  rw [Lib.decDigits]
  split
  · simp
  · rw [Lib.decDigits]
    split
    · simp
    · rw [Lib.decDigits]
      split
      · simp
      · rw [Lib.decDigits]
        split
        · simp
        · omega
theorem figs_append {a b : List UInt8} : figs (a ++ b) = (figs a && figs b) := by simp [figs]
theorem figs_noughts (n : Nat) : figs (noughts n) = true := by
  simp [figs, noughts, show fig 48 = true by decide]
/-- What is printed is read as it was. -/
theorem print_back {n : Nd} (hr : right n = true) : readF (printN n.s n.neg n.e) = (n, 0, 0) := by
  by_cases hs : n.s = []
  · obtain ⟨h1, h2, h3, ⟨_, h5, h6⟩ | ⟨h4, _⟩⟩ := (right_iff n).1 hr
    · obtain ⟨k, m, nm, s, g, e⟩ := n
      simp only at h1 h2 h3 hs h5 h6 ⊢
      subst h1 h2 h3 hs h5 h6
      decide +kernel
    · exact absurd hs h4
  have hmk := mk_right hr hs
  obtain ⟨_, _, _, ⟨h4, _⟩ | ⟨_, hf, he1, he2⟩⟩ := (right_iff n).1 hr
  · exact absurd h4 hs
  obtain ⟨k, m, nm, f, g, e⟩ := n
  simp only at hs hmk hf he1 he2 ⊢
  obtain ⟨c, t, hct⟩ : ∃ c t, f = c :: t := by cases f with | nil => exact absurd rfl hs | cons c t => exact ⟨c, t, rfl⟩
  unfold rfigs at hf
  simp only [Bool.and_eq_true, decide_eq_true_eq, bne_iff_ne] at hf
  obtain ⟨⟨⟨hl, hfi⟩, hh⟩, hla⟩ := hf
  have hc : c ≠ 48 := by rw [hct] at hh; exact hh
  have hpos : 0 < f.length := by rw [hct]; simp
  have key : ∀ x : Txt, x.Fine → printN f g e = x.text → ¬ 6 < (Lib.trimLeftB x.D 48).length → mk x.g (x.W ++ x.P) ((if x.neg = true then -(worth (Lib.trimLeftB x.D 48) : Int) else (worth (Lib.trimLeftB x.D 48) : Int)) - x.P.length) = (⟨k, m, nm, f, g, e⟩, 0) → readF (printN f g e) = (⟨k, m, nm, f, g, e⟩, 0, 0) := by
    intro x hx h1 h2 h3
    rw [h1, read_text hx h2, h3]
  have hpr : printN f g e = (if g = true then [45] else []) ++ printS f e := by unfold printN; cases g <;> simp
  have hps : printS f e = if 0 ≤ e ∧ e ≤ 20 - f.length then f ++ Lib.repeatL [48] e.toNat else if -20 ≤ e ∧ e ≤ -1 then pointF f (-e).toNat else f ++ 101 :: Lib.itoa e := by
    unfold printS; rw [if_neg (by rw [hct]; simp)]
  by_cases c1 : 0 ≤ e ∧ e ≤ 20 - f.length
  · rw [if_pos c1, repeat_noughts] at hps
    refine key ⟨g, f ++ noughts e.toNat, false, [], false, false, []⟩ ⟨.inr ⟨c, t ++ noughts e.toNat, by rw [hct]; rfl, hc⟩, by rw [figs_append, hfi, figs_noughts]; rfl, (fun h => by cases h), fun _ => rfl, rfl, (fun h => by cases h), rfl, fun _ => ⟨rfl, rfl⟩⟩ ?_ (by simp [Lib.trimLeftB]) ?_
    · rw [hpr, hps]; simp [Txt.text, Txt.sign, Txt.point, Txt.exp]
    · have := mk_noughts_behind g f e e.toNat
      rw [show e - (e.toNat : Int) = 0 by omega] at this
      show mk g (f ++ noughts e.toNat ++ []) _ = _
      rw [List.append_nil]
      exact this.trans hmk
  rw [if_neg c1] at hps
  by_cases c2 : -20 ≤ e ∧ e ≤ -1
  · rw [if_pos c2] at hps
    obtain ⟨b, hb⟩ : ∃ b : Nat, e = -(b : Int) := ⟨(-e).toNat, by omega⟩
    have hbn : (-e).toNat = b := by omega
    rw [hbn] at hps
    have hplen := padF_len f b
    have hpad : padF f b = noughts (b + 1 - f.length) ++ f := by unfold padF; rw [repeat_noughts]
    have hpf : figs (padF f b) = true := by rw [hpad, figs_append, figs_noughts, hfi]; rfl
    have hW : (padF f b).take ((padF f b).length - b) = [48] ∨ ∃ a r, (padF f b).take ((padF f b).length - b) = a :: r ∧ a ≠ 48 := by
      by_cases hk : f.length ≤ b
      · left
        have hlp : (padF f b).length = b + 1 := by rw [hpad, List.length_append]; simp [noughts]; omega
        rw [hlp, show b + 1 - b = 1 by omega, hpad]
        obtain ⟨j, hj⟩ : ∃ j, b + 1 - f.length = j + 1 := ⟨b - f.length, by omega⟩
        rw [hj]; simp [noughts, List.replicate_succ]
      · right
        have : padF f b = f := padF_long (by omega)
        rw [this, hct]
        obtain ⟨j, hj⟩ : ∃ j, (c :: t).length - b = j + 1 := ⟨(c :: t).length - b - 1, by rw [← hct]; omega⟩
        rw [hj]
        exact ⟨c, t.take j, by simp, hc⟩
    have hdl : ((padF f b).drop ((padF f b).length - b)).length = b := by rw [List.length_drop]; omega
    refine key ⟨g, (padF f b).take ((padF f b).length - b), true, (padF f b).drop ((padF f b).length - b), false, false, []⟩ ⟨hW, figs_take hpf _, fun _ h => ?_, (fun h => by cases h), ?_, (fun h => by cases h), rfl, fun _ => ⟨rfl, rfl⟩⟩ ?_ (by simp [Lib.trimLeftB]) ?_
    · simp only at h
      rw [h] at hdl
      simp at hdl
      omega
    · have := hpf
      rw [← List.take_append_drop ((padF f b).length - b) (padF f b), figs_append, Bool.and_eq_true] at this
      exact this.2
    · rw [hpr, hps]
      unfold pointF
      simp [Txt.text, Txt.sign, Txt.point, Txt.exp]
    · show mk g ((padF f b).take _ ++ (padF f b).drop _) (_ - ((padF f b).drop ((padF f b).length - b)).length) = _
      rw [List.take_append_drop, hdl, hpad, mk_noughts_ahead]
      rw [hb] at hmk
      rw [hb]
      simp only [Lib.trimLeftB, List.dropWhile_nil]
      rw [show (if (false : Bool) = true then -(worth ([] : List UInt8) : Int) else (worth ([] : List UInt8) : Int)) - (b : Int) = -(b : Int) by simp [worth]]
      exact hmk
  rw [if_neg c2] at hps
  by_cases c3 : e < 0
  · obtain ⟨w1, w2, w3⟩ := dec_worth e.natAbs
    have hit : Lib.itoa e = 45 :: Lib.decDigits e.natAbs := by unfold Lib.itoa; rw [if_pos c3]
    refine key ⟨g, f, false, [], true, true, Lib.decDigits e.natAbs⟩ ⟨.inr ⟨c, t, hct, hc⟩, hfi, (fun h => by cases h), fun _ => rfl, rfl, fun _ => w3, w2, (fun h => by cases h)⟩ ?_ ?_ ?_
    · rw [hpr, hps, hit]; simp [Txt.text, Txt.sign, Txt.point, Txt.exp]
    · have h1 := (List.dropWhile_suffix (l := Lib.decDigits e.natAbs) (· == (48 : UInt8))).length_le
      have h2 := dec_len e.natAbs (by omega)
      show ¬ 6 < (Lib.trimLeftB (Lib.decDigits e.natAbs) 48).length
      unfold Lib.trimLeftB
      omega
    · show mk g (f ++ []) _ = _
      rw [List.append_nil, worth_trim, w1]
      simp only [if_true, List.length_nil]
      rw [show -(e.natAbs : Int) - ((0 : Nat) : Int) = e by omega]
      exact hmk
  · obtain ⟨w1, w2, w3⟩ := dec_worth e.toNat
    have hit : Lib.itoa e = Lib.decDigits e.toNat := by unfold Lib.itoa; rw [if_neg c3]
    refine key ⟨g, f, false, [], true, false, Lib.decDigits e.toNat⟩ ⟨.inr ⟨c, t, hct, hc⟩, hfi, (fun h => by cases h), fun _ => rfl, rfl, fun _ => w3, w2, (fun h => by cases h)⟩ ?_ ?_ ?_
    · rw [hpr, hps, hit]; simp [Txt.text, Txt.sign, Txt.point, Txt.exp]
    · have h1 := (List.dropWhile_suffix (l := Lib.decDigits e.toNat) (· == (48 : UInt8))).length_le
      have h2 := dec_len e.toNat (by omega)
      show ¬ 6 < (Lib.trimLeftB (Lib.decDigits e.toNat) 48).length
      unfold Lib.trimLeftB
      omega
    · show mk g (f ++ []) _ = _
      rw [List.append_nil, worth_trim, w1]
      simp only [Bool.false_eq_true, if_false, List.length_nil]
      rw [show ((e.toNat : Nat) : Int) - ((0 : Nat) : Int) = e by omega]
      exact hmk
/-- What is read is right, or there is none. -/
theorem mk_cases (g : Bool) (f : List UInt8) (e : Int) (hf : figs f = true) : ((mk g f e).2 = 0 ∧ right (mk g f e).1 = true) ∨ mk g f e = (nd0, 2) := by
  cases h : (Lib.trimLeftB f 48).isEmpty
  · cases h2 : right (mkN g f e)
    · right; exact mk_large g f e hf h h2
    · left; rw [mk_ok g f e hf h h2]; exact ⟨rfl, h2⟩
  · left; rw [mk_nought g f e hf h]; exact ⟨rfl, by decide⟩
theorem read_cases (l : List UInt8) : ((readF l).2.2 = 0 ∧ right (readF l).1 = true) ∨ ((readF l).1 = nd0 ∧ ((readF l).2.2 = 1 ∨ (readF l).2.2 = 2)) := by
  unfold readF
  split
  · exact .inr ⟨rfl, .inl rfl⟩
  split
  · exact .inr ⟨rfl, .inr rfl⟩
  obtain ⟨h1, h2, _⟩ := scanF_figs l
  rcases mk_cases (scanF l).1.neg ((scanF l).1.whole ++ (scanF l).1.part) (powOf (scanF l).1 - (scanF l).1.part.length) (by rw [figs_append, h1, h2]; rfl) with h | h
  · exact .inl h
  · right
    show (mkW (scanF l).1).1 = nd0 ∧ ((mkW (scanF l).1).2 = 1 ∨ (mkW (scanF l).1).2 = 2)
    unfold mkW
    rw [h]
    exact ⟨rfl, .inr rfl⟩

end Np
end Go.Proofs.Ytbffeffplabaeaa

/-
  Plain words: whole numbers' figures. No program stands here.
-/
namespace Go.Proofs.Ytbffeffplabaeaa
namespace Np
open Go.RowKit

/-- The worth of some figures, with so many places. -/
def wide : List UInt8 → Nat → Nat
  | [], _ => 0
  | c :: t, n => (c.toNat - 48) * 10 ^ (n - 1) + wide t (n - 1)
theorem wide_lt : ∀ (l : List UInt8) (n : Nat), figs l = true → l.length ≤ n → wide l n < 10 ^ n
  | [], n, _, _ => by simp [wide]; exact Nat.pow_pos (by decide)
  | c :: t, n, h, hl => by
    obtain ⟨m, rfl⟩ : ∃ m, n = m + 1 := ⟨n - 1, by simp at hl; omega⟩
    have hc := (fig_iff c).1 (fig_head h rfl)
    have ht : figs t = true := by simp [figs] at h ⊢; exact h.2
    have := wide_lt t m ht (by simpa using hl)
    unfold wide
    rw [Nat.add_sub_cancel, Nat.pow_succ]
    have hle : (c.toNat - 48) * 10 ^ m ≤ 9 * 10 ^ m := Nat.mul_le_mul_right _ (by omega)
    omega
theorem wide_pos : ∀ (l : List UInt8) (n : Nat), l ≠ [] → l.getLastD 0 ≠ 48 → figs l = true → l.length ≤ n → 0 < wide l n
  | [], _, h, _, _, _ => absurd rfl h
  | c :: t, n, _, hla, h, hl => by
    obtain ⟨m, rfl⟩ : ∃ m, n = m + 1 := ⟨n - 1, by simp at hl; omega⟩
    have hc := (fig_iff c).1 (fig_head h rfl)
    have ht : figs t = true := by simp [figs] at h ⊢; exact h.2
    unfold wide
    rw [Nat.add_sub_cancel]
    cases t with
    | nil =>
      have h48 : c ≠ 48 := by simpa using hla
      have : 48 < c.toNat := by
        rcases Nat.lt_or_ge 48 c.toNat with h | h
        · exact h
        · exact absurd (UInt8.toNat_inj.1 (by show c.toNat = (48 : UInt8).toNat; simp; omega)) h48
      have := Nat.mul_pos (show 0 < c.toNat - 48 by omega) (Nat.pow_pos (n := m) (show 0 < 10 by decide))
      omega
    | cons a r =>
      have := wide_pos (a :: r) m (by simp) (by simpa using hla) ht (by simpa using hl)
      omega
/-- Of figures without noughts behind, which are greater, byte by byte, is as they are worth with so many places. -/
theorem wide_lex : ∀ (a b : List UInt8) (n : Nat), figs a = true → figs b = true → (a = [] ∨ a.getLastD 0 ≠ 48) → (b = [] ∨ b.getLastD 0 ≠ 48) → a.length ≤ n → b.length ≤ n → (a < b ↔ wide a n < wide b n)
  | [], [], n, _, _, _, _, _, _ => by simp [wide]
  | [], b :: u, n, _, hb, _, hlb, _, hl => by
    have := wide_pos (b :: u) n (by simp) (by rcases hlb with h | h; (cases h); exact h) hb hl
    simp only [wide] at this ⊢
    constructor
    · intro _; exact this
    · intro _; exact List.nil_lt_cons _ _
  | a :: t, [], n, ha, _, hla, _, hl, _ => by
    simp [wide]
  | a :: t, b :: u, n, ha, hb, hla, hlb, hl1, hl2 => by
    obtain ⟨m, rfl⟩ : ∃ m, n = m + 1 := ⟨n - 1, by simp at hl1; omega⟩
    have hca := (fig_iff a).1 (fig_head ha rfl)
    have hcb := (fig_iff b).1 (fig_head hb rfl)
    have hta : figs t = true := by simp [figs] at ha ⊢; exact ha.2
    have htb : figs u = true := by simp [figs] at hb ⊢; exact hb.2
    have l1 := wide_lt t m hta (by simpa using hl1)
    have l2 := wide_lt u m htb (by simpa using hl2)
    have hla' : t = [] ∨ t.getLastD 0 ≠ 48 := by
      cases t with
      | nil => exact .inl rfl
      | cons x y => right; rcases hla with h | h; (cases h); simpa using h
    have hlb' : u = [] ∨ u.getLastD 0 ≠ 48 := by
      cases u with
      | nil => exact .inl rfl
      | cons x y => right; rcases hlb with h | h; (cases h); simpa using h
    have ih := wide_lex t u m hta htb hla' hlb' (by simpa using hl1) (by simpa using hl2)
    rw [List.cons_lt_cons_iff]
    unfold wide
    rw [Nat.add_sub_cancel]
    have e : a = b ↔ a.toNat = b.toNat := UInt8.toNat_inj.symm
    have e2 : a < b ↔ a.toNat < b.toNat := UInt8.lt_iff_toNat_lt
    rw [e, e2, ih]
    rcases Nat.lt_trichotomy a.toNat b.toNat with h | h | h
    · have : (a.toNat - 48) * 10 ^ m + 10 ^ m ≤ (b.toNat - 48) * 10 ^ m := by
        rw [← Nat.succ_mul]; exact Nat.mul_le_mul_right _ (by omega)
      constructor
      · intro _; omega
      · intro _; exact .inl h
    · rw [h]; omega
    · have : (b.toNat - 48) * 10 ^ m + 10 ^ m ≤ (a.toNat - 48) * 10 ^ m := by
        rw [← Nat.succ_mul]; exact Nat.mul_le_mul_right _ (by omega)
      constructor
      · rintro (h' | ⟨h', _⟩) <;> omega
      · intro h'; omega
theorem wide_snoc : ∀ (l : List UInt8) (c : UInt8), wide (l ++ [c]) (l.length + 1) = 10 * wide l l.length + (c.toNat - 48)
  | [], c => by simp [wide]
  | a :: t, c => by
    have ih := wide_snoc t c
    show (a.toNat - 48) * 10 ^ (t.length + 1 + 1 - 1) + wide (t ++ [c]) (t.length + 1 + 1 - 1) = 10 * ((a.toNat - 48) * 10 ^ (t.length + 1 - 1) + wide t (t.length + 1 - 1)) + (c.toNat - 48)
    rw [Nat.add_sub_cancel, Nat.add_sub_cancel, ih, Nat.pow_succ, ← Nat.mul_assoc]
    generalize (a.toNat - 48) * 10 ^ t.length = z
    omega
theorem wide_worth (l : List UInt8) : wide l l.length = worth l := by
  induction hn : l.length generalizing l with
  | zero => rw [List.length_eq_zero_iff.1 hn]; rfl
  | succ n ih =>
    rcases List.eq_nil_or_concat l with h | ⟨q, b, h⟩
    · rw [h] at hn; cases hn
    · rw [List.concat_eq_append] at h
      subst h
      have hq : q.length = n := by simpa using hn
      rw [← hq, wide_snoc, worth_snoc]
      rw [hq, ih q hq]
theorem wide_behind : ∀ (l : List UInt8) (b : Nat), wide (l ++ noughts b) (l.length + b) = wide l (l.length + b)
  | [], b => by
    simp only [List.nil_append, List.length_nil, Nat.zero_add]
    induction b with
    | zero => rfl
    | succ b ih =>
      rw [show noughts (b + 1) = 48 :: noughts b by simp [noughts, List.replicate_succ]]
      unfold wide at ih ⊢
      rw [Nat.add_sub_cancel]
      simp
      cases b with
      | zero => rfl
      | succ b => exact ih
  | a :: t, b => by
    have ih := wide_behind t b
    show (a.toNat - 48) * 10 ^ (t.length + 1 + b - 1) + wide (t ++ noughts b) (t.length + 1 + b - 1) = (a.toNat - 48) * 10 ^ (t.length + 1 + b - 1) + wide t (t.length + 1 + b - 1)
    rw [show t.length + 1 + b - 1 = t.length + b by omega, ih]

/-- A whole number's node. -/
def intN (neg : Bool) (u : Nat) : Nd := if u = 0 then nought else mkN neg (Lib.decDigits u) 0
theorem dec_len_lt (u : Nat) : u < 10 ^ (Lib.decDigits u).length ∧ (0 < u → 10 ^ ((Lib.decDigits u).length - 1) ≤ u) := by
  induction u using Nat.strongRecOn with
  | _ u ih =>
    rw [Lib.decDigits]
    split
    · rename_i h
      simp
      exact ⟨h, fun h => h⟩
    · rename_i h
      obtain ⟨i1, i2⟩ := ih (u / 10) (by omega)
      have i2 := i2 (by omega)
      rw [List.length_append]
      simp only [List.length_cons, List.length_nil, Nat.zero_add, Nat.add_sub_cancel]
      have hp : 0 < (Lib.decDigits (u / 10)).length := List.length_pos_iff.2 (dec_worth (u / 10)).2.2
      obtain ⟨m, hm⟩ : ∃ m, (Lib.decDigits (u / 10)).length = m + 1 := ⟨(Lib.decDigits (u / 10)).length - 1, by omega⟩
      rw [hm] at i1 i2 ⊢
      rw [Nat.add_sub_cancel] at i2
      rw [Nat.pow_succ (m := m + 1), Nat.pow_succ (m := m)]
      rw [Nat.pow_succ] at i1
      generalize 10 ^ m = z at *
      omega
theorem dec_head {u : Nat} (h : 0 < u) : ∃ c t, Lib.decDigits u = c :: t ∧ c ≠ 48 := by
  induction u using Nat.strongRecOn with
  | _ u ih =>
    rw [Lib.decDigits]
    split
    · rename_i h10
      refine ⟨_, [], rfl, fun e => ?_⟩
      have := congrArg UInt8.toNat e
      rw [dig_nat u h10] at this
      simp at this
      omega
    · obtain ⟨c, t, e, hc⟩ := ih (u / 10) (by omega) (by omega)
      rw [e]
      exact ⟨c, t ++ _, rfl, hc⟩
theorem dec_ten (u : Nat) (h : u ≤ 2147483648) : (Lib.decDigits u).length ≤ 10 := by
  rcases Nat.lt_or_ge 10 (Lib.decDigits u).length with h1 | h1
  · by_cases h0 : 0 < u
    · have h2 := (dec_len_lt u).2 h0
      have h3 : 10 ^ 10 ≤ 10 ^ ((Lib.decDigits u).length - 1) := Nat.pow_le_pow_right (by decide) (by omega)
      omega
    · rw [show u = 0 by omega] at h1
      rw [Lib.decDigits] at h1
      simp at h1
  · exact h1

theorem trimRight_split (l : List UInt8) : l = Lib.trimRightB l 48 ++ noughts (l.length - (Lib.trimRightB l 48).length) := by
  induction hn : l.length generalizing l with
  | zero => rw [List.length_eq_zero_iff.1 hn]; rfl
  | succ n ih =>
    rcases List.eq_nil_or_concat l with h | ⟨q, b, h⟩
    · rw [h] at hn; cases hn
    · rw [List.concat_eq_append] at h
      subst h
      have hq : q.length = n := by simpa using hn
      by_cases hb : b = 48
      · subst hb
        have e : Lib.trimRightB (q ++ [48]) 48 = Lib.trimRightB q 48 := by simp [Lib.trimRightB]
        have hle : (Lib.trimRightB q 48).length ≤ n := by
          rw [← hq, Lib.trimRightB, List.length_reverse]
          exact Nat.le_trans (List.dropWhile_suffix _).length_le (by simp)
        rw [e, show n + 1 - (Lib.trimRightB q 48).length = (n - (Lib.trimRightB q 48).length) + 1 by omega]
        have := ih q hq
        rw [show noughts (n - (Lib.trimRightB q 48).length + 1) = noughts (n - (Lib.trimRightB q 48).length) ++ [48] by simp [noughts, List.replicate_succ'], ← List.append_assoc, ← this]
      · rw [trimRight_snoc q b hb, hn]
        simp [noughts]
/-- What a whole number is made of. -/
theorem int_parts (neg : Bool) {u : Nat} (hu : 0 < u) (hm : u ≤ 2147483648) : ∃ (f : List UInt8) (b : Nat), intN neg u = ⟨3, 0, [], f, neg, b⟩ ∧ Lib.decDigits u = f ++ noughts b ∧ f.length + b ≤ 10 ∧ f ≠ [] ∧ f.getLastD 0 ≠ 48 ∧ figs f = true ∧ right (intN neg u) = true ∧ mk neg (Lib.decDigits u) 0 = (intN neg u, 0) := by
  obtain ⟨c, t, hct, hc⟩ := dec_head hu
  obtain ⟨w1, w2, w3⟩ := dec_worth u
  have h10 := dec_ten u hm
  have tl : Lib.trimLeftB (Lib.decDigits u) 48 = Lib.decDigits u := by rw [hct]; simp [Lib.trimLeftB, hc]
  have hne : Lib.trimRightB (Lib.decDigits u) 48 ≠ [] := by rw [hct]; exact trimRight_ne hc
  have hs := trimRight_split (Lib.decDigits u)
  have hle : (Lib.trimRightB (Lib.decDigits u) 48).length ≤ (Lib.decDigits u).length := by
    have := (trim_len (Lib.decDigits u)).1
    rwa [tl] at this
  have he := mkN_e neg (Lib.decDigits u) 0 (by omega) (by omega) (by omega)
  rw [tl] at he
  have hN : intN neg u = ⟨3, 0, [], Lib.trimRightB (Lib.decDigits u) 48, neg, ((Lib.decDigits u).length - (Lib.trimRightB (Lib.decDigits u) 48).length : Nat)⟩ := by
    unfold intN
    rw [if_neg (by omega)]
    have : mkN neg (Lib.decDigits u) 0 = ⟨3, 0, [], Lib.trimRightB (Lib.trimLeftB (Lib.decDigits u) 48) 48, neg, (mkN neg (Lib.decDigits u) 0).e⟩ := rfl
    rw [this, he, tl]
    simp
  have hR : right (mkN neg (Lib.decDigits u) 0) = true := by
    rw [mkN_right neg _ 0 w2 (by rw [tl]; exact w3), tl, he]
    simp only [Bool.and_eq_true, decide_eq_true_eq]
    omega
  have hI : intN neg u = mkN neg (Lib.decDigits u) 0 := by unfold intN; rw [if_neg (by omega)]
  refine ⟨_, _, hN, hs, by omega, hne, trimRight_last _ hne, figs_trimRight w2, by rw [hI]; exact hR, ?_⟩
  rw [mk_ok neg _ 0 w2 (by rw [tl, hct]; rfl) hR, hI]
theorem int_zero : mk false (Lib.decDigits 0) 0 = (intN false 0, 0) ∧ right (intN false 0) = true ∧ printN (intN false 0).s (intN false 0).neg (intN false 0).e = Lib.decDigits 0 ∧ readF (Lib.decDigits 0) = (intN false 0, 0, 0) := by
  have : Lib.decDigits 0 = [48] := by rw [Lib.decDigits]; rfl
  rw [this]
  decide +kernel
theorem int_all (neg : Bool) (u : Nat) (hn : neg = true → 0 < u) (hm : u ≤ 2147483648) : mk neg (Lib.decDigits u) 0 = (intN neg u, 0) ∧ right (intN neg u) = true ∧ printN (intN neg u).s (intN neg u).neg (intN neg u).e = (if neg = true then [45] else []) ++ Lib.decDigits u ∧ readF ((if neg = true then [45] else []) ++ Lib.decDigits u) = (intN neg u, 0, 0) := by
  by_cases hu : 0 < u
  · obtain ⟨f, b, h1, h2, h3, h4, h5, h6, h7, h8⟩ := int_parts neg hu hm
    obtain ⟨c, t, hct, hc⟩ := dec_head hu
    obtain ⟨w1, w2, w3⟩ := dec_worth u
    have hp : printN (intN neg u).s (intN neg u).neg (intN neg u).e = (if neg = true then [45] else []) ++ Lib.decDigits u := by
      have hS : printS f (b : Int) = f ++ noughts b := by
        unfold printS
        rw [if_neg (by simpa using h4), if_pos (by omega), repeat_noughts, show ((b : Nat) : Int).toNat = b by omega]
      rw [h1, h2]
      show printN f neg b = _
      unfold printN
      rw [hS]
      cases neg <;> simp
    refine ⟨h8, h7, hp, ?_⟩
    rw [← hp]
    exact print_back h7
  · obtain rfl : u = 0 := by omega
    cases neg
    · exact int_zero
    · exact absurd (hn rfl) hu
/-- Which of two whole numbers is greater. -/
theorem int_size {u v : Nat} {f g : List UInt8} {b d : Nat} (hu : 0 < u) (hv : 0 < v) (e1 : Lib.decDigits u = f ++ noughts b) (e2 : Lib.decDigits v = g ++ noughts d) (f1 : figs f = true) (g1 : figs g = true) (f2 : f.getLastD 0 ≠ 48) (g2 : g.getLastD 0 ≠ 48) :
    cmpSz f b g d = -1 ↔ u < v := by
  have lu : (Lib.decDigits u).length = f.length + b := by rw [e1, List.length_append]; simp [noughts]
  have lv : (Lib.decDigits v).length = g.length + d := by rw [e2, List.length_append]; simp [noughts]
  have du := dec_len_lt u
  have dv := dec_len_lt v
  have du2 := du.2 hu
  have dv2 := dv.2 hv
  have i1 := cmpI_lt (f.length + b) (g.length + d)
  have i2 := cmpI_eq (f.length + b) (g.length + d)
  have i3 := cmpI_gt (f.length + b) (g.length + d)
  unfold cmpSz
  rcases Nat.lt_trichotomy (f.length + b) (g.length + d) with h | h | h
  · rw [if_neg (fun e => by have := i2.1 e; omega), i1]
    constructor
    · intro _
      have : 10 ^ (Lib.decDigits u).length ≤ 10 ^ ((Lib.decDigits v).length - 1) := Nat.pow_le_pow_right (by decide) (by omega)
      omega
    · intro _; omega
  · rw [if_pos (i2.2 (by omega)), cmpB_lt]
    have k1 : wide f (f.length + b) = u := by
      rw [← wide_behind, ← e1, ← lu, wide_worth, (dec_worth u).1]
    have k2 : wide g (f.length + b) = v := by
      rw [h, ← wide_behind, ← e2, ← lv, wide_worth, (dec_worth v).1]
    rw [wide_lex f g (f.length + b) f1 g1 (.inr f2) (.inr g2) (by omega) (by omega), k1, k2]
  · rw [if_neg (fun e => by have := i2.1 e; omega)]
    constructor
    · intro e; have := i1.1 e; omega
    · intro _
      have : 10 ^ (Lib.decDigits v).length ≤ 10 ^ ((Lib.decDigits u).length - 1) := Nat.pow_le_pow_right (by decide) (by omega)
      omega
theorem int_cmp (n1 n2 : Bool) (u v : Nat) (h1 : n1 = true → 0 < u) (h2 : n2 = true → 0 < v) (m1 : u ≤ 2147483648) (m2 : v ≤ 2147483648) :
    cmpN (intN n1 u).s (intN n1 u).neg (intN n1 u).e (intN n2 v).s (intN n2 v).neg (intN n2 v).e < 0 ↔ (if n1 = true then -(u : Int) else u) < (if n2 = true then -(v : Int) else v) := by
  have sg : ∀ (n : Bool) (w : Nat), (n = true → 0 < w) → w ≤ 2147483648 → sgn (intN n w).s (intN n w).neg = if w = 0 then 0 else if n = true then -1 else 1 := by
    intro n w hn hw
    by_cases h0 : w = 0
    · subst h0
      have : n = false := by cases n with | false => rfl | true => exact absurd (hn rfl) (by omega)
      subst this
      rw [if_pos rfl]; decide
    · obtain ⟨f, b, e1, _, _, e4, _⟩ := int_parts n (u := w) (by omega) hw
      rw [e1, if_neg h0]
      unfold sgn
      rw [if_neg (by simpa using e4)]
  have s1 := sg n1 u h1 m1
  have s2 := sg n2 v h2 m2
  have hr := cmpN_range (intN n1 u).s (intN n1 u).neg (intN n1 u).e (intN n2 v).s (intN n2 v).neg (intN n2 v).e
  have i1 := cmpI_lt (sgn (intN n1 u).s (intN n1 u).neg) (sgn (intN n2 v).s (intN n2 v).neg)
  have i2 := cmpI_eq (sgn (intN n1 u).s (intN n1 u).neg) (sgn (intN n2 v).s (intN n2 v).neg)
  have i3 := compareInt_cases (sgn (intN n1 u).s (intN n1 u).neg) (sgn (intN n2 v).s (intN n2 v).neg)
  unfold cmpN
  by_cases hs : sgn (intN n1 u).s (intN n1 u).neg = sgn (intN n2 v).s (intN n2 v).neg
  · rw [if_pos (i2.2 hs), s1]
    rw [s1, s2] at hs
    by_cases hu : u = 0
    · have hv : v = 0 := by
        rw [if_pos hu] at hs
        by_cases hv : v = 0
        · exact hv
        · rw [if_neg hv] at hs; split at hs <;> omega
      rw [if_pos hu, hu, hv]
      simp
    · have hv : v ≠ 0 := by
        intro hv
        rw [if_neg hu, if_pos hv] at hs; split at hs <;> omega
      rw [if_neg hu] at hs ⊢
      rw [if_neg hv] at hs
      obtain ⟨f, b, a1, a2, _, a4, a5, a6, _⟩ := int_parts n1 (u := u) (by omega) m1
      obtain ⟨g, d, c1, c2, _, c4, c5, c6, _⟩ := int_parts n2 (u := v) (by omega) m2
      rw [a1, c1]
      simp only
      have z1 := int_size (show 0 < u by omega) (show 0 < v by omega) a2 c2 a6 c6 a5 c5
      have z2 := int_size (show 0 < v by omega) (show 0 < u by omega) c2 a2 c6 a6 c5 a5
      have z3 := cmpSz_neg f b g d
      have z4 := cmpSz_cases f b g d
      cases n1 <;> cases n2 <;> simp only [Bool.false_eq_true, if_false, if_true] at hs ⊢
      · omega
      · omega
      · omega
      · omega
  · rw [if_neg (fun e => hs (i2.1 e))]
    rw [s1, s2] at i1 i3 hs ⊢
    by_cases hu : u = 0 <;> by_cases hv : v = 0 <;> cases n1 <;> cases n2 <;> simp only [hu, hv, Bool.false_eq_true, if_false, if_true, not_true_eq_false] at i1 i3 hs h1 h2 ⊢ <;> omega

end Np
end Go.Proofs.Ytbffeffplabaeaa

/-
  Plain words: which of two numbers is greater, figure by figure. No program stands here.
-/
namespace Go.Proofs.Ytbffeffplabaeaa
namespace Np
open Go.RowKit

/-- The figure that stands at a power. -/
def digAt (l : List UInt8) (x p : Int) : Nat := if (l.length : Int) - 1 - (p - x) < 0 then 0 else (l.getD ((l.length : Int) - 1 - (p - x)).toNat 48).toNat - 48
theorem getD_fig {l : List UInt8} (h : figs l = true) (j : Nat) : 48 ≤ (l.getD j 48).toNat ∧ (l.getD j 48).toNat ≤ 57 := by
  rw [List.getD_eq_getElem?_getD]
  by_cases hj : j < l.length
  · rw [List.getElem?_eq_getElem hj]
    exact (fig_iff _).1 (figs_at h hj)
  · rw [List.getElem?_eq_none (by omega)]
    decide
theorem lexD : ∀ (a b : List UInt8) (i : Nat), figs a = true → figs b = true → (∀ j, j < i → (a.getD j 48).toNat = (b.getD j 48).toNat) → (a.getD i 48).toNat < (b.getD i 48).toNat → a < b
  | [], [], i, _, _, _, h => by simp at h
  | [], y :: v, i, _, _, _, _ => List.nil_lt_cons _ _
  | x :: u, [], i, ha, _, _, h => by
    have := (getD_fig ha i).1
    simp at h
    simp at this
    omega
  | x :: u, y :: v, i, ha, hb, hj, h => by
    have hu : figs u = true := by simp [figs] at ha ⊢; exact ha.2
    have hv : figs v = true := by simp [figs] at hb ⊢; exact hb.2
    rw [List.cons_lt_cons_iff]
    cases i with
    | zero =>
      left
      rw [UInt8.lt_iff_toNat_lt]
      simpa using h
    | succ i =>
      right
      refine ⟨UInt8.toNat_inj.1 (by have := hj 0 (by omega); simpa using this), ?_⟩
      exact lexD u v i hu hv (fun j h' => by have := hj (j + 1) (by omega); simpa using this) (by simpa using h)
theorem wide_getD : ∀ (n : Nat) (a b : List UInt8), a.length ≤ n → b.length ≤ n → (∀ j, j < n → (a.getD j 48).toNat = (b.getD j 48).toNat) → wide a n = wide b n
  | 0, a, b, h1, h2, _ => by rw [List.length_eq_zero_iff.1 (by omega : a.length = 0), List.length_eq_zero_iff.1 (by omega : b.length = 0)]
  | n + 1, [], [], _, _, _ => rfl
  | n + 1, [], y :: v, h1, h2, hj => by
    have h0 := hj 0 (by omega)
    have ih := wide_getD n [] v (by simp) (by simpa using h2) (fun j h => by have := hj (j + 1) (by omega); simpa using this)
    simp at h0
    simp only [wide] at ih ⊢
    rw [Nat.add_sub_cancel, ← ih, ← h0]
    simp
  | n + 1, x :: u, [], h1, h2, hj => by
    have h0 := hj 0 (by omega)
    have ih := wide_getD n u [] (by simpa using h1) (by simp) (fun j h => by have := hj (j + 1) (by omega); simpa using this)
    simp at h0
    simp only [wide] at ih ⊢
    rw [Nat.add_sub_cancel, ih, h0]
    simp
  | n + 1, x :: u, y :: v, h1, h2, hj => by
    have h0 := hj 0 (by omega)
    have ih := wide_getD n u v (by simpa using h1) (by simpa using h2) (fun j h => by have := hj (j + 1) (by omega); simpa using this)
    simp at h0
    simp only [wide]
    rw [Nat.add_sub_cancel, ih, h0]
theorem digAt_in {l : List UInt8} {x : Int} (j : Nat) : digAt l x (l.length + x - 1 - j) = (l.getD j 48).toNat - 48 := by
  unfold digAt
  rw [if_neg (by omega), show ((l.length : Int) - 1 - ((l.length : Int) + x - 1 - j - x)).toNat = j by omega]
theorem digAt_top (l : List UInt8) (x p : Int) (h : l.length + x ≤ p) : digAt l x p = 0 := by
  unfold digAt; rw [if_pos (by omega)]
theorem digAt_nil (x p : Int) : digAt [] x p = 0 := by
  unfold digAt; split
  · rfl
  · simp
theorem dig_first {c : UInt8} {t : List UInt8} {x : Int} (h : figs (c :: t) = true) (hc : c ≠ 48) : 0 < digAt (c :: t) x ((c :: t).length + x - 1) := by
  have := digAt_in (l := c :: t) (x := x) 0
  simp only [Int.natCast_zero, Int.sub_zero] at this
  rw [this]
  have h2 := (fig_iff c).1 (fig_head h rfl)
  have : c.toNat ≠ 48 := fun e => hc (UInt8.toNat_inj.1 (by simp; omega))
  simp
  omega
/-- Sizes of two numbers of which neither is nought, figure by figure. -/
theorem size_dig {a b : List UInt8} {x y : Int} (fa : figs a = true) (fb : figs b = true) (ha : ∃ c t, a = c :: t ∧ c ≠ 48) (hb : ∃ c t, b = c :: t ∧ c ≠ 48) (la : a.getLastD 0 ≠ 48) (lb : b.getLastD 0 ≠ 48) (p : Int) (hp : p ≤ max (a.length + x) (b.length + y)) :
    ((∀ q, p < q → q ≤ max (a.length + x) (b.length + y) → digAt a x q = digAt b y q) → (digAt a x p < digAt b y p → cmpSz a x b y = -1) ∧ (digAt b y p < digAt a x p → cmpSz a x b y = 1) ∧ (digAt a x p = digAt b y p → p ≤ x → p ≤ y → cmpSz a x b y = 0)) := by
  intro heq
  have i1 := cmpI_lt (a.length + x) (b.length + y)
  have i2 := cmpI_eq (a.length + x) (b.length + y)
  have i3 := cmpI_gt (a.length + x) (b.length + y)
  have pa : 0 < a.length := by obtain ⟨c, t, e, _⟩ := ha; rw [e]; simp
  have pb : 0 < b.length := by obtain ⟨c, t, e, _⟩ := hb; rw [e]; simp
  rcases Int.lt_trichotomy (a.length + x) (b.length + y) with h | h | h
  · have hc : cmpSz a x b y = -1 := by unfold cmpSz; rw [if_neg (fun e => by have := i2.1 e; omega)]; exact i1.2 h
    have dz : ∀ q, b.length + y - 1 ≤ q → digAt a x q = 0 := fun q hq => digAt_top a x q (by omega)
    have df : 0 < digAt b y (b.length + y - 1) := by obtain ⟨c, t, e, h48⟩ := hb; rw [e] at fb ⊢; exact dig_first fb h48
    refine ⟨fun _ => hc, fun h2 => ?_, fun h2 h3 h4 => ?_⟩
    · exfalso
      rcases Int.lt_trichotomy p (b.length + y - 1) with h' | h' | h'
      · have := heq (b.length + y - 1) h' (by omega)
        rw [dz _ (Int.le_refl _)] at this; omega
      · rw [h', dz _ (Int.le_refl _)] at h2; omega
      · rw [dz p (by omega)] at h2; omega
    · exfalso
      by_cases h' : p < b.length + y - 1
      · have := heq (b.length + y - 1) h' (by omega)
        rw [dz _ (Int.le_refl _)] at this; omega
      · have : p = b.length + y - 1 := by omega
        rw [this, dz _ (Int.le_refl _)] at h2; omega
  · have hm : max ((a.length : Int) + x) (b.length + y) = a.length + x := by omega
    rw [hm] at heq hp
    have hcB : cmpSz a x b y = cmpB a b := by unfold cmpSz; rw [if_pos (i2.2 h)]
    have dA : ∀ j : Nat, digAt a x (a.length + x - 1 - j) = (a.getD j 48).toNat - 48 := fun j => digAt_in j
    have dB : ∀ j : Nat, digAt b y (a.length + x - 1 - j) = (b.getD j 48).toNat - 48 := fun j => by rw [h]; exact digAt_in j
    have hg : ∀ j : Nat, p < a.length + x - 1 - j → (a.getD j 48).toNat = (b.getD j 48).toNat := fun j hj => by
      have := heq _ hj (by omega)
      rw [dA, dB] at this
      have := getD_fig fa j
      have := getD_fig fb j
      omega
    by_cases hpt : p = a.length + x
    · have z1 : digAt a x p = 0 := digAt_top a x p (by omega)
      have z2 : digAt b y p = 0 := digAt_top b y p (by omega)
      refine ⟨fun h' => by omega, fun h' => by omega, fun _ h' _ => by omega⟩
    · obtain ⟨i, hi⟩ : ∃ i : Nat, p = a.length + x - 1 - i := ⟨((a.length : Int) + x - 1 - p).toNat, by omega⟩
      have g1 := getD_fig fa i
      have g2 := getD_fig fb i
      refine ⟨fun h' => ?_, fun h' => ?_, fun h' h3 h4 => ?_⟩
      · rw [hcB, cmpB_lt]
        rw [hi, dA, dB] at h'
        exact lexD a b i fa fb (fun j hj => hg j (by omega)) (by omega)
      · rw [hcB, cmpB_gt]
        rw [hi, dA, dB] at h'
        exact lexD b a i fb fa (fun j hj => (hg j (by omega)).symm) (by omega)
      · rw [hcB, cmpB_eq]
        rw [hi, dA, dB] at h'
        have hw : wide a (i + 1) = wide b (i + 1) := wide_getD (i + 1) a b (by omega) (by omega) (fun j hj => by
          by_cases hji : j = i
          · subst hji; omega
          · exact hg j (by omega))
        have w1 := wide_lex a b (i + 1) fa fb (.inr la) (.inr lb) (by omega) (by omega)
        have w2 := wide_lex b a (i + 1) fb fa (.inr lb) (.inr la) (by omega) (by omega)
        rcases Std.lt_trichotomy a b with h5 | h5 | h5
        · have := w1.1 h5; omega
        · exact h5
        · have := w2.1 h5; omega
  · have hc : cmpSz a x b y = 1 := by unfold cmpSz; rw [if_neg (fun e => by have := i2.1 e; omega)]; exact i3.2 h
    have dz : ∀ q, a.length + x - 1 ≤ q → digAt b y q = 0 := fun q hq => digAt_top b y q (by omega)
    have df : 0 < digAt a x (a.length + x - 1) := by obtain ⟨c, t, e, h48⟩ := ha; rw [e] at fa ⊢; exact dig_first fa h48
    refine ⟨fun h2 => ?_, fun _ => hc, fun h2 h3 h4 => ?_⟩
    · exfalso
      rcases Int.lt_trichotomy p (a.length + x - 1) with h' | h' | h'
      · have := heq (a.length + x - 1) h' (by omega)
        rw [dz _ (Int.le_refl _)] at this; omega
      · rw [h', dz _ (Int.le_refl _)] at h2; omega
      · rw [dz p (by omega)] at h2; omega
    · exfalso
      by_cases h' : p < a.length + x - 1
      · have := heq (a.length + x - 1) h' (by omega)
        rw [dz _ (Int.le_refl _)] at this; omega
      · have : p = a.length + x - 1 := by omega
        rw [this, dz _ (Int.le_refl _)] at h2; omega

/-- What a right number that is not nought has. -/
theorem right_parts {n : Nd} (h : right n = true) (hs : n.s ≠ []) : figs n.s = true ∧ (∃ c t, n.s = c :: t ∧ c ≠ 48) ∧ n.s.getLastD 0 ≠ 48 := by
  obtain ⟨_, _, _, ⟨h4, _⟩ | ⟨_, hf, _, _⟩⟩ := (right_iff n).1 h
  · exact absurd h4 hs
  · unfold rfigs at hf
    simp only [Bool.and_eq_true, decide_eq_true_eq, bne_iff_ne] at hf
    obtain ⟨⟨⟨_, hfi⟩, hh⟩, hla⟩ := hf
    refine ⟨hfi, ?_, hla⟩
    cases hn : n.s with
    | nil => exact absurd hn hs
    | cons c t => rw [hn] at hh; exact ⟨c, t, rfl, hh⟩
/-- Which of two numbers of one side is greater, figure by figure. -/
theorem cmp_dig {k m : Int} {nm a : List UInt8} {g : Bool} {x : Int} {k2 m2 : Int} {nm2 b : List UInt8} {y : Int} (h1 : right ⟨k, m, nm, a, g, x⟩ = true) (h2 : right ⟨k2, m2, nm2, b, g, y⟩ = true) (p : Int) (hp : p ≤ max (a.length + x) (b.length + y)) (heq : ∀ q, p < q → q ≤ max (a.length + x) (b.length + y) → digAt a x q = digAt b y q) :
    (digAt a x p < digAt b y p → cmpN a g x b g y = -(if g = true then -1 else 1)) ∧ (digAt b y p < digAt a x p → cmpN a g x b g y = if g = true then -1 else 1) ∧ (digAt a x p = digAt b y p → p ≤ x → p ≤ y → cmpN a g x b g y = 0) := by
  by_cases ha : a = []
  · subst ha
    have hg : g = false ∧ x = 0 := by
      obtain ⟨_, _, _, ⟨_, h, h'⟩ | ⟨h, _⟩⟩ := (right_iff _).1 h1
      · exact ⟨h, h'⟩
      · exact absurd rfl h
    obtain ⟨rfl, rfl⟩ := hg
    by_cases hb : b = []
    · subst hb
      have hy : y = 0 := by
        obtain ⟨_, _, _, ⟨_, _, h'⟩ | ⟨h, _⟩⟩ := (right_iff _).1 h2
        · exact h'
        · exact absurd rfl h
      subst hy
      rw [digAt_nil]
      exact ⟨fun h => by omega, fun h => by omega, fun _ _ _ => by decide⟩
    · obtain ⟨fb, hc, lb⟩ := right_parts h2 hb
      simp only at fb hc lb
      have hcm : cmpN [] false 0 b false y = -1 := by
        have s2 : sgn b false = 1 := by unfold sgn; rw [if_neg (by simpa using hb)]; rfl
        have s1 : sgn [] false = 0 := rfl
        unfold cmpN
        rw [s1, s2, if_neg (by decide)]
        decide
      have df : 0 < digAt b y (b.length + y - 1) := by obtain ⟨c, t, e, h48⟩ := hc; rw [e] at fb ⊢; exact dig_first fb h48
      have pb : 0 < b.length := by obtain ⟨c, t, e, _⟩ := hc; rw [e]; simp
      rw [digAt_nil]
      refine ⟨fun _ => by rw [hcm]; rfl, fun h => by omega, fun h' h3 h4 => ?_⟩
      exfalso
      by_cases hlt : p < b.length + y - 1
      · have := heq _ hlt (by omega)
        rw [digAt_nil] at this; omega
      · have : p = b.length + y - 1 := by omega
        rw [this] at h'; omega
  · obtain ⟨fa, hca, la⟩ := right_parts h1 ha
    simp only at fa hca la
    by_cases hb : b = []
    · subst hb
      have hg : g = false ∧ y = 0 := by
        obtain ⟨_, _, _, ⟨_, h, h'⟩ | ⟨h, _⟩⟩ := (right_iff _).1 h2
        · exact ⟨h, h'⟩
        · exact absurd rfl h
      obtain ⟨rfl, rfl⟩ := hg
      have hcm : cmpN a false x [] false 0 = 1 := by
        have s1 : sgn a false = 1 := by unfold sgn; rw [if_neg (by simpa using ha)]; rfl
        have s2 : sgn [] false = 0 := rfl
        unfold cmpN
        rw [s1, s2, if_neg (by decide)]
        decide
      have df : 0 < digAt a x (a.length + x - 1) := by obtain ⟨c, t, e, h48⟩ := hca; rw [e] at fa ⊢; exact dig_first fa h48
      have pa : 0 < a.length := by obtain ⟨c, t, e, _⟩ := hca; rw [e]; simp
      rw [digAt_nil]
      refine ⟨fun h => by omega, fun _ => by rw [hcm]; rfl, fun h' h3 h4 => ?_⟩
      exfalso
      by_cases hlt : p < a.length + x - 1
      · have := heq _ hlt (by omega)
        rw [digAt_nil] at this; omega
      · have : p = a.length + x - 1 := by omega
        rw [this] at h'; omega
    · obtain ⟨fb, hcb, lb⟩ := right_parts h2 hb
      simp only at fb hcb lb
      obtain ⟨z1, z2, z3⟩ := size_dig fa fb hca hcb la lb p hp heq
      have hcm : cmpN a g x b g y = (if g = true then -1 else 1) * cmpSz a x b y := by
        unfold cmpN
        have s1 : sgn a g = if g = true then -1 else 1 := by unfold sgn; rw [if_neg (by simpa using ha)]
        have s2 : sgn b g = if g = true then -1 else 1 := by unfold sgn; rw [if_neg (by simpa using hb)]
        rw [s1, s2, if_pos ((cmpI_eq _ _).2 rfl)]
      rw [hcm]
      refine ⟨fun h => ?_, fun h => ?_, fun h h3 h4 => ?_⟩
      · rw [z1 h]; cases g <;> decide
      · rw [z2 h]; cases g <;> decide
      · rw [z3 h h3 h4]; cases g <;> decide
theorem cmp_sides {k m : Int} {nm a : List UInt8} {g : Bool} {x : Int} {k2 m2 : Int} {nm2 b : List UInt8} {g2 : Bool} {y : Int} (h1 : right ⟨k, m, nm, a, g, x⟩ = true) (h2 : right ⟨k2, m2, nm2, b, g2, y⟩ = true) (h : g ≠ g2) : cmpN a g x b g2 y = if g = true then -1 else 1 := by
  have e1 : g = true → a ≠ [] := by
    intro hg ha
    obtain ⟨_, _, _, ⟨_, h, _⟩ | ⟨h, _⟩⟩ := (right_iff _).1 h1
    · simp only at h; rw [hg] at h; cases h
    · exact absurd ha h
  have e2 : g2 = true → b ≠ [] := by
    intro hg ha
    obtain ⟨_, _, _, ⟨_, h, _⟩ | ⟨h, _⟩⟩ := (right_iff _).1 h2
    · simp only at h; rw [hg] at h; cases h
    · exact absurd ha h
  cases g <;> cases g2
  · exact absurd rfl h
  · have hb := e2 rfl
    have s2 : sgn b true = -1 := by unfold sgn; rw [if_neg (by simpa using hb)]; rfl
    have s1 := sgn_cases a false
    have s1' : sgn a false ≠ -1 := by unfold sgn; split <;> simp
    unfold cmpN
    rw [s2, if_neg (fun e => by have := (cmpI_eq _ _).1 e; omega)]
    exact (cmpI_gt _ _).2 (by omega)
  · have ha := e1 rfl
    have s1 : sgn a true = -1 := by unfold sgn; rw [if_neg (by simpa using ha)]; rfl
    have s2 := sgn_cases b false
    have s2' : sgn b false ≠ -1 := by unfold sgn; split <;> simp
    unfold cmpN
    rw [s1, if_neg (fun e => by have := (cmpI_eq _ _).1 e; omega)]
    exact (cmpI_lt _ _).2 (by omega)
  · exact absurd rfl h

end Np
end Go.Proofs.Ytbffeffplabaeaa

/-
  What the document's own answer Cmp is: as num's.
-/
namespace Go.Proofs.Ytbffeffplabaeaa
open Go.RowKit Np

set_option maxHeartbeats 1000000 in
theorem refAt_any (k m : Int) (nm s : ByteArray) (g : Bool) (x p : Int) (w : World) (hf : figs s.data.toList = true) (hs : s.size ≤ 1000) (hx : -2000 ≤ x) (hx' : x ≤ 2000) (hp : -4000 ≤ p) (hp' : p ≤ 4000) :
    Calls Try.prog 50 #[.agg #[.int .i64 k, .int .i64 m, .string nm, .string s, .bool g, .int .i64 x], .int .i64 p] w fun e w' => e = .returned (.int .i64 (digAt s.data.toList x p)) ∧ Below w.heap.size w w' := by
  have hB : Below w.heap.size w w := Below.refl _ _
  have HF := Lib.hid hf
  clear hf
  by_cases hi : (s.size : Int) - 1 - (p - x) < 0
  · have HV : Hid (digAt s.data.toList x p = 0) := Lib.hid (by unfold digAt; rw [size_toList, if_pos hi])
    go_enter Try.func50, Try.ntmps50
    go_wp2_with fail
    go_ret
    exact ⟨ret_i64 (by rw [HV.out]; rfl), hB.alloc (Nat.le_refl _) _⟩
  · obtain ⟨i, hii⟩ : ∃ i : Nat, (s.size : Int) - 1 - (p - x) = i := ⟨((s.size : Int) - 1 - (p - x)).toNat, by omega⟩
    have HI := Lib.hid hii
    by_cases hlt : i < s.size
    · have hfk := (fig_iff _).1 (figs_at HF.out (k := i) (by simpa using hlt))
      rw [get_toList s i hlt] at hfk
      have HV : Hid (digAt s.data.toList x p = s[i].toNat - 48) := Lib.hid (by
        unfold digAt
        rw [size_toList, if_neg hi, hii, Int.toNat_natCast, List.getD_eq_getElem?_getD, List.getElem?_eq_getElem (by simpa using hlt), get_toList s i hlt]
        rfl)
      obtain ⟨f1, f2⟩ := hfk
      clear hii hi
      go_enter Try.func50, Try.ntmps50
      go_upto_region 2 with fail
      rw [HI.out]
      go_wp2_with fail
      go_ret
      exact ⟨ret_i64 (by rw [HV.out]; omega), hB.alloc (Nat.le_refl _) _⟩
    · have HV : Hid (digAt s.data.toList x p = 0) := Lib.hid (by
        unfold digAt
        rw [size_toList, if_neg hi, hii, Int.toNat_natCast, List.getD_eq_getElem?_getD, List.getElem?_eq_none (by rw [size_toList]; omega)]
        rfl)
      clear hii hi
      go_enter Try.func50, Try.ntmps50
      go_upto_region 2 with fail
      rw [HI.out]
      go_wp2_with fail
      go_ret
      exact ⟨ret_i64 (by rw [HV.out]; rfl), hB.alloc (Nat.le_refl _) _⟩

/-- How the document's Cmp ends. -/
def CmpEnd (w : World) (c : Int) (e : Ending) (w' : World) : Prop := e = .returned (.int .i64 c) ∧ Below w.heap.size w w'
theorem cmpEnd_of {w w' : World} {c d : Int} (h : c = d) (hb : Below w.heap.size w w') : CmpEnd w c (.returned (.int .i64 d)) w' := ⟨by rw [h], hb⟩

/-- What a round of Cmp rests on. -/
def Two (k m : Int) (nm s : ByteArray) (g : Bool) (x : Int) (k2 m2 : Int) (nm2 s2 : ByteArray) (x2 : Int) (w : World) (w' : World) : Prop := w'.cell? ⟨w.heap.size, 0, none⟩ = some (.int .i64 k) ∧ w'.cell? ⟨w.heap.size, 1, none⟩ = some (.int .i64 m) ∧ w'.cell? ⟨w.heap.size, 2, none⟩ = some (.string nm) ∧ w'.cell? ⟨w.heap.size, 3, none⟩ = some (.string s) ∧ w'.cell? ⟨w.heap.size, 4, none⟩ = some (.bool g) ∧ w'.cell? ⟨w.heap.size, 5, none⟩ = some (.int .i64 x) ∧ w'.cell? ⟨w.heap.size + 1, 0, none⟩ = some (.int .i64 k2) ∧ w'.cell? ⟨w.heap.size + 1, 1, none⟩ = some (.int .i64 m2) ∧ w'.cell? ⟨w.heap.size + 1, 2, none⟩ = some (.string nm2) ∧ w'.cell? ⟨w.heap.size + 1, 3, none⟩ = some (.string s2) ∧ w'.cell? ⟨w.heap.size + 1, 4, none⟩ = some (.bool g) ∧ w'.cell? ⟨w.heap.size + 1, 5, none⟩ = some (.int .i64 x2) ∧ Below w.heap.size w w' ∧ w.heap.size < w'.heap.size ∧ w.heap.size + 1 < w'.heap.size
theorem Two.step {k m : Int} {nm s : ByteArray} {g : Bool} {x : Int} {k2 m2 : Int} {nm2 s2 : ByteArray} {x2 : Int} {w : World} {W W' : World} (h : Two k m nm s g x k2 m2 nm2 s2 x2 w W) (hb : Below W.heap.size W W') : Two k m nm s g x k2 m2 nm2 s2 x2 w W' := by
  obtain ⟨h0, h1, h2, h3, h4, h5, h6, h7, h8, h9, h10, h11, hl, u1, u2⟩ := h
  exact ⟨(hb.cell (p := ⟨w.heap.size, 0, none⟩) u1).trans h0, (hb.cell (p := ⟨w.heap.size, 1, none⟩) u1).trans h1, (hb.cell (p := ⟨w.heap.size, 2, none⟩) u1).trans h2, (hb.cell (p := ⟨w.heap.size, 3, none⟩) u1).trans h3, (hb.cell (p := ⟨w.heap.size, 4, none⟩) u1).trans h4, (hb.cell (p := ⟨w.heap.size, 5, none⟩) u1).trans h5, (hb.cell (p := ⟨w.heap.size + 1, 0, none⟩) u2).trans h6, (hb.cell (p := ⟨w.heap.size + 1, 1, none⟩) u2).trans h7, (hb.cell (p := ⟨w.heap.size + 1, 2, none⟩) u2).trans h8, (hb.cell (p := ⟨w.heap.size + 1, 3, none⟩) u2).trans h9, (hb.cell (p := ⟨w.heap.size + 1, 4, none⟩) u2).trans h10, (hb.cell (p := ⟨w.heap.size + 1, 5, none⟩) u2).trans h11, hl.trans (hb.mono hl.size), Nat.lt_of_lt_of_le u1 hb.size, Nat.lt_of_lt_of_le u2 hb.size⟩
theorem Two.low {k m : Int} {nm s : ByteArray} {g : Bool} {x : Int} {k2 m2 : Int} {nm2 s2 : ByteArray} {x2 : Int} {w : World} {W : World} (h : Two k m nm s g x k2 m2 nm2 s2 x2 w W) : Below w.heap.size w W := by
  obtain ⟨_, _, _, _, _, _, _, _, _, _, _, _, hl, _⟩ := h
  exact hl
theorem Two.start (k m : Int) (nm s : ByteArray) (g : Bool) (x : Int) (k2 m2 : Int) (nm2 s2 : ByteArray) (x2 : Int) (w : World) : Two k m nm s g x k2 m2 nm2 s2 x2 w ((w.alloc (.cells #[.int .i64 k, .int .i64 m, .string nm, .string s, .bool g, .int .i64 x] 38)).alloc (.cells #[.int .i64 k2, .int .i64 m2, .string nm2, .string s2, .bool g, .int .i64 x2] 38)) := by
  have hl := ((Below.refl w.heap.size w).alloc (Nat.le_refl _) (.cells #[.int .i64 k, .int .i64 m, .string nm, .string s, .bool g, .int .i64 x] 38)).alloc (by simp) (.cells #[.int .i64 k2, .int .i64 m2, .string nm2, .string s2, .bool g, .int .i64 x2] 38)
  refine ⟨?_, ?_, ?_, ?_, ?_, ?_, ?_, ?_, ?_, ?_, ?_, ?_, hl, by simp; omega, by simp⟩ <;> simp [go_sem]

set_option maxRecDepth 100000 in
set_option maxHeartbeats 4000000 in
theorem refCmp_any (k m : Int) (nm s : ByteArray) (g : Bool) (x : Int) (k2 m2 : Int) (nm2 s2 : ByteArray) (g2 : Bool) (x2 : Int) (w : World)
    (hr : right ⟨k, m, nm.data.toList, s.data.toList, g, x⟩ = true) (hr2 : right ⟨k2, m2, nm2.data.toList, s2.data.toList, g2, x2⟩ = true) :
    Calls Try.prog 29 #[.agg #[.int .i64 k, .int .i64 m, .string nm, .string s, .bool g, .int .i64 x], .agg #[.int .i64 k2, .int .i64 m2, .string nm2, .string s2, .bool g2, .int .i64 x2]] w
      (CmpEnd w (cmpN s.data.toList g x s2.data.toList g2 x2)) := by
  obtain ⟨p1, p2, p3⟩ := right_bounds hr
  obtain ⟨q1, q2, q3⟩ := right_bounds hr2
  simp only at p1 p2 p3 q1 q2 q3
  rw [size_toList] at p1 q1
  have hB : Below w.heap.size w w := Below.refl _ _
  have hB2 := (hB.alloc (Nat.le_refl _) (.cells #[.int .i64 k, .int .i64 m, .string nm, .string s, .bool g, .int .i64 x] 38)).alloc (by simp) (.cells #[.int .i64 k2, .int .i64 m2, .string nm2, .string s2, .bool g2, .int .i64 x2] 38)
  have HR := Lib.hid hr
  have HR2 := Lib.hid hr2
  clear hr hr2
  by_cases hg : g = g2
  · subst hg
    have hf1 : figs s.data.toList = true := by
      by_cases h : s.data.toList = []
      · rw [h]; rfl
      · exact (right_parts HR.out h).1
    have hf2 : figs s2.data.toList = true := by
      by_cases h : s2.data.toList = []
      · rw [h]; rfl
      · exact (right_parts HR2.out h).1
    have HF1 := Lib.hid hf1
    have HF2 := Lib.hid hf2
    clear hf1 hf2
    have HD : Hid (∀ p : Int, p ≤ max (s.size + x) (s2.size + x2) → (∀ q, p < q → q ≤ max (s.size + x) (s2.size + x2) → digAt s.data.toList x q = digAt s2.data.toList x2 q) → (digAt s.data.toList x p < digAt s2.data.toList x2 p → cmpN s.data.toList g x s2.data.toList g x2 = -(if g = true then -1 else 1)) ∧ (digAt s2.data.toList x2 p < digAt s.data.toList x p → cmpN s.data.toList g x s2.data.toList g x2 = if g = true then -1 else 1) ∧ (digAt s.data.toList x p = digAt s2.data.toList x2 p → p ≤ x → p ≤ x2 → cmpN s.data.toList g x s2.data.toList g x2 = 0)) :=
      Lib.hid (fun p h1 h2 => by
        have := cmp_dig HR.out HR2.out p (by rw [size_toList, size_toList]; exact h1) (by rw [size_toList, size_toList]; exact h2)
        exact this)
    generalize cmpN s.data.toList g x s2.data.toList g x2 = cc at *
    cases g
    · have HS := Lib.hid (Two.start k m nm s false x k2 m2 nm2 s2 x2 w)
      go_enter Try.func29, Try.ntmps29
      go_wp2_with fail
      go_loopg [7, 8, 9] ((max ((s.size : Int) + x) (s2.size + x2) + 3000).toNat) (fun n v _ _ wr => ∃ p : Int, v = .int .i64 p ∧ p ≤ max ((s.size : Int) + x) (s2.size + x2) ∧ min x x2 - 1 ≤ p ∧ n = (p + 3000).toNat ∧ Hid (∀ q, p < q → q ≤ max ((s.size : Int) + x) (s2.size + x2) → digAt s.data.toList x q = digAt s2.data.toList x2 q) ∧ Hid (Two k m nm s false x k2 m2 nm2 s2 x2 w wr))
      case atStart => exact ⟨_, rfl, Int.le_refl _, by omega, rfl, Lib.hid (fun q h1 h2 => by omega), HS⟩
      case round =>
        obtain ⟨p, rfl, hpt, hpm, rfl, HE, HW⟩ := hrel
        obtain ⟨n0, n1, n2, n3, n4, n5, o0, o1, o2, o3, o4, o5, hBw, u1, u2⟩ := HW.out
        by_cases hge : min x x2 ≤ p
        · have hdp : decide (min x x2 ≤ p) = true := by simpa using hge
          go_upto_region 10 with fail
          go_cut [8, 9] (fun s8 s9 wx => s8 = .int .i64 (digAt s.data.toList x p) ∧ s9 = .int .i64 (digAt s2.data.toList x2 p) ∧ Hid (Two k m nm s false x k2 m2 nm2 s2 x2 w wx))
          case first =>
            have hStart : Two k m nm s false x k2 m2 nm2 s2 x2 w wr := HW.out
            go_region_held3 (fun w' => w'.cell? ⟨w.heap.size, 0, none⟩ = some (.int .i64 k) ∧ w'.cell? ⟨w.heap.size, 1, none⟩ = some (.int .i64 m) ∧ w'.cell? ⟨w.heap.size, 2, none⟩ = some (.string nm) ∧ w'.cell? ⟨w.heap.size, 3, none⟩ = some (.string s) ∧ w'.cell? ⟨w.heap.size, 4, none⟩ = some (.bool false) ∧ w'.cell? ⟨w.heap.size, 5, none⟩ = some (.int .i64 x) ∧ w'.cell? ⟨w.heap.size + 1, 0, none⟩ = some (.int .i64 k2) ∧ w'.cell? ⟨w.heap.size + 1, 1, none⟩ = some (.int .i64 m2) ∧ w'.cell? ⟨w.heap.size + 1, 2, none⟩ = some (.string nm2) ∧ w'.cell? ⟨w.heap.size + 1, 3, none⟩ = some (.string s2) ∧ w'.cell? ⟨w.heap.size + 1, 4, none⟩ = some (.bool false) ∧ w'.cell? ⟨w.heap.size + 1, 5, none⟩ = some (.int .i64 x2) ∧ Below w.heap.size w w' ∧ w.heap.size < w'.heap.size ∧ w.heap.size + 1 < w'.heap.size) (first | exact Two.step (by assumption : Two k m nm s false x k2 m2 nm2 s2 x2 w _) hb3 | exact Two.step hStart (Below.refl _ _).drew | go_keep)
              (first
                | (go_at_call_of 50 (Value.agg #[.int .i64 k, .int .i64 m, .string nm, .string s, .bool false, .int .i64 x]); refine (refAt_any _ _ _ _ _ _ _ _ HF1.out (by omega) (by omega) (by omega) (by omega) (by omega)).mono ?_; rintro e3 w3 ⟨rfl, hb3⟩)
                | (go_at_call 50; refine (refAt_any _ _ _ _ _ _ _ _ HF2.out (by omega) (by omega) (by omega) (by omega) (by omega)).mono ?_; rintro e3 w3 ⟨rfl, hb3⟩))
            go_wp2_with fail
            go_meet
            exact ⟨rfl, rfl, Lib.hid (show Two k m nm s false x k2 m2 nm2 s2 x2 w _ from by assumption)⟩
          case rest =>
            obtain ⟨rfl, rfl, HW2⟩ := hcut
            obtain ⟨d1, d2, d3⟩ := HD.out p hpt HE.out
            have D1 := Lib.hid d1
            have D2 := Lib.hid d2
            clear d1 d2 d3 n0 n1 n2 n3 n4 n5 o0 o1 o2 o3 o4 o5
            rcases Nat.lt_trichotomy (digAt s.data.toList x p) (digAt s2.data.toList x2 p) with hd | hd | hd
            · have HV := Lib.hid (D1.out hd)
              generalize digAt s.data.toList x p = da at *
              generalize digAt s2.data.toList x2 p = db at *
              go_wp2_with fail
              go_ret
              exact cmpEnd_of HV.out HW2.out.low
            · have HE2 : Hid (∀ q, p - 1 < q → q ≤ max ((s.size : Int) + x) (s2.size + x2) → digAt s.data.toList x q = digAt s2.data.toList x2 q) := Lib.hid (fun q h1 h2 => by
                by_cases hq : q = p
                · rw [hq]; exact hd
                · exact HE.out q (by omega) h2)
              rw [hd]
              clear hd D1 D2
              generalize digAt s2.data.toList x2 p = db
              go_wp2_with fail
              go_roundg ((p - 1 + 3000).toNat)
              case rel => exact ⟨p - 1, rfl, by omega, by omega, rfl, HE2, HW2⟩
              case measure => omega
            · have HV := Lib.hid (D2.out hd)
              generalize digAt s.data.toList x p = da at *
              generalize digAt s2.data.toList x2 p = db at *
              go_wp2_with fail
              go_ret
              exact cmpEnd_of HV.out HW2.out.low
        · have hdp : decide (min x x2 ≤ p) = false := by simp; omega
          have HV : Hid (cc = 0) := Lib.hid ((HD.out (min x x2) (by omega) (fun q h1 h2 => HE.out q (by omega) h2)).2.2 (HE.out _ (by omega) (by omega)) (by omega) (by omega))
          go_wp2_with fail
          go_ret
          exact cmpEnd_of HV.out hBw
    · have HS := Lib.hid (Two.start k m nm s true x k2 m2 nm2 s2 x2 w)
      go_enter Try.func29, Try.ntmps29
      go_wp2_with fail
      go_loopg [7, 8, 9] ((max ((s.size : Int) + x) (s2.size + x2) + 3000).toNat) (fun n v _ _ wr => ∃ p : Int, v = .int .i64 p ∧ p ≤ max ((s.size : Int) + x) (s2.size + x2) ∧ min x x2 - 1 ≤ p ∧ n = (p + 3000).toNat ∧ Hid (∀ q, p < q → q ≤ max ((s.size : Int) + x) (s2.size + x2) → digAt s.data.toList x q = digAt s2.data.toList x2 q) ∧ Hid (Two k m nm s true x k2 m2 nm2 s2 x2 w wr))
      case atStart => exact ⟨_, rfl, Int.le_refl _, by omega, rfl, Lib.hid (fun q h1 h2 => by omega), HS⟩
      case round =>
        obtain ⟨p, rfl, hpt, hpm, rfl, HE, HW⟩ := hrel
        obtain ⟨n0, n1, n2, n3, n4, n5, o0, o1, o2, o3, o4, o5, hBw, u1, u2⟩ := HW.out
        by_cases hge : min x x2 ≤ p
        · have hdp : decide (min x x2 ≤ p) = true := by simpa using hge
          go_upto_region 10 with fail
          go_cut [8, 9] (fun s8 s9 wx => s8 = .int .i64 (digAt s.data.toList x p) ∧ s9 = .int .i64 (digAt s2.data.toList x2 p) ∧ Hid (Two k m nm s true x k2 m2 nm2 s2 x2 w wx))
          case first =>
            have hStart : Two k m nm s true x k2 m2 nm2 s2 x2 w wr := HW.out
            go_region_held3 (fun w' => w'.cell? ⟨w.heap.size, 0, none⟩ = some (.int .i64 k) ∧ w'.cell? ⟨w.heap.size, 1, none⟩ = some (.int .i64 m) ∧ w'.cell? ⟨w.heap.size, 2, none⟩ = some (.string nm) ∧ w'.cell? ⟨w.heap.size, 3, none⟩ = some (.string s) ∧ w'.cell? ⟨w.heap.size, 4, none⟩ = some (.bool true) ∧ w'.cell? ⟨w.heap.size, 5, none⟩ = some (.int .i64 x) ∧ w'.cell? ⟨w.heap.size + 1, 0, none⟩ = some (.int .i64 k2) ∧ w'.cell? ⟨w.heap.size + 1, 1, none⟩ = some (.int .i64 m2) ∧ w'.cell? ⟨w.heap.size + 1, 2, none⟩ = some (.string nm2) ∧ w'.cell? ⟨w.heap.size + 1, 3, none⟩ = some (.string s2) ∧ w'.cell? ⟨w.heap.size + 1, 4, none⟩ = some (.bool true) ∧ w'.cell? ⟨w.heap.size + 1, 5, none⟩ = some (.int .i64 x2) ∧ Below w.heap.size w w' ∧ w.heap.size < w'.heap.size ∧ w.heap.size + 1 < w'.heap.size) (first | exact Two.step (by assumption : Two k m nm s true x k2 m2 nm2 s2 x2 w _) hb3 | exact Two.step hStart (Below.refl _ _).drew | go_keep)
              (first
                | (go_at_call_of 50 (Value.agg #[.int .i64 k, .int .i64 m, .string nm, .string s, .bool true, .int .i64 x]); refine (refAt_any _ _ _ _ _ _ _ _ HF1.out (by omega) (by omega) (by omega) (by omega) (by omega)).mono ?_; rintro e3 w3 ⟨rfl, hb3⟩)
                | (go_at_call 50; refine (refAt_any _ _ _ _ _ _ _ _ HF2.out (by omega) (by omega) (by omega) (by omega) (by omega)).mono ?_; rintro e3 w3 ⟨rfl, hb3⟩))
            go_wp2_with fail
            go_meet
            exact ⟨rfl, rfl, Lib.hid (show Two k m nm s true x k2 m2 nm2 s2 x2 w _ from by assumption)⟩
          case rest =>
            obtain ⟨rfl, rfl, HW2⟩ := hcut
            obtain ⟨d1, d2, d3⟩ := HD.out p hpt HE.out
            have D1 := Lib.hid d1
            have D2 := Lib.hid d2
            clear d1 d2 d3 n0 n1 n2 n3 n4 n5 o0 o1 o2 o3 o4 o5
            rcases Nat.lt_trichotomy (digAt s.data.toList x p) (digAt s2.data.toList x2 p) with hd | hd | hd
            · have HV := Lib.hid (D1.out hd)
              generalize digAt s.data.toList x p = da at *
              generalize digAt s2.data.toList x2 p = db at *
              go_wp2_with fail
              go_ret
              exact cmpEnd_of HV.out HW2.out.low
            · have HE2 : Hid (∀ q, p - 1 < q → q ≤ max ((s.size : Int) + x) (s2.size + x2) → digAt s.data.toList x q = digAt s2.data.toList x2 q) := Lib.hid (fun q h1 h2 => by
                by_cases hq : q = p
                · rw [hq]; exact hd
                · exact HE.out q (by omega) h2)
              rw [hd]
              clear hd D1 D2
              generalize digAt s2.data.toList x2 p = db
              go_wp2_with fail
              go_roundg ((p - 1 + 3000).toNat)
              case rel => exact ⟨p - 1, rfl, by omega, by omega, rfl, HE2, HW2⟩
              case measure => omega
            · have HV := Lib.hid (D2.out hd)
              generalize digAt s.data.toList x p = da at *
              generalize digAt s2.data.toList x2 p = db at *
              go_wp2_with fail
              go_ret
              exact cmpEnd_of HV.out HW2.out.low
        · have hdp : decide (min x x2 ≤ p) = false := by simp; omega
          have HV : Hid (cc = 0) := Lib.hid ((HD.out (min x x2) (by omega) (fun q h1 h2 => HE.out q (by omega) h2)).2.2 (HE.out _ (by omega) (by omega)) (by omega) (by omega))
          go_wp2_with fail
          go_ret
          exact cmpEnd_of HV.out hBw
  · have HV := Lib.hid (cmp_sides HR.out HR2.out hg)
    cases g <;> cases g2
    · exact absurd rfl hg
    · go_enter Try.func29, Try.ntmps29
      go_wp2_with fail
      go_ret
      exact cmpEnd_of HV.out hB2
    · go_enter Try.func29, Try.ntmps29
      go_wp2_with fail
      go_ret
      exact cmpEnd_of HV.out hB2
    · exact absurd rfl hg

end Go.Proofs.Ytbffeffplabaeaa

/-
  What the document's own Cmp is.
-/
namespace Go.Proofs.Ytbffeffplabaeaa
open Go.RowKit Np Rw Vp Ov

theorem refSign_quiet (l s : Bool) (w : World) : Calls Try.prog 28 #[.bool l, .bool s] w fun e w' => e = .returned (.int .i64 (sgB l s)) ∧ ∃ m, w' = w.drewN m :=
  (refSign_any l s w).mono fun _ _ ⟨he, hw⟩ => ⟨he, 0, hw⟩
theorem cmpTs_nmd : ∀ ts us : List (Tr Nd), cmpTs (ts.map (nmd [])) (us.map (nmd [])) = cmpTs ts us
  | [], [] => rfl
  | [], u :: us => by simp
  | t :: ts, [] => by simp
  | t :: ts, u :: us => by simp only [List.map_cons]; rw [cmpTs_cons, cmpTs_cons, cmpT_nmd, cmpTs_nmd ts us]

theorem ks_le (t : Tr Nd) : t.ks.length ≤ (flat t).length := by
  have := flats_len t.ks
  rw [flat_eq, List.length_cons]; omega
theorem names_le (t : Tr Nd) : (namesT t).length ≤ (flat t).length := by
  have := ks_le t
  unfold namesT
  split
  · rw [List.length_map]; exact this
  · simp
theorem num_right {t : Tr Nd} (ht : Val t) (h : t.nd.kind = 3) : right ⟨3, t.nd.many, [], t.nd.s, t.nd.neg, t.nd.e⟩ = true := by
  have h1 := ht.plain
  unfold plainN at h1
  rw [if_neg (by omega), if_pos h] at h1
  rw [← h]
  exact h1
theorem NodeAt.unname {B : Nat} {n : Nd} {w : World} (h : NodeAt B n w) : NodeAt B { n with name := [] } (w.setCell ⟨B, 2, none⟩ (.string ⟨#[]⟩)) := by
  unfold NodeAt at *; simp [World.setCell, Array.getElem?_modify, h]
theorem two_new (W : World) (n : Nat) (hn : W.heap.size = n) (x y : Nd) : NodeAt n x (fillN (n + 1) y (fillN n x ((W.alloc (.cells #[.int .i64 0, .int .i64 0, .string ⟨#[]⟩, .string ⟨#[]⟩, .bool false, .int .i64 0] 38)).alloc (.cells #[.int .i64 0, .int .i64 0, .string ⟨#[]⟩, .string ⟨#[]⟩, .bool false, .int .i64 0] 38))))
    ∧ NodeAt (n + 1) y (fillN (n + 1) y (fillN n x ((W.alloc (.cells #[.int .i64 0, .int .i64 0, .string ⟨#[]⟩, .string ⟨#[]⟩, .bool false, .int .i64 0] 38)).alloc (.cells #[.int .i64 0, .int .i64 0, .string ⟨#[]⟩, .string ⟨#[]⟩, .bool false, .int .i64 0] 38))))
    ∧ NodeAt (n + 1) x (fillN n y (fillN (n + 1) x ((W.alloc (.cells #[.int .i64 0, .int .i64 0, .string ⟨#[]⟩, .string ⟨#[]⟩, .bool false, .int .i64 0] 38)).alloc (.cells #[.int .i64 0, .int .i64 0, .string ⟨#[]⟩, .string ⟨#[]⟩, .bool false, .int .i64 0] 38))))
    ∧ NodeAt n y (fillN n y (fillN (n + 1) x ((W.alloc (.cells #[.int .i64 0, .int .i64 0, .string ⟨#[]⟩, .string ⟨#[]⟩, .bool false, .int .i64 0] 38)).alloc (.cells #[.int .i64 0, .int .i64 0, .string ⟨#[]⟩, .string ⟨#[]⟩, .bool false, .int .i64 0] 38)))) := by
  subst hn
  have X0 : NodeAt W.heap.size zeroN ((W.alloc (.cells #[.int .i64 0, .int .i64 0, .string ⟨#[]⟩, .string ⟨#[]⟩, .bool false, .int .i64 0] 38)).alloc (.cells #[.int .i64 0, .int .i64 0, .string ⟨#[]⟩, .string ⟨#[]⟩, .bool false, .int .i64 0] 38)) := (Below.heap_alloc _ _ _ (by simp)).trans (alloc_at _ _ rfl)
  have Y0 : NodeAt (W.heap.size + 1) zeroN ((W.alloc (.cells #[.int .i64 0, .int .i64 0, .string ⟨#[]⟩, .string ⟨#[]⟩, .bool false, .int .i64 0] 38)).alloc (.cells #[.int .i64 0, .int .i64 0, .string ⟨#[]⟩, .string ⟨#[]⟩, .bool false, .int .i64 0] 38)) := alloc_at _ _ (by simp)
  exact ⟨(X0.fill x).fillO (by omega) y, (Y0.fillO (by omega) x).fill y, (Y0.fill x).fillO (by omega) y, (X0.fillO (by omega) x).fill y⟩
theorem fill_below {D C : Nat} {a w : World} (h : Below D a w) (hp : D ≤ C) (m : Nd) : Below D a (fillN C m w) := (((((h.setCell hp _).setCell hp _).setCell hp _).setCell hp _).setCell hp _).setCell hp _
set_option maxRecDepth 100000 in
set_option maxHeartbeats 4000000 in
theorem refCmpV_of {t u : Tr Nd} (ht : Val t) (hu : Val u) (h1 : (flat t).length ≤ 60000) (h2 : (flat u).length ≤ 60000) (H : ∀ a ∈ t.ks, ∀ b ∈ u.ks, RefQ (nmd [] a) (nmd [] b)) : RefQ t u := by
  intro va vb w ha hb
  have HKS : Hid (∀ x ∈ t.ks.map (nmd []), ∀ y ∈ u.ks.map (nmd []), RefQ x y) := Lib.hid fun x hx y hy => by
    obtain ⟨a, ha, rfl⟩ := List.mem_map.1 hx
    obtain ⟨b, hb, rfl⟩ := List.mem_map.1 hy
    exact H a ha b hb
  have HLN : Hid ((t.ks.map (nmd [])).length ≤ 100000) := Lib.hid (by have := ks_le t; rw [List.length_map]; omega)
  have HLM : Hid ((namesT t).length ≤ 100000 ∧ (namesT u).length ≤ 100000) := Lib.hid (by have := names_le t; have := names_le u; omega)
  have HPa := Lib.hid (fun W hb => refParts_any va t W (ha.below hb) (by omega) ht)
  have HPb := Lib.hid (fun W hb1 => refParts_any vb u W (hb.below hb1) (by omega) hu)
  have HNa := Lib.hid (fun W hb => refNames_any va t W (ha.below hb) (by omega) ht)
  have HNb := Lib.hid (fun W hb1 => refNames_any vb u W (hb.below hb1) (by omega) hu)
  obtain ⟨g, o, c, rfl, hc, hcm, hg, hx⟩ := ha.opened (flat_pos t)
  obtain ⟨g2, o2, c2, rfl, hc2, hcm2, hg2, hx2⟩ := hb.opened (flat_pos u)
  obtain ⟨a0, a1, a2, a3, a4, a5⟩ := (hx 0 t.nd (by rw [flat_eq]; rfl)).nd
  obtain ⟨b0, b1, b2, b3, b4, b5⟩ := (hx2 0 u.nd (by rw [flat_eq]; rfl)).nd
  rw [Nat.zero_mul, Nat.add_zero] at a0 a1 a2 a3 a4 a5 b0 b1 b2 b3 b4 b5
  have hp1 := flat_pos t
  have hp2 := flat_pos u
  have HRn := Lib.hid (fun h => cmpT_kind (t := t) (u := u) h)
  have HRs := Lib.hid (fun h => cmpT_same (t := t) (u := u) h)
  have HK := Lib.hid ht.ok9.kinds
  generalize (flat t).length = N1 at *
  generalize (flat u).length = N2 at *
  go_enter Try.func13, Try.ntmps13
  go_wp2_with fail
  go_quiet (fail)
  by_cases hk : t.nd.kind = u.nd.kind
  · have hR := HRs.out hk
    rw [← hk] at b0 ⊢
    rcases HK.out with h | h | h | h | h | h | h
    · have HC : Hid (cmpT t u = 0) := Lib.hid (by rw [hR]; simp [h])
      rw [h] at a0 b0 ⊢
      go_wp2_with fail
      go_ret
      exact ⟨ret_i64 HC.out.symm, below_quiet ⟨nq, rfl⟩⟩
    · have HC : Hid (cmpT t u = 0) := Lib.hid (by rw [hR]; simp [h])
      rw [h] at a0 b0 ⊢
      go_wp2_with fail
      go_ret
      exact ⟨ret_i64 HC.out.symm, below_quiet ⟨nq, rfl⟩⟩
    · have HC : Hid (cmpT t u = 0) := Lib.hid (by rw [hR]; simp [h])
      rw [h] at a0 b0 ⊢
      go_wp2_with fail
      go_ret
      exact ⟨ret_i64 HC.out.symm, below_quiet ⟨nq, rfl⟩⟩
    · have HC : Hid (cmpT t u = cmpN t.nd.s t.nd.neg t.nd.e u.nd.s u.nd.neg u.nd.e) := Lib.hid (by rw [hR, if_pos h])
      have HRT := Lib.hid (num_right ht h)
      have HRU := Lib.hid (num_right hu (hk ▸ h))
      rw [h] at a0 b0 ⊢
      clear HRn HRs hR h hk
      generalize t.nd.many = xm at *
      generalize t.nd.name = xn at *
      generalize t.nd.s = xs at *
      generalize t.nd.neg = xg at *
      generalize t.nd.e = xe at *
      generalize u.nd.many = ym at *
      generalize u.nd.name = yn at *
      generalize u.nd.s = ys at *
      generalize u.nd.neg = yg at *
      generalize u.nd.e = ye at *
      go_upto_region 6 with fail
      have HKP : Hid (∀ W, Below w.heap.size w W → W.cell? ⟨g, o, none⟩ = some (.int .i64 3) ∧ W.cell? ⟨g, o + 1, none⟩ = some (.int .i64 xm) ∧ W.cell? ⟨g, o + 2, none⟩ = some (.string ⟨xn.toArray⟩) ∧ W.cell? ⟨g, o + 3, none⟩ = some (.string ⟨xs.toArray⟩) ∧ W.cell? ⟨g, o + 4, none⟩ = some (.bool xg) ∧ W.cell? ⟨g, o + 5, none⟩ = some (.int .i64 xe) ∧ W.cell? ⟨g2, o2, none⟩ = some (.int .i64 3) ∧ W.cell? ⟨g2, o2 + 1, none⟩ = some (.int .i64 ym) ∧ W.cell? ⟨g2, o2 + 2, none⟩ = some (.string ⟨yn.toArray⟩) ∧ W.cell? ⟨g2, o2 + 3, none⟩ = some (.string ⟨ys.toArray⟩) ∧ W.cell? ⟨g2, o2 + 4, none⟩ = some (.bool yg) ∧ W.cell? ⟨g2, o2 + 5, none⟩ = some (.int .i64 ye) ∧ Below w.heap.size w W) := Lib.hid fun W hb => ⟨(hb.cell (p := ⟨g, o, none⟩) hg).trans a0, (hb.cell (p := ⟨g, o + 1, none⟩) hg).trans a1, (hb.cell (p := ⟨g, o + 2, none⟩) hg).trans a2, (hb.cell (p := ⟨g, o + 3, none⟩) hg).trans a3, (hb.cell (p := ⟨g, o + 4, none⟩) hg).trans a4, (hb.cell (p := ⟨g, o + 5, none⟩) hg).trans a5, (hb.cell (p := ⟨g2, o2, none⟩) hg2).trans b0, (hb.cell (p := ⟨g2, o2 + 1, none⟩) hg2).trans b1, (hb.cell (p := ⟨g2, o2 + 2, none⟩) hg2).trans b2, (hb.cell (p := ⟨g2, o2 + 3, none⟩) hg2).trans b3, (hb.cell (p := ⟨g2, o2 + 4, none⟩) hg2).trans b4, (hb.cell (p := ⟨g2, o2 + 5, none⟩) hg2).trans b5, hb⟩
      have HBd : Hid (Below w.heap.size w (w.drewN nq)) := Lib.hid (below_quiet ⟨nq, rfl⟩)
      go_cut [7, 8] (fun s7 s8 wx => ∃ B C, s7 = .pointer (some ⟨B, 0, none⟩) ∧ s8 = .pointer (some ⟨C, 0, none⟩) ∧ w.heap.size ≤ B ∧ w.heap.size ≤ C ∧ B ≠ C ∧ Hid (NodeAt B ⟨3, xm, xn, xs, xg, xe⟩ wx ∧ NodeAt C ⟨3, ym, yn, ys, yg, ye⟩ wx ∧ Below w.heap.size w wx))
      case first =>
        refine wp_region_held_drew (S := (fun W => W.cell? ⟨g, o, none⟩ = some (.int .i64 3) ∧ W.cell? ⟨g, o + 1, none⟩ = some (.int .i64 xm) ∧ W.cell? ⟨g, o + 2, none⟩ = some (.string ⟨xn.toArray⟩) ∧ W.cell? ⟨g, o + 3, none⟩ = some (.string ⟨xs.toArray⟩) ∧ W.cell? ⟨g, o + 4, none⟩ = some (.bool xg) ∧ W.cell? ⟨g, o + 5, none⟩ = some (.int .i64 xe) ∧ W.cell? ⟨g2, o2, none⟩ = some (.int .i64 3) ∧ W.cell? ⟨g2, o2 + 1, none⟩ = some (.int .i64 ym) ∧ W.cell? ⟨g2, o2 + 2, none⟩ = some (.string ⟨yn.toArray⟩) ∧ W.cell? ⟨g2, o2 + 3, none⟩ = some (.string ⟨ys.toArray⟩) ∧ W.cell? ⟨g2, o2 + 4, none⟩ = some (.bool yg) ∧ W.cell? ⟨g2, o2 + 5, none⟩ = some (.int .i64 ye) ∧ Below w.heap.size w W)) (by kernel_rfl) (HKP.out _ HBd.out.drew) (fun hH => ?_)
        refine wpAnyH_take (i := 0) (v := .slice (some ⟨g, o, none⟩) N1 c) rfl (by kernel_rfl) (by kernel_rfl) (by kernel_rfl) (fun _ _ _ h => h) (Or.inl ⟨by kernel_rfl, ?_⟩) (by assumption) ?_
        · intro w' hSw; (try dsimp only at hSw); go_simp
        try simp only [Act.put, List.getElem_toArray, List.getElem_cons_zero, List.setIfInBounds_toArray, List.set_cons_zero, List.set_cons_succ]
        refine wpAnyH_take (i := 1) (v := .pointer (some ⟨g, o, none⟩)) rfl (by kernel_rfl) (by kernel_rfl) (by kernel_rfl) (fun _ _ _ h => h) (Or.inl ⟨by kernel_rfl, ?_⟩) (by assumption) ?_
        · intro w' hSw; (try dsimp only at hSw); go_simp
        try simp only [Act.put, List.getElem_toArray, List.getElem_cons_succ, List.getElem_cons_zero, List.setIfInBounds_toArray, List.set_cons_zero, List.set_cons_succ]
        refine wpAnyH_take (i := 2) (v := .agg #[.int .i64 3, .int .i64 xm, .string ⟨xn.toArray⟩, .string ⟨xs.toArray⟩, .bool xg, .int .i64 xe]) rfl (by kernel_rfl) (by kernel_rfl) (by kernel_rfl) (fun _ _ _ h => h) (Or.inl ⟨by kernel_rfl, ?_⟩) (by assumption) ?_
        · intro w' hSw; (try dsimp only at hSw); go_simp
        try simp only [Act.put, List.getElem_toArray, List.getElem_cons_succ, List.getElem_cons_zero, List.setIfInBounds_toArray, List.set_cons_zero, List.set_cons_succ]
        refine wpAnyH_take (i := 3) (v := .slice (some ⟨g2, o2, none⟩) N2 c2) rfl (by kernel_rfl) (by kernel_rfl) (by kernel_rfl) (fun _ _ _ h => h) (Or.inl ⟨by kernel_rfl, ?_⟩) (by assumption) ?_
        · intro w' hSw; (try dsimp only at hSw); go_simp
        try simp only [Act.put, List.getElem_toArray, List.getElem_cons_succ, List.getElem_cons_zero, List.setIfInBounds_toArray, List.set_cons_zero, List.set_cons_succ]
        refine wpAnyH_take (i := 4) (v := .pointer (some ⟨g2, o2, none⟩)) rfl (by kernel_rfl) (by kernel_rfl) (by kernel_rfl) (fun _ _ _ h => h) (Or.inl ⟨by kernel_rfl, ?_⟩) (by assumption) ?_
        · intro w' hSw; (try dsimp only at hSw); go_simp
        try simp only [Act.put, List.getElem_toArray, List.getElem_cons_succ, List.getElem_cons_zero, List.setIfInBounds_toArray, List.set_cons_zero, List.set_cons_succ]
        refine wpAnyH_take (i := 5) (v := .agg #[.int .i64 3, .int .i64 ym, .string ⟨yn.toArray⟩, .string ⟨ys.toArray⟩, .bool yg, .int .i64 ye]) rfl (by kernel_rfl) (by kernel_rfl) (by kernel_rfl) (fun _ _ _ h => h) (Or.inl ⟨by kernel_rfl, ?_⟩) (by assumption) ?_
        · intro w' hSw; (try dsimp only at hSw); go_simp
        try simp only [Act.put, List.getElem_toArray, List.getElem_cons_succ, List.getElem_cons_zero, List.setIfInBounds_toArray, List.set_cons_zero, List.set_cons_succ]
        have hA1 : Hid (Below w.heap.size w ((w.drewN (nq + 1)).alloc (.cells #[.int .i64 0, .int .i64 0, .string ⟨#[]⟩, .string ⟨#[]⟩, .bool false, .int .i64 0] 38))) := Lib.hid (HBd.out.drew.alloc (Nat.le_refl _) _)
        have hA2 : Hid (Below w.heap.size w (((w.drewN (nq + 1)).alloc (.cells #[.int .i64 0, .int .i64 0, .string ⟨#[]⟩, .string ⟨#[]⟩, .bool false, .int .i64 0] 38)).alloc (.cells #[.int .i64 0, .int .i64 0, .string ⟨#[]⟩, .string ⟨#[]⟩, .bool false, .int .i64 0] 38))) := Lib.hid (hA1.out.alloc (by simp) _)
        have zA : Hid (NodeAt w.heap.size zeroN (((w.drewN (nq + 1)).alloc (.cells #[.int .i64 0, .int .i64 0, .string ⟨#[]⟩, .string ⟨#[]⟩, .bool false, .int .i64 0] 38)).alloc (.cells #[.int .i64 0, .int .i64 0, .string ⟨#[]⟩, .string ⟨#[]⟩, .bool false, .int .i64 0] 38))) := Lib.hid ((Below.heap_alloc _ _ _ (by simp)).trans (alloc_at _ _ rfl))
        have zB : Hid (NodeAt (w.heap.size + 1) zeroN (((w.drewN (nq + 1)).alloc (.cells #[.int .i64 0, .int .i64 0, .string ⟨#[]⟩, .string ⟨#[]⟩, .bool false, .int .i64 0] 38)).alloc (.cells #[.int .i64 0, .int .i64 0, .string ⟨#[]⟩, .string ⟨#[]⟩, .bool false, .int .i64 0] 38))) := Lib.hid (alloc_at _ _ (by simp))
        refine wpAnyH_ready (rs := [6, 7]) (by kernel_rfl) (by simp) ?_
        refine AllReadyH.cons rfl (fun K hK => ?_) (AllReadyH.cons rfl (fun K hK => ?_) AllReadyH.nil)
        · go_simp
          refine hK.out _ _ (HKP.out _ hA1.out) (fun hHeld1 => ?_)
          clear hK K
          try simp only [Act.put, List.getElem_toArray, List.getElem_cons_succ, List.getElem_cons_zero, List.setIfInBounds_toArray, List.set_cons_zero, List.set_cons_succ]
          refine wpAnyH_ready (rs := [7]) (by kernel_rfl) (by simp) ?_
          refine AllReadyH.cons rfl (fun K hK => ?_) AllReadyH.nil
          go_simp
          refine hK.out _ _ (HKP.out _ hA2.out) (fun hHeld2 => ?_)
          clear hK K
          try simp only [Act.put, List.getElem_toArray, List.getElem_cons_succ, List.getElem_cons_zero, List.setIfInBounds_toArray, List.set_cons_zero, List.set_cons_succ]
          clear hHeld1 hHeld2 hA1
          generalize ((w.drewN (nq + 1)).alloc (.cells #[.int .i64 0, .int .i64 0, .string ⟨#[]⟩, .string ⟨#[]⟩, .bool false, .int .i64 0] 38)).alloc (.cells #[.int .i64 0, .int .i64 0, .string ⟨#[]⟩, .string ⟨#[]⟩, .bool false, .int .i64 0] 38) = W2 at *
          have zX : NodeAt w.heap.size zeroN W2 := zA.out
          have zY : NodeAt (w.heap.size + 1) zeroN W2 := zB.out
          obtain ⟨x0, x1, x2, x3, x4, x5⟩ := zX.nd
          simp only [Nat.zero_add] at x1 x2 x3 x4 x5
          have fx := zX.fz
          have zX2 := zX.fill ⟨3, xm, xn, xs, xg, xe⟩
          have zY2 := zY.fillO (C := w.heap.size) (by omega) ⟨3, xm, xn, xs, xg, xe⟩
          have hb2 := fill_below hA2.out (C := w.heap.size) (by omega) ⟨3, xm, xn, xs, xg, xe⟩
          unfold fillN at zX2 zY2 hb2
          refine wpAnyH_ready (rs := [8]) (by kernel_rfl) (by simp) ?_
          refine AllReadyH.cons rfl (fun K hK => ?_) AllReadyH.nil
          go_simp
          refine hK.out _ _ (HKP.out _ hb2) (fun hHeld3 => ?_)
          clear hK K hHeld3 x0 x1 x2 x3 x4 x5 fx zX zY zA zB hA2
          try simp only [Act.put, List.getElem_toArray, List.getElem_cons_succ, List.getElem_cons_zero, List.setIfInBounds_toArray, List.set_cons_zero, List.set_cons_succ]
          generalize (((((World.setCell _ ⟨w.heap.size, 0, none⟩ _).setCell _ _).setCell _ _).setCell _ _).setCell _ _).setCell _ _ = W3 at *
          obtain ⟨x0, x1, x2, x3, x4, x5⟩ := zY2.nd
          simp only [Nat.zero_add] at x1 x2 x3 x4 x5
          have fx := zY2.fz
          have zX3 := zX2.fillO (C := (w.heap.size + 1)) (by omega) ⟨3, ym, yn, ys, yg, ye⟩
          have zY3 := zY2.fill ⟨3, ym, yn, ys, yg, ye⟩
          have hb3 := fill_below hb2 (C := (w.heap.size + 1)) (by omega) ⟨3, ym, yn, ys, yg, ye⟩
          unfold fillN at zX3 zY3 hb3
          refine wpAnyH_ready (rs := [9]) (by kernel_rfl) (by simp) ?_
          refine AllReadyH.cons rfl (fun K hK => ?_) AllReadyH.nil
          go_simp
          refine hK.out _ _ (HKP.out _ hb3) (fun hHeld4 => ?_)
          clear hK K hHeld4 x0 x1 x2 x3 x4 x5 fx
          try simp only [Act.put, List.getElem_toArray, List.getElem_cons_succ, List.getElem_cons_zero, List.setIfInBounds_toArray, List.set_cons_zero, List.set_cons_succ]
          generalize (((((World.setCell _ ⟨(w.heap.size + 1), 0, none⟩ _).setCell _ _).setCell _ _).setCell _ _).setCell _ _).setCell _ _ = W4 at *
          refine wpAnyH_done (by kernel_rfl) ?_ _
          go_wp2_with fail
          go_meet
          exact ⟨w.heap.size, (w.heap.size + 1), rfl, rfl, by omega, by omega, by omega, Lib.hid ⟨zX3, zY3, hb3⟩⟩
        · go_simp
          refine hK.out _ _ (HKP.out _ hA1.out) (fun hHeld1 => ?_)
          clear hK K
          try simp only [Act.put, List.getElem_toArray, List.getElem_cons_succ, List.getElem_cons_zero, List.setIfInBounds_toArray, List.set_cons_zero, List.set_cons_succ]
          refine wpAnyH_ready (rs := [6]) (by kernel_rfl) (by simp) ?_
          refine AllReadyH.cons rfl (fun K hK => ?_) AllReadyH.nil
          go_simp
          refine hK.out _ _ (HKP.out _ hA2.out) (fun hHeld2 => ?_)
          clear hK K
          try simp only [Act.put, List.getElem_toArray, List.getElem_cons_succ, List.getElem_cons_zero, List.setIfInBounds_toArray, List.set_cons_zero, List.set_cons_succ]
          clear hHeld1 hHeld2 hA1
          generalize ((w.drewN (nq + 1)).alloc (.cells #[.int .i64 0, .int .i64 0, .string ⟨#[]⟩, .string ⟨#[]⟩, .bool false, .int .i64 0] 38)).alloc (.cells #[.int .i64 0, .int .i64 0, .string ⟨#[]⟩, .string ⟨#[]⟩, .bool false, .int .i64 0] 38) = W2 at *
          have zX : NodeAt (w.heap.size + 1) zeroN W2 := zB.out
          have zY : NodeAt w.heap.size zeroN W2 := zA.out
          obtain ⟨x0, x1, x2, x3, x4, x5⟩ := zX.nd
          simp only [Nat.zero_add] at x1 x2 x3 x4 x5
          have fx := zX.fz
          have zX2 := zX.fill ⟨3, xm, xn, xs, xg, xe⟩
          have zY2 := zY.fillO (C := (w.heap.size + 1)) (by omega) ⟨3, xm, xn, xs, xg, xe⟩
          have hb2 := fill_below hA2.out (C := (w.heap.size + 1)) (by omega) ⟨3, xm, xn, xs, xg, xe⟩
          unfold fillN at zX2 zY2 hb2
          refine wpAnyH_ready (rs := [8]) (by kernel_rfl) (by simp) ?_
          refine AllReadyH.cons rfl (fun K hK => ?_) AllReadyH.nil
          go_simp
          refine hK.out _ _ (HKP.out _ hb2) (fun hHeld3 => ?_)
          clear hK K hHeld3 x0 x1 x2 x3 x4 x5 fx zX zY zA zB hA2
          try simp only [Act.put, List.getElem_toArray, List.getElem_cons_succ, List.getElem_cons_zero, List.setIfInBounds_toArray, List.set_cons_zero, List.set_cons_succ]
          generalize (((((World.setCell _ ⟨(w.heap.size + 1), 0, none⟩ _).setCell _ _).setCell _ _).setCell _ _).setCell _ _).setCell _ _ = W3 at *
          obtain ⟨x0, x1, x2, x3, x4, x5⟩ := zY2.nd
          simp only [Nat.zero_add] at x1 x2 x3 x4 x5
          have fx := zY2.fz
          have zX3 := zX2.fillO (C := w.heap.size) (by omega) ⟨3, ym, yn, ys, yg, ye⟩
          have zY3 := zY2.fill ⟨3, ym, yn, ys, yg, ye⟩
          have hb3 := fill_below hb2 (C := w.heap.size) (by omega) ⟨3, ym, yn, ys, yg, ye⟩
          unfold fillN at zX3 zY3 hb3
          refine wpAnyH_ready (rs := [9]) (by kernel_rfl) (by simp) ?_
          refine AllReadyH.cons rfl (fun K hK => ?_) AllReadyH.nil
          go_simp
          refine hK.out _ _ (HKP.out _ hb3) (fun hHeld4 => ?_)
          clear hK K hHeld4 x0 x1 x2 x3 x4 x5 fx
          try simp only [Act.put, List.getElem_toArray, List.getElem_cons_succ, List.getElem_cons_zero, List.setIfInBounds_toArray, List.set_cons_zero, List.set_cons_succ]
          generalize (((((World.setCell _ ⟨w.heap.size, 0, none⟩ _).setCell _ _).setCell _ _).setCell _ _).setCell _ _).setCell _ _ = W4 at *
          refine wpAnyH_done (by kernel_rfl) ?_ _
          go_wp2_with fail
          go_meet
          exact ⟨(w.heap.size + 1), w.heap.size, rfl, rfl, by omega, by omega, by omega, Lib.hid ⟨zX3, zY3, hb3⟩⟩
      case rest =>
        obtain ⟨B, C, rfl, rfl, hB, hC, hne, HN⟩ := hcut
        have fB := HN.out.1.fz 2
        have fC := HN.out.2.1.fz 2
        have hcb := HN.out.1.nd.c2
        have hcc := HN.out.2.1.nd.c2
        rw [Nat.zero_add] at hcb hcc
        have hne2 : ¬ C = B := fun e => hne e.symm
        have n1 := HN.out.1.unname.other (p := ⟨C, 2, none⟩) hne2 (.string ⟨#[]⟩)
        have n2 := (HN.out.2.1.other (p := ⟨B, 2, none⟩) hne (.string ⟨#[]⟩)).unname
        have n3 : Below w.heap.size w ((wc.setCell ⟨B, 2, none⟩ (.string ⟨#[]⟩)).setCell ⟨C, 2, none⟩ (.string ⟨#[]⟩)) := (HN.out.2.2.setCell hB _).setCell hC _
        go_upto_region 9 with fail
        clear fB fC hcb hcc
        generalize (wc.setCell ⟨B, 2, none⟩ (.string ⟨#[]⟩)).setCell ⟨C, 2, none⟩ (.string ⟨#[]⟩) = W9 at n1 n2 n3 ⊢
        have HN3 := Lib.hid n3
        obtain ⟨x0, x1, x2, x3, x4, x5⟩ := n1.nd
        obtain ⟨y0, y1, y2, y3, y4, y5⟩ := n2.nd
        clear n1 n2 n3
        go_wp2_with fail
        refine (refCmp_any 3 xm ⟨#[]⟩ ⟨xs.toArray⟩ xg xe 3 ym ⟨#[]⟩ ⟨ys.toArray⟩ yg ye W9 HRT.out HRU.out).mono ?_
        rintro e w3 ⟨rfl, hb3⟩
        have HB3 : Hid (Below w.heap.size w w3) := Lib.hid (HN3.out.trans (hb3.mono HN3.out.size))
        clear hb3 x0 x1 x2 x3 x4 x5 y0 y1 y2 y3 y4 y5
        go_wp2_with fail
        go_ret
        exact ⟨ret_i64 HC.out.symm, HB3.out⟩
    · have HC : Hid (cmpT t u = sgB (Op.bytesLess t.nd.s u.nd.s) (t.nd.s == u.nd.s)) := Lib.hid (by
        rw [hR, if_neg (by omega), if_pos h, ← sgB_bytes, bytesLess_eq]
        congr 1
        rw [Bool.eq_iff_iff]; simp)
      rw [h] at a0 b0 ⊢
      clear a0 a1 a2 a4 a5 b0 b1 b2 b4 b5 HRn HRs hR h hk
      go_upto_region 11 with fail
      have HBd : Hid (Below w.heap.size w (w.drewN nq)) := Lib.hid (below_quiet ⟨nq, rfl⟩)
      go_region_held3 (fun w' => w'.cell? ⟨g, o + 3, none⟩ = some (.string ⟨t.nd.s.toArray⟩) ∧ w'.cell? ⟨g2, o2 + 3, none⟩ = some (.string ⟨u.nd.s.toArray⟩) ∧ Below w.heap.size w w')
        (first | exact ⟨a3, b3, HBd.out.drew⟩ | go_keep)
        ((go_at_call 28; have HBW : Hid (Below w.heap.size w _) := Lib.hid (by assumption); refine (refSign_any _ _ _).mono ?_; rintro e w3 ⟨rfl, rfl⟩))
      all_goals go_wp2_with fail
      all_goals go_ret
      all_goals exact ⟨ret_i64 HC.out.symm, below_quiet ⟨_, rfl⟩⟩
    · have HC : Hid (cmpT t u = cmpTs (t.ks.map (nmd [])) (u.ks.map (nmd []))) := Lib.hid (by rw [cmpTs_nmd, hR, if_neg (by omega), if_neg (by omega), if_pos h])
      rw [h] at a0 b0 ⊢
      clear a0 a1 a2 a3 a4 a5 b0 b1 b2 b3 b4 b5 HRn HRs hR h hk
      go_wp2_with fail
      refine (HPa.out _ (below_quiet ⟨nq, rfl⟩)).mono ?_
      rintro e w1 ⟨p1, rfl, hp1, hb1⟩
      have HB1 : Hid (Below w.heap.size w w1) := Lib.hid ((below_quiet ⟨nq, rfl⟩ : Below w.heap.size w (w.drewN nq)).trans hb1)
      have HP1 : Hid (Vls w1 p1 ((t.ks.map (nmd [])).map flat)) := Lib.hid (by rw [List.map_map]; exact hp1)
      clear hp1 hb1
      go_wp2_with fail
      refine (HPb.out _ HB1.out).mono ?_
      rintro e w2 ⟨p2, rfl, hp2, hb2⟩
      have HB2 : Hid (Below w.heap.size w w2) := Lib.hid (Below.after HB1.out hb2)
      have HP2 : Hid (Vls w2 p2 ((u.ks.map (nmd [])).map flat)) := Lib.hid (by rw [List.map_map]; exact hp2)
      have HP1' := Lib.hid (HP1.out.below hb2)
      clear hp2 hb2 HP1
      go_wp2_with fail
      refine (refRows_of HKS.out p1 p2 w2 HP1'.out HP2.out HLN.out).mono ?_
      rintro e w3 ⟨rfl, hb3⟩
      have HB3 := Lib.hid (Below.after HB2.out hb3)
      clear hb3
      go_wp2_with fail
      go_ret
      exact ⟨ret_i64 HC.out.symm, HB3.out⟩
    · have HC : Hid (cmpT t u = orI (cmpNm (namesT t) (namesT u)) (cmpTs (t.ks.map (nmd [])) (u.ks.map (nmd [])))) := Lib.hid (by rw [cmpTs_nmd, hR, if_neg (by omega), if_neg (by omega), if_neg (by omega), if_pos h, namesT, namesT, if_pos h, if_pos (hk ▸ h)])
      rw [h] at a0 b0 ⊢
      clear a0 a1 a2 a3 a4 a5 b0 b1 b2 b3 b4 b5 HRn HRs hR h hk
      go_wp2_with fail
      refine (HNa.out _ (below_quiet ⟨nq, rfl⟩)).mono ?_
      rintro e w1 ⟨p1, rfl, hp1, hb1⟩
      have HB1 : Hid (Below w.heap.size w w1) := Lib.hid ((below_quiet ⟨nq, rfl⟩ : Below w.heap.size w (w.drewN nq)).trans hb1)
      have HP1 := Lib.hid hp1
      clear hp1 hb1
      go_wp2_with fail
      refine (HNb.out _ HB1.out).mono ?_
      rintro e w2 ⟨p2, rfl, hp2, hb2⟩
      have HB2 : Hid (Below w.heap.size w w2) := Lib.hid (Below.after HB1.out hb2)
      have HP2 := Lib.hid hp2
      have HP1' := Lib.hid (HP1.out.below hb2)
      clear hp2 hb2 HP1
      go_wp2_with fail
      refine (refNamesCmp_any p1 p2 _ _ w2 HP1'.out HP2.out HLM.out.1 HLM.out.2).mono ?_
      rintro e w3 ⟨rfl, hb3⟩
      have HB3 := Lib.hid (Below.after HB2.out hb3)
      clear hb3
      generalize cmpNm (namesT t) (namesT u) = q at *
      by_cases hq : q = 0
      · subst hq
        rw [orI_z] at HC
        go_wp2_with fail
        refine (HPa.out _ HB3.out).mono ?_
        rintro e w4 ⟨p4, rfl, hp4, hb4⟩
        have HB4 : Hid (Below w.heap.size w w4) := Lib.hid (Below.after HB3.out hb4)
        have HP4 : Hid (Vls w4 p4 ((t.ks.map (nmd [])).map flat)) := Lib.hid (by rw [List.map_map]; exact hp4)
        clear hp4 hb4
        go_wp2_with fail
        refine (HPb.out _ HB4.out).mono ?_
        rintro e w5 ⟨p5, rfl, hp5, hb5⟩
        have HB5 : Hid (Below w.heap.size w w5) := Lib.hid (Below.after HB4.out hb5)
        have HP5 : Hid (Vls w5 p5 ((u.ks.map (nmd [])).map flat)) := Lib.hid (by rw [List.map_map]; exact hp5)
        have HP4' := Lib.hid (HP4.out.below hb5)
        clear hp5 hb5 HP4
        go_wp2_with fail
        refine (refRows_of HKS.out p4 p5 w5 HP4'.out HP5.out HLN.out).mono ?_
        rintro e w6 ⟨rfl, hb6⟩
        have HB6 := Lib.hid (Below.after HB5.out hb6)
        clear hb6
        go_wp2_with fail
        go_ret
        exact ⟨ret_i64 HC.out.symm, HB6.out⟩
      · rw [orI_ne hq] at HC
        have hq2 : (!q == 0) = true := by simpa using hq
        go_wp2_with fail
        go_ret
        exact ⟨ret_i64 HC.out.symm, HB3.out⟩
  · have hR : cmpT t u = sgB (decide (t.nd.kind < u.nd.kind)) false := by
      rw [HRn.out hk, ← sgB_int, decide_eq_false hk]
    have HC := Lib.hid hR
    generalize t.nd.kind = k1 at *
    generalize u.nd.kind = k2 at *
    have hk1 : (k1 == k2) = false := by simpa using hk
    go_wp2_with fail
    go_at_call 28
    refine (refSign_any _ _ _).mono ?_
    rintro e w1 ⟨rfl, rfl⟩
    go_wp2_with fail
    go_ret
    exact ⟨ret_i64 HC.out.symm, below_quiet ⟨nq, rfl⟩⟩
end Go.Proofs.Ytbffeffplabaeaa

/-
  What the document's own Cmp, Rises and Sort are, of right values of any depth.
-/
namespace Go.Proofs.Ytbffeffplabaeaa
open Go.RowKit Np Rw Vp Ov

theorem flat_le_flats {a : Tr Nd} {ts : List (Tr Nd)} (h : a ∈ ts) : (flat a).length ≤ (flats ts).length := by
  induction ts with
  | nil => cases h
  | cons b ts ih =>
    rw [flats_cons, List.length_append]
    rcases List.mem_cons.1 h with rfl | h
    · omega
    · have := ih h; omega
theorem part_val {t a : Tr Nd} (h : Val t) (ha : a ∈ t.ks) : Val (nmd [] a) := by
  obtain ⟨h1, h2⟩ := h.parts a ha
  exact ⟨okT_nmd h1, by rw [rightT_nmd]; exact h2, nmd_name _ _⟩
theorem part_len {t a : Tr Nd} (ha : a ∈ t.ks) : (flat (nmd [] a)).length + 1 ≤ (flat t).length := by
  have h1 := flat_le_flats ha
  rw [flat_nmd_len, flat_eq t, List.length_cons]
  omega
theorem refCmpV_upto : ∀ (n : Nat) (t u : Tr Nd), (flat t).length ≤ n → (flat t).length ≤ 60000 → (flat u).length ≤ 60000 → Val t → Val u → RefQ t u := by
  intro n
  induction n with
  | zero => intro t u h; have := flat_pos t; omega
  | succ n ih =>
    intro t u h h1 h2 ht hu
    refine refCmpV_of ht hu h1 h2 fun a ha b hb => ?_
    have l1 := part_len ha
    have l2 := part_len hb
    exact ih _ _ (by omega) (by omega) (by omega) (part_val ht ha) (part_val hu hb)
theorem refCmpV_any {t u : Tr Nd} (h1 : (flat t).length ≤ 60000) (h2 : (flat u).length ≤ 60000) (ht : Val t) (hu : Val u) : RefQ t u := refCmpV_upto _ t u (Nat.le_refl _) h1 h2 ht hu
/-- Two keys, compared by the document. -/
theorem refCmp_keys {w : World} {v : Value} {ts : List (Tr Nd)} (h : Keys w v ts) {i k : Nat} (hi : i < ts.length) (hk : k < ts.length) (va vb : Value) (W : World) (ha : Nds W va (flat ts[i])) (hb : Nds W vb (flat ts[k])) :
    Calls Try.prog 13 #[va, vb] W fun e w' => e = .returned (.int .i64 (cat ts i k)) ∧ Below W.heap.size W w' := by
  unfold cat
  rw [getD_at hi, getD_at hk]
  have l1 := h.len _ (List.getElem_mem hi)
  have l2 := h.len _ (List.getElem_mem hk)
  exact refCmpV_any (by omega) (by omega) (h.val _ (List.getElem_mem hi)) (h.val _ (List.getElem_mem hk)) va vb W ha hb

set_option maxRecDepth 100000 in
set_option maxHeartbeats 2000000 in
theorem refRises_any (v : Value) (ts : List (Tr Nd)) (w : World) (h : Keys w v ts) (hn : ts.length ≤ 1000) :
    Calls Try.prog 15 #[v] w fun e w' => e = .returned (.bool (rise (cat ts) ts.length)) ∧ Below w.heap.size w w' := by
  have HH := Lib.hid h
  obtain ⟨A, c, hvl⟩ : ∃ (A : Option Addr) (c : Nat), v = .slice A ts.length c := by
    obtain ⟨vs, hl, ⟨A, c, hv, -⟩, -⟩ := h.vls
    rw [List.length_map] at hl
    exact ⟨A, c, by rw [hv, hl]⟩
  clear h
  subst hvl
  generalize hnn : ts.length = n at *
  have HN := Lib.hid hnn
  clear hnn
  go_enter Try.func15, Try.ntmps15
  go_wp2_with fail
  go_loopw [3] (fun iv wr => ∃ z : Nat, z ≤ n + 1 ∧ 1 ≤ z ∧ iv = .int .i64 z ∧ Hid (∀ p : Nat, p + 1 < z → p + 1 < n → cat ts p (p + 1) ≤ 0) ∧ Hid (Below w.heap.size w wr)) (fun iv _ => n + 1 - (intOf iv).toNat)
  case atStart => exact ⟨1, by omega, by omega, rfl, Lib.hid (fun p h1 h2 => by omega), Lib.hid (Below.refl _ _)⟩
  case round =>
    obtain ⟨m1, hz1, hz2, rfl, HP, HB⟩ := hrel
    by_cases hgo : m1 < n
    · obtain ⟨m, hmm⟩ : ∃ m : Nat, m + 1 = m1 := ⟨m1 - 1, by omega⟩
      have hm1 : m1 < n := hgo
      have hm0 : m < n := by omega
      obtain ⟨g, o, c1, A1, n1, d1, hv, hg, h1, h2, -⟩ := HH.out.at (i := m1) (by rw [HN.out]; exact hm1)
      obtain ⟨g', o', c2, A2, n2, d2, hv', -, h3, h4, -⟩ := HH.out.at (i := m) (by rw [HN.out]; omega)
      rw [HN.out] at hv hv'
      injection hv with e1 e2 e3
      subst e1 e3
      injection hv' with e1 e4 e3
      injection e1 with e1
      injection e1 with e5 e6 e7
      subst e5 e6 e3
      have HC : Hid (∀ W, Below w.heap.size w W → Calls Try.prog 13 #[.slice A1 n1 d1, .slice A2 n2 d2] W fun e w' => e = .returned (.int .i64 (cat ts m1 m)) ∧ Below W.heap.size W w') := Lib.hid fun W hb => refCmp_keys HH.out (by rw [HN.out]; exact hm1) (by rw [HN.out]; omega) _ _ W (h2.below hb) (h4.below hb)
      have HNG : Hid (cat ts m (m + 1) = -cat ts m1 m) := Lib.hid (by rw [← hmm]; exact (cat_cp ts).neg _ _)
      have p1 := (HB.out.cell (p := ⟨g, o + m1, none⟩) hg).trans h1
      have p2 := (HB.out.cell (p := ⟨g, o + m, none⟩) hg).trans h3
      clear h1 h2 h3 h4 e2 e4 e7
      have hz3 : (m1 : Int) - 1 = (m : Int) := by omega
      have hw4 : IntKind.i64.wrap (m : Int) = (m : Int) := by rw [IntKind.wrap_i64]; omega
      have hw3 : IntKind.i64.wrap ((m1 : Int) - 1) = (m : Int) := by rw [IntKind.wrap_i64]; omega
      generalize hq : cat ts m1 m = q at *
      have HQ := Lib.hid hq
      clear hq
      have HMM := Lib.hid hmm
      clear hmm
      go_upto_region 4 with fail
      by_cases hq0 : q < 0
      · go_region_with (first | (go_at_call 13; refine (HC.out _ (HB.out.drew)).mono ?_; rintro e w1 ⟨rfl, hb1⟩))
        all_goals go_wp2_with fail
        all_goals go_ret
        all_goals
          have hR : rise (cat ts) n = false := by
            rw [← Bool.not_eq_true, rise_iff]
            intro h
            have := h m (by have := HMM.out; omega)
            have h2 := HNG.out
            omega
          exact ⟨ret_bool hR.symm, HB.out.trans (((Below.refl _ wr).drew.trans hb1).mono HB.out.size)⟩
      · go_region_with (first | (go_at_call 13; refine (HC.out _ (HB.out.drew)).mono ?_; rintro e w1 ⟨rfl, hb1⟩))
        all_goals go_wp2_with fail
        all_goals
          refine ⟨⟨m1 + 1, by omega, by omega, by congr 1, Lib.hid (fun p h1 h2 => ?_), Lib.hid (HB.out.trans (((Below.refl _ wr).drew.trans hb1).mono HB.out.size))⟩, ?_⟩
          · by_cases hp : p = m
            · subst hp
              have h3 := HNG.out
              omega
            · exact HP.out p (by have := HMM.out; omega) h2
          · have := HMM.out
            simp [intOf]; omega
    · have hR : rise (cat ts) n = true := (rise_iff _ _).2 fun i hi => HP.out i (by omega) hi
      have HR := Lib.hid hR
      clear hR
      go_wp2_with fail
      go_ret
      exact ⟨ret_bool HR.out.symm, HB.out⟩

/-! Sort. -/
theorem plc_cnt {c : Nat → Nat → Int} (h : Cp c) {n i : Nat} (hi : i < n) : (plc c n)[cnt c n i]? = some i := by
  have hm : i ∈ plc c n := (plc_perm c n).mem_iff.2 (by simpa using hi)
  obtain ⟨j, hj⟩ := List.mem_iff_getElem?.1 hm
  rw [cnt_at h hj]; exact hj
theorem cnt_inj {c : Nat → Nat → Int} (h : Cp c) {n i k : Nat} (hi : i < n) (hk : k < n) (e : cnt c n i = cnt c n k) : i = k := by
  have h1 := plc_cnt h hi
  rw [e, plc_cnt h hk] at h1
  injection h1 with h1
  exact h1.symm
/-- How many of the first ones stand ahead. -/
def cntU (c : Nat → Nat → Int) (k i : Nat) : Nat := (List.range k).countP fun j => decide (Bf c j i)
theorem cntU_zero (c : Nat → Nat → Int) (i : Nat) : cntU c 0 i = 0 := rfl
theorem cntU_step (c : Nat → Nat → Int) (k i : Nat) : cntU c (k + 1) i = cntU c k i + (if Bf c k i then 1 else 0) := by
  unfold cntU
  rw [List.range_succ, List.countP_append]
  by_cases h : Bf c k i <;> simp [h]
theorem cntU_le (c : Nat → Nat → Int) (k i : Nat) : cntU c k i ≤ k := by
  have := List.countP_le_length (p := fun j => decide (Bf c j i)) (l := List.range k)
  simpa [cntU] using this
/-- The places laid so far. -/
structure SrS (ts : List (Tr Nd)) (n : Nat) (w : World) (i : Nat) (ov : Value) (wr : World) : Prop where
  ow : ∃ L : List Nat, L.length = n ∧ (∀ j, j < i → L[cnt (cat ts) n j]? = some j) ∧ Own inc 1 3 w.heap.size wr ov (L.map Int.ofNat)
  bl : Below w.heap.size w wr
structure SrR (ts : List (Tr Nd)) (n : Nat) (w : World) (ov iv : Value) (wr : World) : Prop where
  ex : ∃ i : Nat, i ≤ n ∧ iv = .int .i64 i ∧ Hid (SrS ts n w i ov wr)
structure CnR (ts : List (Tr Nd)) (n : Nat) (i : Nat) (w : World) (kv nv : Value) (wr : World) : Prop where
  ex : ∃ k q : Nat, k ≤ n ∧ q ≤ k ∧ kv = .int .i64 k ∧ nv = .int .i64 q ∧ Hid (q = cntU (cat ts) k i) ∧ Hid (Below w.heap.size w wr)

set_option maxRecDepth 100000 in
set_option maxHeartbeats 4000000 in
theorem refSort_any (v : Value) (ts : List (Tr Nd)) (w : World) (h : Keys w v ts) (hn : ts.length ≤ 1000) :
    Calls Try.prog 18 #[v] w fun e w' => ∃ (A : Option Addr) (n c : Nat), e = .returned (.slice A n c) ∧ Ins w' (.slice A n c) ((plc (cat ts) ts.length).map Int.ofNat) ∧ Below w.heap.size w w' := by
  have HH := Lib.hid h
  obtain ⟨A, c, hvl⟩ : ∃ (A : Option Addr) (c : Nat), v = .slice A ts.length c := by
    obtain ⟨vs, hl, ⟨A, c, hv, -⟩, -⟩ := h.vls
    rw [List.length_map] at hl
    exact ⟨A, c, by rw [hv, hl]⟩
  clear h
  subst hvl
  generalize hnn : ts.length = n at *
  have HN := Lib.hid hnn
  clear hnn
  have hmk := make_ints n (by omega) w
  go_enter Try.func18, Try.ntmps18
  go_wp2_with fail
  clear hmk
  have HS0 : Hid (SrS ts n w 0 (.slice (some ⟨w.heap.size, 0, none⟩) n n) (w.alloc (.cells (madeCells #[.int .i64 0] n) 3))) := Lib.hid ⟨⟨List.replicate n 0, by simp, fun j hj => by omega, by
    rw [List.map_replicate]
    exact Own.made1 (E := 3) inc_len w (Int.ofNat 0) (.int .i64 0) rfl n (by unfold maxLen; omega) (Nat.le_refl _)⟩, (Below.refl _ _).alloc (Nat.le_refl _) _⟩
  generalize madeCells #[Value.int .i64 0] n = cs at HS0 ⊢
  go_loopw [4] (fun iv wr => SrR ts n w (.slice (some ⟨w.heap.size, 0, none⟩) n n) iv wr) (fun iv _ => n - (intOf iv).toNat)
  case atStart => exact ⟨0, Nat.zero_le _, rfl, HS0⟩
  case round =>
    obtain ⟨i, hi, rfl, HG⟩ := hrel.ex
    by_cases hlt : i < n
    · have HBQ := Lib.hid (Below.refl wr.heap.size wr)
      have HBW := Lib.hid HG.out.bl
      go_wp2_with fail
      rename World => wq
      go_loopw [6, 5] (fun kv nv wr => CnR ts n i wq kv nv wr) (fun kv _ _ => n - (intOf kv).toNat)
      case atStart => exact ⟨0, 0, Nat.zero_le _, Nat.zero_le _, rfl, rfl, Lib.hid (cntU_zero _ _).symm, HBQ⟩
      case round =>
        obtain ⟨k, q, hk, hqk, rfl, rfl, HQ, HW⟩ := hrel.ex
        by_cases hlt2 : k < n
        · obtain ⟨g, o, c1, A1, n1, d1, hv, hg, h1, h2, -⟩ := HH.out.at (i := k) (by rw [HN.out]; exact hlt2)
          obtain ⟨g', o', c2, A2, n2, d2, hv', -, h3, h4, -⟩ := HH.out.at (i := i) (by rw [HN.out]; omega)
          rw [HN.out] at hv hv'
          injection hv with e1 e2 e3
          subst e1 e3
          injection hv' with e1 e4 e3
          injection e1 with e1
          injection e1 with e5 e6 e7
          subst e5 e6 e3
          have hB : Below w.heap.size w wr := HBW.out.trans (HW.out.mono HBW.out.size)
          have HC : Hid (∀ W, Below wr.heap.size wr W → Calls Try.prog 13 #[.slice A1 n1 d1, .slice A2 n2 d2] W fun e w' => e = .returned (.int .i64 (cat ts k i)) ∧ Below W.heap.size W w') := Lib.hid fun W hb => refCmp_keys HH.out (by rw [HN.out]; exact hlt2) (by rw [HN.out]; exact hlt) _ _ W (h2.below (hB.trans (hb.mono hB.size))) (h4.below (hB.trans (hb.mono hB.size)))
          have p1 := (hB.cell (p := ⟨g, o + k, none⟩) hg).trans h1
          have p2 := (hB.cell (p := ⟨g, o + i, none⟩) hg).trans h3
          have HST := Lib.hid (cntU_step (cat ts) k i)
          have HBD : Hid (Bf (cat ts) k i ↔ cat ts k i < 0 ∨ cat ts k i = 0 ∧ k < i) := Lib.hid Iff.rfl
          clear h1 h2 h3 h4 e2 e4 e7 hB
          generalize cat ts k i = x at *
          go_upto_region 9 with fail
          go_cut [7] (fun s7 wx => s7 = .int .i64 x ∧ Hid (Below wr.heap.size wr wx))
          case first =>
            go_region_with (first | (go_at_call 13; refine (HC.out _ ((Below.refl _ wr).drew)).mono ?_; rintro e w1 ⟨rfl, hb1⟩))
            all_goals go_wp2_with fail
            all_goals go_meet
            all_goals exact ⟨rfl, Lib.hid ((Below.refl _ wr).drew.trans hb1)⟩
          case rest =>
            obtain ⟨rfl, HWC⟩ := hcut
            have HW2 : Hid (Below wq.heap.size wq wc) := Lib.hid (HW.out.trans (HWC.out.mono HW.out.size))
            by_cases hbf : x < 0 ∨ x = 0 ∧ k < i
            · have HQ2 : Hid (q + 1 = cntU (cat ts) (k + 1) i) := Lib.hid (by rw [HST.out, if_pos (HBD.out.2 hbf), HQ.out])
              rcases hbf with hx | ⟨rfl, hki⟩
              · go_wp2_with fail
                refine ⟨⟨k + 1, q + 1, by omega, by omega, by congr 1, by congr 1, HQ2, HW2⟩, ?_⟩
                simp [intOf]; omega
              · have hki2 : (k : Int) < (i : Int) := by omega
                go_wp2_with fail
                refine ⟨⟨k + 1, q + 1, by omega, by omega, by congr 1, by congr 1, HQ2, HW2⟩, ?_⟩
                simp [intOf]; omega
            · have HQ2 : Hid (q = cntU (cat ts) (k + 1) i) := Lib.hid (by rw [HST.out, if_neg (fun h => hbf (HBD.out.1 h)), HQ.out, Nat.add_zero])
              have hx : ¬ x < 0 := fun h => hbf (.inl h)
              by_cases hx0 : x = 0
              · have hki : ¬ k < i := fun h => hbf (.inr ⟨hx0, h⟩)
                have hki2 : ¬ (k : Int) < (i : Int) := by omega
                subst hx0
                clear hbf
                go_wp2_with fail
                refine ⟨⟨k + 1, q, by omega, by omega, by congr 1, rfl, HQ2, HW2⟩, ?_⟩
                simp [intOf]; omega
              · have hx1 : (x == 0) = false := by simpa using hx0
                clear hbf
                go_wp2_with fail
                refine ⟨⟨k + 1, q, by omega, by omega, by congr 1, rfl, HQ2, HW2⟩, ?_⟩
                simp [intOf]; omega
        · obtain rfl : k = n := by omega
          have hq : q = cnt (cat ts) k i := HQ.out
          have hql : q < k := by rw [hq]; exact cnt_lt (cat_cp ts) hlt
          obtain ⟨L, hL, hLx, hLo⟩ := HG.out.ow
          have ho : Own inc 1 3 w.heap.size wr (.slice (some ⟨w.heap.size, 0, none⟩) (L.map Int.ofNat).length k) (L.map Int.ofNat) := by
            rw [List.length_map, hL]; exact hLo.below HW.out
          obtain ⟨y, hy⟩ : ∃ y : Int, (L.map Int.ofNat)[q]? = some y := ⟨_, List.getElem?_eq_getElem (by rw [List.length_map, hL]; exact hql)⟩
          have s1 := Own.cell inc_len (j := 0) ho hy rfl
          have s2 := ho.free (q * 1 + 0)
          have s3 := Own.put inc_len (j := 0) (y := (i : Int)) (u := .int .i64 (i : Int)) ho hy (by decide) rfl
          simp only [Nat.mul_one, Nat.add_zero] at s1 s2 s3
          have HN3 : Hid (SrS ts k w (i + 1) (.slice (some ⟨w.heap.size, 0, none⟩) k k) (wr.setCell ⟨w.heap.size, q, none⟩ (.int .i64 (i : Int)))) := Lib.hid (by
            refine ⟨⟨L.set q i, by rw [List.length_set]; exact hL, fun j hj => ?_, ?_⟩, (HBW.out.trans (HW.out.mono HBW.out.size)).setCell (Nat.le_refl _) _⟩
            · by_cases hji : j = i
              · subst hji
                rw [← hq, List.getElem?_set_self (by rw [hL]; exact hql)]
              · have hne : q ≠ cnt (cat ts) k j := fun e => hji (cnt_inj (cat_cp ts) (by omega) hlt (by rw [← e, hq]))
                rw [List.getElem?_set_ne hne]
                exact hLx j (by omega)
            · rw [List.length_map, hL] at s3
              rw [List.map_set]
              exact s3)
          have hq2 : (q : Int) < (k : Int) := by omega
          clear s3 ho hy hL hLx hLo hq HQ
          go_wp2_with fail
          go_roundw
          case rel => exact ⟨i + 1, by omega, by go_num, HN3⟩
          case measure => simp [intOf]; omega
    · obtain rfl : i = n := by omega
      obtain ⟨L, hL, hLx, hLo⟩ := HG.out.ow
      have hLp : L = plc (cat ts) i := plc_of_cnt (cat_cp ts) hL hLx
      have HI : Hid (Ins wr (.slice (some ⟨w.heap.size, 0, none⟩) i i) ((plc (cat ts) i).map Int.ofNat)) := Lib.hid (by rw [← hLp]; exact hLo.row inc_len)
      have HB := Lib.hid HG.out.bl
      clear hLp hLx hLo hL
      go_wp2_with fail
      go_ret
      exact ⟨_, _, _, rfl, HI.out, HB.out⟩
end Go.Proofs.Ytbffeffplabaeaa

/-
  What the document's own Groups are.
-/
namespace Go.Proofs.Ytbffeffplabaeaa
open Go.RowKit Np Rw Vp Ov

theorem Kb.grown2 {B rb : Nat} {a w w' : World} {row : Option Nat} (h : Kb B rb a w) (hg : w.grownBy w' row) (hB : B ≤ w.heap.size) (hr : ∀ k, row = some k → k = rb ∨ B ≤ k) : Kb B rb a w' :=
  h.trans ⟨hg.os, hg.tape, hg.output, hg.size, fun k hk hne => hg.block k (by omega) (fun e => by
    rcases hr k e.symm with h1 | h1
    · exact hne h1
    · omega)⟩
section
variable {bF bH : Nat} {W : World} {zs : List (Option Addr × Nat × Nat)} {zg : Option Addr × Nat × Nat} {LL : List (List Int)} {lg : List Int} {x : Nat} {ov : Value}
theorem fam_last (h : Fam bF W (zs ++ [zg]) (LL ++ [lg])) : Own inc 1 3 bF W (slv zg) lg ∧ zs.length = LL.length := by
  have hl : zs.length = LL.length := by have := h.len; simp at this; exact this
  exact ⟨h.el zs.length zg lg (by simp) (by simp [hl]), hl⟩
theorem fam_grow_last (h : Fam bF W (zs ++ [zg]) (LL ++ [lg])) (hd : Own slc 1 31 bH W ov zs) (hb : bF ≤ W.heap.size) :
    Own inc 1 3 bF (newI W x) (slv zg) lg ∧ Row inc 1 (newI W x) (.slice (some ⟨W.heap.size, 0, none⟩) 1 1) [(x : Int)] ∧ bF ≤ (newI W x).heap.size ∧
      ∀ w2 z', (newI W x).grownBy w2 (slv zg).ownBlock → Own inc 1 3 bF w2 (slv z') (lg ++ [(x : Int)]) → ((slv z').ownBlock = (slv zg).ownBlock ∨ (slv z').ownBlock = some (newI W x).heap.size) →
        Fam bF w2 (zs ++ [z']) (LL ++ [lg ++ [(x : Int)]]) ∧ Own slc 1 31 bH w2 ov zs ∧ ∀ (rb : Nat) (a : World), Kb bF rb a W → Kb bF rb a w2 := by
  have hB : Below W.heap.size W (newI W x) := (Below.refl _ _).alloc (Nat.le_refl _) _
  have h1 := h.below hB
  have hO := (fam_last h1).1
  have hl := (fam_last h1).2
  refine ⟨hO, ?_, by simp; omega, fun w2 z' hg hh hc => ⟨?_, ?_, fun rb a hk => ?_⟩⟩
  · have := Row.lit inc_len W 3 #[.int .i64 (x : Int)] [(x : Int)] (by unfold maxLen; simp) rfl
    simpa using this
  · have := h1.grow (i := zs.length) (by simp) hg hh hc
    simpa [hl] using this
  · exact World.ownsRow.kept (hd.below hB) hg (own_two_apart (by decide) hO (hd.below hB))
  · exact (hk.trans (Kb.of (hB.mono hb))).grown2 hg (by simp; omega) (fun k e => .inr (World.ownsRow.lt hO k e).1)
abbrev newH (W : World) (zg : Option Addr × Nat × Nat) : World := W.alloc (.cells #[slv zg] 31)
theorem fam_push_new (h : Fam bF W (zs ++ [zg]) (LL ++ [lg])) (hd : Own slc 1 31 bH W ov zs) (hb : bF ≤ W.heap.size) (hbH : bH ≤ bF) :
    Own slc 1 31 bH (newH W zg) ov zs ∧ Row slc 1 (newH W zg) (.slice (some ⟨W.heap.size, 0, none⟩) 1 1) [zg] ∧ bH ≤ (newH W zg).heap.size ∧
      ∀ w2 ov', (newH W zg).grownBy w2 ov.ownBlock → Own slc 1 31 bH w2 ov' (zs ++ [zg]) →
        (Fam bF (w2.alloc (.cells #[] 3)) ((zs ++ [zg]) ++ [(some ⟨w2.heap.size, 0, none⟩, 0, 0)]) ((LL ++ [lg]) ++ [[]]) ∧ Own slc 1 31 bH (w2.alloc (.cells #[] 3)) ov' (zs ++ [zg])) ∧ Fam bF w2 (zs ++ [zg]) (LL ++ [lg]) ∧ bF ≤ w2.heap.size ∧
          ∀ (rb : Nat) (a : World), Kb bF rb a W → (∀ k, ov.ownBlock = some k → k = rb ∨ bF ≤ k) → Kb bF rb a w2 ∧ Kb bF rb a (w2.alloc (.cells #[] 3)) := by
  have hB : Below W.heap.size W (newH W zg) := (Below.refl _ _).alloc (Nat.le_refl _) _
  have h1 := h.below hB
  have hO := hd.below hB
  refine ⟨hO, ?_, by simp; omega, fun w2 ov' hg hh => ?_⟩
  · have := Row.lit slc_len W 31 #[slv zg] [zg] (by unfold maxLen; simp) rfl
    simpa using this
  · have h2 : Fam bF w2 (zs ++ [zg]) (LL ++ [lg]) := h1.held (by decide) hO hg
    have hsz : bF ≤ w2.heap.size := by have := hg.size; simp at this; omega
    have hA : Below w2.heap.size w2 (w2.alloc (.cells #[] 3)) := (Below.refl _ _).alloc (Nat.le_refl _) _
    have hn : Own inc 1 3 bF (w2.alloc (.cells #[] 3)) (slv (some ⟨w2.heap.size, 0, none⟩, 0, 0)) [] := Own.lit inc_len w2 #[] [] hsz (by simp) rfl
    refine ⟨⟨h2.push hA hn (by intro k hk; simp [Value.ownBlock] at hk; omega), hh.below hA⟩, h2, hsz, fun rb a hk hr => ?_⟩
    have h9 : Kb bF rb a w2 := (hk.trans (Kb.of (hB.mono hb))).grown2 hg (by simp; omega) hr
    exact ⟨h9, h9.alloc hsz _⟩
end
/-- The groups so far, and the one under way. -/
structure RgS (ts : List (Tr Nd)) (bF bH : Nat) (w2 : World) (P : List Nat) (i : Nat) (ov gv : Value) (wr : World) : Prop where
  ex : ∃ zs zg, Fam bF wr (zs ++ [zg]) (intG (Ov.foldG (cat ts) (P.take i)).1 ++ [(Ov.foldG (cat ts) (P.take i)).2.map Int.ofNat]) ∧ Own slc 1 31 bH wr ov zs ∧ gv = slv zg
  hb : ∀ k, ov.ownBlock = some k → k = bH ∨ bF ≤ k
  sz : bF ≤ wr.heap.size
  kb : Kb bF bH w2 wr
structure RgR (ts : List (Tr Nd)) (bF bH : Nat) (w2 : World) (P : List Nat) (n : Nat) (iv ov gv : Value) (wr : World) : Prop where
  ex : ∃ (i : Nat) (A : Option Addr) (m c : Nat) (B : Option Addr) (q d : Nat), i ≤ n ∧ iv = .int .i64 i ∧ ov = .slice A m c ∧ gv = .slice B q d ∧ Hid (RgS ts bF bH w2 P i (.slice A m c) (.slice B q d) wr)
/-- Does a new group begin? -/
def pbf (c : Nat → Nat → Int) (lg : List Nat) (x : Nat) : Bool := match lg with
  | [] => false
  | h :: _ => !decide (c h x = 0)
theorem step_pb (c : Nat → Nat → Int) (GG : List (List Nat)) (lg : List Nat) (x : Nat) : Ov.stepG c (GG, lg) x = if pbf c lg x = true then (GG ++ [lg], [x]) else (GG, lg ++ [x]) := by
  cases lg with
  | nil => simp [Ov.stepG, pbf]
  | cons h t => by_cases e : c h x = 0 <;> simp [Ov.stepG, pbf, e]
theorem fam_front {bF : Nat} {W : World} {zs : List (Option Addr × Nat × Nat)} {zg : Option Addr × Nat × Nat} {LL : List (List Int)} {lg : List Int} (h : Fam bF W (zs ++ [zg]) (LL ++ [lg])) : Fam bF W zs LL := by
  have hl := (fam_last h).2
  refine ⟨hl, fun i z l hz hk => h.el i z l ?_ ?_, fun i j y z k hij hy hz hk => h.ap i j y z k hij ?_ ?_ hk⟩
  · rw [List.getElem?_append_left (List.getElem?_eq_some_iff.1 hz).1]; exact hz
  · rw [List.getElem?_append_left (List.getElem?_eq_some_iff.1 hk).1]; exact hk
  · rw [List.getElem?_append_left (List.getElem?_eq_some_iff.1 hy).1]; exact hy
  · rw [List.getElem?_append_left (List.getElem?_eq_some_iff.1 hz).1]; exact hz
theorem foldG_le (c : Nat → Nat → Int) (l : List Nat) : (Ov.foldG c l).1.length ≤ l.length ∧ (Ov.foldG c l).2.length ≤ l.length := by
  have h := gath_many c l
  have h2 := congrArg List.length (foldG_flat c l)
  rw [List.length_append] at h2
  refine ⟨?_, by omega⟩
  unfold gath allG at h
  split at h
  · exact h
  · simp at h; omega

set_option maxRecDepth 100000 in
set_option maxHeartbeats 4000000 in
theorem refGroups_any (v : Value) (ts : List (Tr Nd)) (w : World) (h : Keys w v ts) (hn : ts.length ≤ 1000) :
    Calls Try.prog 20 #[v] w fun e w' => ∃ (A : Option Addr) (m c : Nat), e = .returned (.slice A m c) ∧ Rowz inc 1 w' (.slice A m c) (intG (grps (cat ts) ts.length)) ∧ Below w.heap.size w w' := by
  have HS := Lib.hid (fun (W : World) (hb : Below w.heap.size w W) => refSort_any v ts W (h.below hb) hn)
  have HH := Lib.hid h
  obtain ⟨A, c, hvl⟩ : ∃ (A : Option Addr) (c : Nat), v = .slice A ts.length c := by
    obtain ⟨vs, hl, ⟨A, c, hv, -⟩, -⟩ := h.vls
    rw [List.length_map] at hl
    exact ⟨A, c, by rw [hv, hl]⟩
  clear h
  subst hvl
  generalize hnn : ts.length = n at *
  have HN := Lib.hid hnn
  clear hnn
  have HPL : Hid ((plc (cat ts) n).length = n) := Lib.hid (plc_len _ _)
  have HPX : Hid (∀ x ∈ plc (cat ts) n, x < n) := Lib.hid fun x hx => plc_lt hx
  have HGP : Hid (gath (cat ts) (plc (cat ts) n) = grps (cat ts) n) := Lib.hid (gath_plc _ _)
  generalize plc (cat ts) n = P at *
  have HB0 := Lib.hid ((Below.refl w.heap.size w).alloc (Nat.le_refl _) (.cells #[] 31))
  have hO : Own slc 1 31 w.heap.size (w.alloc (.cells #[] 31)) (.slice (some ⟨w.heap.size, 0, none⟩) 0 0) [] := Own.lit slc_len w #[] [] (Nat.le_refl _) (by simp) rfl
  have HO := Lib.hid hO
  clear hO
  go_enter Try.func20, Try.ntmps20
  go_wp2_with fail
  refine (HS.out _ HB0.out).mono ?_
  rintro e w1 ⟨A1, n1, c1, rfl, hi1, hb1⟩
  obtain rfl : n1 = n := by
    obtain ⟨A2, c2, h2, -⟩ := hi1
    injection h2 with _ h2 _
    rw [h2, List.length_map, HPL.out]
  have HB1 : Hid (Below w.heap.size w w1) := Lib.hid (Below.after HB0.out hb1)
  have hA : Below w1.heap.size w1 (w1.alloc (.cells #[] 3)) := (Below.refl _ _).alloc (Nat.le_refl _) _
  have hbf : w.heap.size ≤ w1.heap.size := HB1.out.size
  have HZB : Hid (w1.heap[w.heap.size]? = some (.cells #[] 31 (0, 0))) := Lib.hid ((hb1.block _ (by simp)).trans (alloc_at _ _ rfl))
  have HI1 := Lib.hid hi1
  have HOo := Lib.hid ((HO.out.below hb1).below hA)
  have HNl : Hid (Own inc 1 3 w1.heap.size (w1.alloc (.cells #[] 3)) (slv (some ⟨w1.heap.size, 0, none⟩, 0, 0)) []) := Lib.hid (Own.lit inc_len w1 #[] [] (Nat.le_refl _) (by simp) rfl)
  have HR0 : Hid (RgS ts w1.heap.size w.heap.size w1 P 0 (.slice (some ⟨w.heap.size, 0, none⟩) 0 0) (.slice (some ⟨w1.heap.size, 0, none⟩) 0 0) (w1.alloc (.cells #[] 3))) := Lib.hid ⟨⟨[], (some ⟨w1.heap.size, 0, none⟩, 0, 0), (Fam.nil w1.heap.size w1).push hA HNl.out (by intro k hk; simp [Value.ownBlock] at hk; omega), HOo.out, rfl⟩, by intro k hk; simp [Value.ownBlock] at hk; omega, by simp, Kb.of hA⟩
  have HBF := Lib.hid hbf
  clear hi1 hb1 HO HOo HNl hA hbf
  go_wp2_with fail
  go_loopw [6, 3, 5] (fun iv ov gv wr => RgR ts w1.heap.size w.heap.size w1 P n1 iv ov gv wr) (fun iv _ _ _ => n1 - (intOf iv).toNat)
  case atStart => exact ⟨0, _, _, _, _, _, _, Nat.zero_le _, rfl, rfl, rfl, HR0⟩
  case round =>
    obtain ⟨i, A2, m, c2, B, q, d, hi, rfl, rfl, rfl, HG⟩ := hrel.ex
    obtain ⟨zs, zg, hfam, hhd, hgv⟩ := HG.out.ex
    obtain ⟨zgA, zgn, zgc⟩ := zg
    simp only [slv] at hgv
    injection hgv with r1 r2 r3
    subst r1 r2 r3
    by_cases hlt : i < n1
    · have hkP : i < P.length := by rw [HPL.out]; exact hlt
      have htk : P.take (i + 1) = P.take i ++ [P[i]] := List.take_succ_eq_append_getElem hkP
      obtain ⟨g1, o1, c1', e1, -, -, hg1, hx1⟩ := HI1.out.opened (by rw [List.length_map, HPL.out]; omega)
      injection e1 with e1 e2 e3
      subst e1
      have p1 : w1.cell? ⟨g1, o1 + i, none⟩ = some (.int .i64 (P[i] : Nat)) := (hx1 i (P[i] : Nat) (by rw [List.getElem?_map, List.getElem?_eq_getElem hkP]; rfl)).int
      have hgne : g1 ≠ w.heap.size := by
        rintro rfl
        rw [Lib.cell_of_heap HZB.out] at p1
        simp at p1
      have q1 := (HG.out.kb.cell (p := ⟨g1, o1 + i, none⟩) hg1 hgne).trans p1
      have hPk := HPX.out _ (List.getElem_mem hkP)
      have hst : Ov.foldG (cat ts) (P.take (i + 1)) = Ov.stepG (cat ts) (Ov.foldG (cat ts) (P.take i)) P[i] := by rw [htk, foldG_snoc]
      have hle := foldG_le (cat ts) (P.take i)
      rw [List.length_take] at hle
      have HST := Lib.hid hst
      have HFX : Hid (∀ y ∈ (Ov.foldG (cat ts) (P.take i)).2, y < n1) := Lib.hid fun y hy => by
        have h1 : y ∈ (Ov.foldG (cat ts) (P.take i)).1.flatten ++ (Ov.foldG (cat ts) (P.take i)).2 := List.mem_append.2 (.inr hy)
        rw [foldG_flat] at h1
        exact HPX.out y (List.mem_of_mem_take h1)
      have HFM := Lib.hid hfam
      have HHD := Lib.hid hhd
      have HQ1 : Hid (∀ W, Below wr.heap.size wr W → W.cell? ⟨g1, o1 + i, none⟩ = some (.int .i64 (P[i] : Nat))) := Lib.hid fun W hb => (hb.cell (p := ⟨g1, o1 + i, none⟩) (World.block_lt_of_cell? _ _ q1)).trans q1
      have HP1 : Hid (∀ W, Kb w1.heap.size w.heap.size w1 W → W.cell? ⟨g1, o1 + i, none⟩ = some (.int .i64 (P[i] : Nat))) := Lib.hid fun W hk => (hk.cell (p := ⟨g1, o1 + i, none⟩) hg1 hgne).trans p1
      clear p1 hx1 e2 e3 htk hst hfam hhd hgne
      generalize P[i] = x at *
      generalize Ov.foldG (cat ts) (P.take i) = fs at *
      obtain ⟨GG, lg⟩ := fs
      have hzl := (fam_last HFM.out).2
      have hown := (fam_last HFM.out).1
      simp only [List.length_map] at hzl hle
      have hql : q = lg.length := by
        have := (Own.cap hown).1
        rw [List.length_map] at this
        exact this
      have HML : Hid (zs.length ≤ 1000 ∧ lg.length ≤ 1000) := Lib.hid (by omega)
      clear hzl hle hown
      have HSP := Lib.hid (step_pb (cat ts) GG lg x)
      have HBWR : Hid (Below w.heap.size w wr) := Lib.hid (HB1.out.trans (HG.out.kb.below HBF.out (Nat.le_refl _)))
      have HQL := Lib.hid hql
      go_upto_region 7 with fail
      go_cut [36] (fun s36 wx => s36 = .bool (pbf (cat ts) lg x) ∧ Hid (Below wr.heap.size wr wx))
      case first =>
        cases lg with
        | nil =>
          simp only [List.length_nil] at hql
          subst hql
          clear q1
          go_wp2_with fail
          go_quiet (fail)
          all_goals go_wp2_with fail
          all_goals go_meet
          all_goals exact ⟨rfl, Lib.hid (below_quiet ⟨_, rfl⟩)⟩
        | cons h tl =>
          have hown := (fam_last HFM.out).1
          obtain ⟨gb, capb, hvb, -, -⟩ := Own.opened hown (by simp)
          simp only [slv] at hvb
          injection hvb with r1 r2 r3
          subst r1
          have hown2 : Own inc 1 3 w1.heap.size wr (.slice (some ⟨gb, 0, none⟩) ((h :: tl).map Int.ofNat).length d) ((h :: tl).map Int.ofNat) := by
            have := hown
            simp only [slv] at this
            rwa [r2] at this
          have q2 := Own.cell inc_len (k := 0) (j := 0) (x := (h : Int)) (u := .int .i64 (h : Int)) hown2 rfl rfl
          simp only [Nat.mul_one, Nat.add_zero] at q2
          have hhn := HFX.out h (by simp)
          obtain ⟨g2, o2, cc, A3, m3, d3, hv2, hg2, hc2, hn2, -⟩ := HH.out.at (i := x) (by rw [HN.out]; exact hPk)
          obtain ⟨g3, o3, cc3, A4, m4, d4, hv3, hg3, hc3, hn3, -⟩ := HH.out.at (i := h) (by rw [HN.out]; exact hhn)
          injection hv2 with f1 f2 f3
          injection hv3 with f4 f5 f6
          have f7 := f1.symm.trans f4
          injection f7 with f7
          injection f7 with f7 f8 f9
          subst f1 f7 f8
          have hB0 := HBWR.out
          have q3 := (hB0.cell (p := ⟨g2, o2 + x, none⟩) hg2).trans hc2
          have q4 := (hB0.cell (p := ⟨g2, o2 + h, none⟩) hg3).trans hc3
          have HSM : Hid (∀ W, Below wr.heap.size wr W → Calls Try.prog 13 #[.slice A3 m3 d3, .slice A4 m4 d4] W fun e w' => e = .returned (.int .i64 (cat ts x h)) ∧ Below W.heap.size W w') := Lib.hid fun W hb => refCmp_keys HH.out (by rw [HN.out]; exact hPk) (by rw [HN.out]; exact hhn) _ _ W (hn2.below (hB0.trans (hb.mono hB0.size))) (hn3.below (hB0.trans (hb.mono hB0.size)))
          have hl1 : g1 < wr.heap.size := World.block_lt_of_cell? _ _ q1
          have hl2 : gb < wr.heap.size := World.block_lt_of_cell? _ _ q2
          have hl3 : g2 < wr.heap.size := World.block_lt_of_cell? _ _ q3
          have HKP : Hid (∀ W, Below wr.heap.size wr W → W.cell? ⟨g1, o1 + i, none⟩ = some (.int .i64 (x : Nat)) ∧ W.cell? ⟨gb, 0, none⟩ = some (.int .i64 (h : Int)) ∧ W.cell? ⟨g2, o2 + x, none⟩ = some (.slice A3 m3 d3) ∧ W.cell? ⟨g2, o2 + h, none⟩ = some (.slice A4 m4 d4) ∧ Below wr.heap.size wr W) := Lib.hid fun W hb => ⟨(hb.cell (p := ⟨g1, o1 + i, none⟩) hl1).trans q1, (hb.cell (p := ⟨gb, 0, none⟩) hl2).trans q2, (hb.cell (p := ⟨g2, o2 + x, none⟩) hl3).trans q3, (hb.cell (p := ⟨g2, o2 + h, none⟩) hl3).trans q4, hb⟩
          have HWD : Hid (Below wr.heap.size wr wr.drew) := Lib.hid (Below.refl _ wr).drew
          have HPV : Hid ((!(cat ts x h == 0)) = pbf (cat ts) (h :: tl) x) := Lib.hid (by
            have := (cat_cp ts).neg x h
            by_cases e : cat ts x h = 0
            · have e2 : cat ts h x = 0 := by omega
              simp [pbf, e, e2]
            · have e2 : ¬ cat ts h x = 0 := by omega
              simp [pbf, e, e2])
          have hx2 : (x : Int) < (n1 : Int) := by omega
          have hh2 : (h : Int) < (n1 : Int) := by omega
          have hi2 : (i : Int) < (n1 : Int) := by omega
          have hq0 : (0 : Int) < (q : Int) := by rw [hql, List.length_cons]; omega
          have hq9 : 0 < q := by omega
          clear hc2 hc3 hn2 hn3 f2 f3 f4 f5 f6 f9 hB0 q1 q2 q3 q4 hl1 hl2 hl3 hg2 hg3 hown hown2 r2 r3 hql
          obtain ⟨q1, q2, q3, q4, -⟩ := HKP.out wr (Below.refl _ _)
          generalize cat ts x h = cv at *
          go_region_held3 (fun w' => w'.cell? ⟨g1, o1 + i, none⟩ = some (.int .i64 (x : Nat)) ∧ w'.cell? ⟨gb, 0, none⟩ = some (.int .i64 (h : Int)) ∧ w'.cell? ⟨g2, o2 + x, none⟩ = some (.slice A3 m3 d3) ∧ w'.cell? ⟨g2, o2 + h, none⟩ = some (.slice A4 m4 d4) ∧ Below wr.heap.size wr w')
            (first | exact HKP.out _ HWD.out | exact HKP.out _ (HBW.out.trans (hb3.mono HBW.out.size)) | go_keep)
            ((go_at_call 13; have HBW : Hid (Below wr.heap.size wr _) := Lib.hid (by assumption); refine (HSM.out _ HBW.out).mono ?_; rintro e w3 ⟨rfl, hb3⟩))
          all_goals go_wp2_with fail
          all_goals go_meet
          all_goals exact ⟨by rw [← HPV.out]; rfl, Lib.hid (HBW.out.trans (hb3.mono HBW.out.size))⟩
      case rest =>
        obtain ⟨rfl, HWC⟩ := hcut
        have HFC := Lib.hid (HFM.out.below HWC.out)
        have HHC := Lib.hid (HHD.out.below HWC.out)
        have HSZ : Hid (w1.heap.size ≤ wc.heap.size) := Lib.hid (Nat.le_trans HG.out.sz HWC.out.size)
        have HKC : Hid (Kb w1.heap.size w.heap.size w1 wc) := Lib.hid (HG.out.kb.trans (Kb.of (HWC.out.mono HG.out.sz)))
        have HZL : Hid (zs.length = m) := Lib.hid (Own.cap HHC.out).1.symm
        clear q1 hql
        cases hpb : pbf (cat ts) lg x with
        | false =>
          rw [hpb, if_neg (by simp)] at HSP
          obtain ⟨hp1, hp2, hp3, hp4⟩ := fam_grow_last (x := x) HFC.out HHC.out HSZ.out
          have HQ5 := Lib.hid hp1
          have HQ6 := Lib.hid hp2
          have HQ7 := Lib.hid hp3
          have HQ8 := Lib.hid hp4
          have q1 := HQ1.out wc HWC.out
          clear hp1 hp2 hp3 hp4 hpb
          go_wp2_with (at_builtin; refine wpList_append_row (base := w1.heap.size) elInt rfl _ _ rfl rfl HQ5.out rfl HQ6.out ?_ ?_ ?_ ?_)
          · have := HML.out; unfold maxLen; simp; omega
          · have := HML.out; simp; omega
          · have := HQ7.out; simpa using this
          · intro A5 c5 w5 hown5 hg5 hwh5
            have HR := Lib.hid (HQ8.out w5 (A5, _, c5) hg5 hown5 (hwh5.imp id fun h => h.trans (by simp)))
            have HS5 : Hid (w1.heap.size ≤ w5.heap.size) := Lib.hid (by have := hg5.size; simp at this; have := HSZ.out; omega)
            clear hown5 hg5 hwh5 q1
            go_wp2_with fail
            refine ⟨⟨i + 1, _, _, _, A5, _, c5, by omega, by congr 1, rfl, rfl, Lib.hid ⟨⟨zs, _, by rw [HST.out, HSP.out]; simpa using HR.out.1, HR.out.2.1, by simp [slv]⟩, HG.out.hb, HS5.out, HR.out.2.2 _ _ HKC.out⟩⟩, ?_⟩
            simp [intOf]; omega
        | true =>
          rw [hpb, if_pos rfl] at HSP
          obtain ⟨hp1, hp2, hp3, hp4⟩ := fam_push_new HFC.out HHC.out HSZ.out HBF.out
          have HQ5 := Lib.hid hp1
          have HQ6 := Lib.hid hp2
          have HQ7 := Lib.hid hp3
          have HQ8 := Lib.hid hp4
          clear hp1 hp2 hp3 hp4 hpb
          go_wp2_with (at_builtin; refine wpList_append_row (base := w.heap.size) elInts rfl _ _ rfl rfl HQ5.out rfl HQ6.out ?_ ?_ ?_ ?_)
          · have := HML.out; unfold maxLen; simp; omega
          · have := HML.out; simp; omega
          · have := HQ7.out; simpa using this
          · intro A5 c5 w5 hown5 hg5 hwh5
            have HR := Lib.hid (HQ8.out w5 _ hg5 hown5)
            have hgs : wc.heap.size ≤ w5.heap.size := by have := hg5.size; simp at this; omega
            have HV5 : Hid (∀ k, (Value.slice A5 (zs.length + 1) c5).ownBlock = some k → k = w.heap.size ∨ w1.heap.size ≤ k) := Lib.hid fun k hk => by
              rcases hwh5 with h | h
              · rw [h] at hk; exact HG.out.hb k hk
              · rw [h] at hk; injection hk with hk; have := HSZ.out; omega
            have HK5 := Lib.hid (HR.out.2.2.2 _ _ HKC.out HG.out.hb)
            have HS5 := Lib.hid HR.out.2.2.1
            clear hown5 hg5 hwh5 hgs
            go_upto_region 10 with fail
            have hF := HR.out.1.1
            have hH := HR.out.1.2
            have hk6 := HK5.out.2
            have hs6 : w1.heap.size ≤ (w5.alloc (.cells #[] 3)).heap.size := by have := HS5.out; simp; omega
            generalize w5.alloc (.cells #[] 3) = W6 at hF hH hk6 hs6 ⊢
            have q2 := HP1.out W6 hk6
            have HK6 := Lib.hid hk6
            have HS6' := Lib.hid hs6
            have hp1 := fam_grow_last (x := x) hF hH hs6
            obtain ⟨hp1, hp2, hp3, hp4⟩ := hp1
            have HT5 := Lib.hid hp1
            have HT6 := Lib.hid hp2
            have HT7 := Lib.hid hp3
            have HT8 := Lib.hid hp4
            clear hp1 hp2 hp3 hp4 hF hH hk6 hs6
            go_wp2_with (at_builtin; refine wpList_append_row (base := w1.heap.size) elInt rfl _ _ rfl rfl HT5.out rfl HT6.out ?_ ?_ ?_ ?_)
            · unfold maxLen; simp
            · simp
            · have := HT7.out; simpa using this
            · intro A6 c6 w6 hown6 hg6 hwh6
              have HR6 := Lib.hid (HT8.out w6 (A6, _, c6) hg6 hown6 (hwh6.imp id fun h => h.trans (by simp)))
              have HS6 : Hid (w1.heap.size ≤ w6.heap.size) := Lib.hid (by have := hg6.size; simp at this; have := HS6'.out; omega)
              clear hown6 hg6 hwh6 q2
              go_wp2_with fail
              refine ⟨⟨i + 1, A5, _, c5, A6, _, c6, by omega, by congr 1, rfl, rfl, Lib.hid ⟨⟨zs ++ [(B, q, d)], _, by rw [HST.out, HSP.out]; simpa using HR6.out.1, by simpa using HR6.out.2.1, by simp [slv]⟩, by simpa using HV5.out, HS6.out, HR6.out.2.2 _ _ HK6.out⟩⟩, ?_⟩
              simp [intOf]; omega
    · obtain rfl : i = n1 := by omega
      have hgp : intG (grps (cat ts) i) = if (Ov.foldG (cat ts) P).2 = [] then intG (Ov.foldG (cat ts) P).1 else intG (Ov.foldG (cat ts) P).1 ++ [(Ov.foldG (cat ts) P).2.map Int.ofNat] := by
        rw [← HGP.out, gath, allG]
        split <;> simp
      have hle := foldG_le (cat ts) P
      rw [HPL.out] at hle
      rw [show P.take i = P from List.take_of_length_le (by rw [HPL.out]; omega)] at hfam
      generalize Ov.foldG (cat ts) P = fs at *
      obtain ⟨GG, lg⟩ := fs
      have HFM := Lib.hid hfam
      have HHD := Lib.hid hhd
      have HGPI := Lib.hid hgp
      have HBE : Hid (Below w.heap.size w wr) := Lib.hid (HB1.out.trans (HG.out.kb.below HBF.out (Nat.le_refl _)))
      have hql : q = lg.length := by
        have := (Own.cap (fam_last hfam).1).1
        rw [List.length_map] at this
        exact this
      have hzl := (fam_last hfam).2
      simp only [List.length_map] at hzl hle
      have HML : Hid (zs.length ≤ 1000 ∧ lg.length ≤ 1000) := Lib.hid (by omega)
      clear hgp hfam hhd hzl hle
      cases lg with
      | nil =>
        simp only [List.length_nil] at hql
        subst hql
        rw [if_pos rfl] at HGPI
        go_wp2_with fail
        go_ret
        exact ⟨A2, m, c2, rfl, by rw [HGPI.out]; exact (fam_front HFM.out).rows (HHD.out.row slc_len), HBE.out⟩
      | cons h tl =>
        rw [if_neg (by simp)] at HGPI
        have hq0 : (q : Int) > 0 := by rw [hql, List.length_cons]; omega
        have hq9 : 0 < q := by omega
        clear hql
        obtain ⟨hp1, hp2, hp3, hp4⟩ := fam_push_new HFM.out HHD.out HG.out.sz HBF.out
        have HQ5 := Lib.hid hp1
        have HQ6 := Lib.hid hp2
        have HQ7 := Lib.hid hp3
        have HQ8 := Lib.hid hp4
        have HKE := Lib.hid HG.out.kb
        clear hp1 hp2 hp3 hp4
        go_wp2_with (at_builtin; refine wpList_append_row (base := w.heap.size) elInts rfl _ _ rfl rfl HQ5.out rfl HQ6.out ?_ ?_ ?_ ?_)
        · have := HML.out; unfold maxLen; simp; omega
        · have := HML.out; simp; omega
        · have := HQ7.out; simpa using this
        · intro A5 c5 w5 hown5 hg5 hwh5
          have HR := Lib.hid (HQ8.out w5 _ hg5 hown5)
          have HO5 := Lib.hid hown5
          have HB5 : Hid (Below w.heap.size w w5) := Lib.hid (HB1.out.trans ((HR.out.2.2.2 _ _ HKE.out HG.out.hb).1.below HBF.out (Nat.le_refl _)))
          clear hown5 hg5 hwh5
          go_wp2_with fail
          go_ret
          exact ⟨A5, _, c5, rfl, by rw [HGPI.out]; simpa using HR.out.2.1.rows (HO5.out.row slc_len), HB5.out⟩
end Go.Proofs.Ytbffeffplabaeaa

/-
  The walk of the statement OrderGroups: it returns true.
-/
namespace Go.Proofs.Ytbffeffplabaeaa
open Go.RowKit Np Rw Vp Ov

structure OgR (w1 : World) (n : Nat) (iv : Value) (wr : World) : Prop where
  ex : ∃ k : Nat, k ≤ n ∧ iv = .int .i64 k ∧ Hid (Below w1.heap.size w1 wr)

set_option maxRecDepth 100000 in
set_option maxHeartbeats 4000000 in
theorem orderGroups_all (v : Value) (ts : List (Tr Nd)) (w : World) (h : Keys w v ts) (hn : ts.length ≤ 60) (hf : allFew 60 (ts.map flat) = true) (hAF : ∀ W, Below w.heap.size w W → Calls Try.prog 10 #[v, .int .i64 (60 : Nat)] W fun e w' => e = .returned (.bool (allFew 60 (ts.map flat))) ∧ Below W.heap.size W w') :
    Calls Try.prog 4 #[v] w fun e w' => e = .returned (.bool true) ∧ Below w.heap.size w w' := by
  have HAF := Lib.hid hAF
  have HF := Lib.hid hf
  have HGS := Lib.hid (fun (W : World) (hb : Below w.heap.size w W) => groups_any v ts W (h.below hb) (by omega))
  have HGR := Lib.hid (fun (W : World) (hb : Below w.heap.size w W) => refGroups_any v ts W (h.below hb) (by omega))
  obtain ⟨A, c, hvl⟩ : ∃ (A : Option Addr) (c : Nat), v = .slice A ts.length c := by
    obtain ⟨vs, hl, ⟨A, c, hv, -⟩, -⟩ := h.vls
    rw [List.length_map] at hl
    exact ⟨A, c, by rw [hv, hl]⟩
  clear h hAF hf
  subst hvl
  generalize ts.length = n at *
  have hG : (intG (grps (cat ts) n)).length ≤ n := by
    rw [List.length_map, ← gath_plc]
    have := gath_many (cat ts) (plc (cat ts) n)
    rwa [plc_len] at this
  generalize intG (grps (cat ts) n) = G at *
  go_enter Try.func4, Try.ntmps4
  go_wp2_with fail
  refine (HAF.out _ (Below.refl _ _)).mono ?_
  rintro e w0 ⟨rfl, hb0⟩
  rw [HF.out]
  have HB0 := Lib.hid hb0
  clear hb0
  go_wp2_with fail
  refine (HGS.out _ HB0.out).mono ?_
  rintro e w1 ⟨A1, m, c1, zs, rfl, hgr, hb1⟩
  have hrz : Rowz inc 1 w1 (.slice A1 m c1) G := hgr.fam.rows (hgr.hd.row slc_len)
  have HRZ := Lib.hid hrz
  have HB1 := Lib.hid (Below.after HB0.out hb1)
  obtain rfl : m = G.length := by
    obtain ⟨A2, c2, h2⟩ := hrz.form
    injection h2
  clear hgr hb1 hrz
  go_wp2_with fail
  refine (HGR.out _ HB1.out).mono ?_
  rintro e w2 ⟨A2, m2, c2, rfl, hr2, hb2⟩
  obtain rfl : m2 = G.length := by
    obtain ⟨A3, c3, h2⟩ := hr2.form
    injection h2
  have HRX := Lib.hid (HRZ.out.below hb2)
  have HRY := Lib.hid hr2
  have HB2 := Lib.hid (Below.after HB1.out hb2)
  clear hr2 hb2 HRZ
  have hGm : G.length ≤ 60 := by omega
  clear hG
  generalize hm : G.length = m at *
  have HM := Lib.hid hm
  clear hm
  go_wp2_with fail
  go_loopw [5] (fun iv wr => OgR w2 m iv wr) (fun iv _ => m - (intOf iv).toNat)
  case atStart => exact ⟨0, Nat.zero_le _, rfl, Lib.hid (Below.refl _ _)⟩
  case round =>
    obtain ⟨i, hi, rfl, HW⟩ := hrel.ex
    by_cases hlt : i < m
    · have hiG : i < G.length := by rw [HM.out]; exact hlt
      obtain ⟨g1, o1, k1, B1, d1, hv1, hg1, hc1, hr1⟩ := HRX.out.at hiG
      obtain ⟨g2, o2, k2, B2, d2, hv2, hg2, hc2, hr2⟩ := HRY.out.at hiG
      rw [HM.out] at hv1 hv2
      injection hv1 with e1 e2 e3
      injection hv2 with e4 e5 e6
      subst e1 e4
      have q1 := (HW.out.cell (p := ⟨g1, o1 + i, none⟩) hg1).trans hc1
      have q2 := (HW.out.cell (p := ⟨g2, o2 + i, none⟩) hg2).trans hc2
      have HI : Hid (∀ W, Below wr.heap.size wr W → Calls Try.prog 16 #[.slice B1 (G[i]).length d1, .slice B2 (G[i]).length d2] W fun e w' => e = .returned (.bool true) ∧ Below W.heap.size W w') := Lib.hid fun W hb => by
        have h1 := refInts_any _ _ _ _ W (hr1.below (HW.out.trans (hb.mono HW.out.size))) (hr2.below (HW.out.trans (hb.mono HW.out.size)))
        rwa [decide_eq_true rfl] at h1
      clear e2 e3 e5 e6 hc1 hc2 hr1 hr2 hg1 hg2
      generalize (G[i]).length = ln at *
      go_upto_region 9 with fail
      go_cut [34] (fun s34 wx => s34 = .bool false ∧ Hid (Below wr.heap.size wr wx))
      case first =>
        go_region_with (first | (go_at_call 16; refine (HI.out _ ((Below.refl _ wr).drew)).mono ?_; rintro e w3 ⟨rfl, hb3⟩))
        all_goals go_wp2_with fail
        all_goals go_meet
        all_goals exact ⟨rfl, Lib.hid ((Below.refl _ wr).drew.trans hb3)⟩
      case rest =>
        obtain ⟨rfl, HWC⟩ := hcut
        go_wp2_with fail
        go_roundw
        case rel => exact ⟨i + 1, by omega, by go_num, Lib.hid (HW.out.trans (HWC.out.mono HW.out.size))⟩
        case measure => simp [intOf]; omega
    · have HBE : Hid (Below w.heap.size w wr) := Lib.hid (HB2.out.trans (HW.out.mono HB2.out.size))
      go_wp2_with fail
      refine (oalive_any _).mono ?_
      rintro e w4 ⟨rfl, hb4⟩
      have HB4 := Lib.hid (Below.after HBE.out hb4)
      clear hb4
      go_wp2_with fail
      go_ret
      exact ⟨rfl, HB4.out⟩

set_option maxRecDepth 100000 in
set_option maxHeartbeats 4000000 in
theorem orderGroups_any (v : Value) (L : List (List Nd)) (w : World) (h : Vls w v L) (hb1 : L.length ≤ 140737488355328) (hb2 : ∀ l ∈ L, l.length ≤ 140737488355328) :
    Calls Try.prog 4 #[v] w fun e w' => e = .returned (.bool true) ∧ Below w.heap.size w w' := by
  have hAF := fun (W : World) (hb : Below w.heap.size w W) => refAll_any v L 60 W (h.below hb) (by decide) hb1 hb2
  cases hf : allFew 60 L with
  | true =>
    obtain ⟨ts, hK, hn, rfl⟩ := keys_of h hf
    exact orderGroups_all v ts w hK hn hf hAF
  | false =>
    have HAF := Lib.hid hAF
    have HF := Lib.hid hf
    obtain ⟨vs, hl, ⟨A, c, rfl, -⟩, -⟩ := h
    clear hAF hf hl
    generalize vs.length = n at *
    go_enter Try.func4, Try.ntmps4
    go_wp2_with fail
    refine (HAF.out _ (Below.refl _ _)).mono ?_
    rintro e w0 ⟨rfl, hb0⟩
    rw [HF.out]
    have HB0 := Lib.hid hb0
    clear hb0
    go_wp2_with fail
    refine (oalive_any _).mono ?_
    rintro e w1 ⟨rfl, hb1⟩
    have HB1 := Lib.hid (Below.after HB0.out hb1)
    clear hb1
    go_wp2_with fail
    go_ret
    exact ⟨rfl, HB1.out⟩
end Go.Proofs.Ytbffeffplabaeaa

/-
  The statement OrderGroups holds: called with any rows of nodes, whatever lies in memory, it returns true, and each argument reads as it read before. Conditions: none.
-/
namespace Go.Proofs.Ytbffeffplabaeaa
open Go.ChangeShapes Go.WideShapes Go.ChangeAt Go.RowKit Go.ChangeMaps

set_option maxRecDepth 100000 in
theorem orderGroups_lifted (os : Go.Os) (started : os.Started) (H : Type) (enc : TypeId × Value → H) :
    ReturnsInHanded {} Try.checked os 4 .any (Rows.orderGroupsSpec.pre6 enc Try.prog Try.f4 Rows.orderGroupsRow.domain false)
      (Rows.orderGroupsSpec.post enc Try.prog Try.f4 false true false false) := by
  refine returnsInHanded_of_change_sized (C := Try.checked) ownKn started (by kernel_rfl) Try.func4
    (ChangeSpec.witness6 (enc := enc) (C := Try.checked) false ⟨#[], #[.slice none 0 0], []⟩ 8 (by kernel_rfl) (by kernel_rfl) (by kernel_rfl) (by kernel_rfl)) ?_
  intro W base args ds gs before hval0 hW _ hwt0 _
  have hval : ∀ (j : Nat) t v, Try.f4.params[j]? = some t → args[j]? = some v → Value.okWide Try.prog W .any base t v := hval0
  have hW' := hW
  obtain ⟨p, q, hA0, hV, rfl, _, _⟩ := hW
  have hA : DataW.TrodAll enc Try.prog W 0 (fun _ => true) true Try.f4.params.toList args.toList ds p := hA0
  have hwt : (DataW.weightsEach Try.prog (Try.f4.params.toList ++ Rows.orderGroupsSpec.plain.varTypes Try.prog) (ds ++ gs)).all (· ≤ reachBytes) = true := hwt0
  rw [Try.params4] at hA hval
  obtain ⟨v0, d0, rfl, rfl, h0⟩ := trodAll_one hA
  obtain ⟨rfl, rfl⟩ := trodVars_none hV
  obtain ⟨l0, hl0, hn0, hm0⟩ := open_vals (hval 0 _ v0 rfl rfl) h0 (vals_sized (j := 0) (d := d0) hwt (by rw [Try.params4]; rfl) rfl)
  refine (orderGroups_any v0 l0 W hl0 hn0 hm0).mono fun e W' ⟨he, hb⟩ => ?_
  subst he
  exact ⟨_, rfl, law_post (tb := 4) laidOut hW' rfl Try.underlying4 (by kernel_rfl) rfl (by
    rw [Try.params4]
    intro t ht
    have hall : ([24].all fun t => Try.prog.readableRec t && decide (t < Try.prog.types.size)) = true := by kernel_rfl
    obtain ⟨h1, h2⟩ := Bool.and_eq_true_iff.1 (List.all_eq_true.1 hall t ht)
    exact ⟨h1, of_decide_eq_true h2⟩) hb⟩

theorem orderGroups_holds : Rows.OrderGroupsSaid :=
  OpenClaim.holds_of_wide 4 Try.f4 rfl rfl rfl rfl rfl rfl rfl ⟨rfl, rfl, rfl, rfl, rfl⟩ rfl rfl rfl rfl rfl (by kernel_rfl) Try.func4 (by kernel_rfl)
    (of_decide_eq_true (by kernel_rfl)) (by unfold Func.isWrapper; first | (rw [if_pos (by decide +kernel)]; kernel_rfl) | (rw [if_neg (by decide +kernel)]; exact ⟨rfl, rfl⟩))
    (fun os started H enc _ => orderGroups_lifted os started H enc)
#print axioms orderGroups_holds
end Go.Proofs.Ytbffeffplabaeaa
