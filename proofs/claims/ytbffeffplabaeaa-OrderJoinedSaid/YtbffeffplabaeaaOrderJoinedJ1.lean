/-
  Joined: BackP, OPick, OrderJoined, OrderJoinedSaid.
-/
import Derived.Test.YtbffeffplabaeaaOrderTotalJ16
import Derived.Test.YtbffeffplabaeaaOrderTotalJ22
import Derived.Deep.RegionHeld3

/-
  Plain words: a list's parts are what it was made of; an object, made of its names and parts, is it; parts are right, and less deep. No program stands here.
-/
namespace Go.Proofs.Ytbffeffplabaeaa
namespace Vp
open Go.RowKit Np Rw

theorem setNm_val {t : Tr Nd} (h : Val t) : setNm [] (flat t) = flat t := by rw [← flat_nmd, ← h.nm, nmd_self]
theorem rows_trees : ∀ L : List (List Nd), (∀ l ∈ L, rightL l = true) → ∃ ts : List (Tr Nd), (∀ t ∈ ts, Val t) ∧ L = ts.map flat
  | [], _ => ⟨[], by simp, rfl⟩
  | l :: L, h => by
    obtain ⟨ts, h1, h2⟩ := rows_trees L (fun x hx => h x (by simp [hx]))
    obtain ⟨t, ht, he⟩ := val_of_rightL (h l (by simp))
    exact ⟨t :: ts, by intro x hx; rcases List.mem_cons.1 hx with rfl | hx <;> first | exact ht | exact h1 x hx, by rw [List.map_cons, ← h2, he]⟩
theorem laid_plain : ∀ ts : List (Tr Nd), (∀ t ∈ ts, Val t) → laid ((ts.map flat).map fun l => (([], l) : Pr)) = flats ts
  | [], _ => rfl
  | t :: ts, h => by
    rw [List.map_cons, List.map_cons, laid_cons, laid_plain ts (fun x hx => h x (by simp [hx])), flats_cons]
    rw [setNm_val (h t (by simp))]
theorem list_tree {ts : List (Tr Nd)} (h : ∀ t ∈ ts, Val t) : hdN 5 (ts.map flat).length :: laid ((ts.map flat).map fun l => ([], l)) = flat (arrT ts) := by
  rw [laid_plain ts h, flat_arrT, List.length_map]
theorem nmd_all {ts : List (Tr Nd)} (h : ∀ t ∈ ts, t.nd.name = []) : ts.map (fun k => flat (nmd [] k)) = ts.map flat := by
  apply List.map_congr_left
  intro t ht
  conv => rhs; rw [← nmd_self t, h t ht]
theorem part_val {t k : Tr Nd} (h : Val t) (hk : k ∈ t.ks) : Val (nmd [] k) := Val.clr (h.parts k hk).1 (h.parts k hk).2
theorem depth_nmd (nm : List UInt8) (t : Tr Nd) : depth (nmd nm t) = depth t := by rw [depth_eq, depth_eq t]; rfl
theorem depths_le : ∀ {ts : List (Tr Nd)} {k : Tr Nd}, k ∈ ts → depth k ≤ depths ts
  | t :: ts, k, h => by
    rw [depths_cons]
    rcases List.mem_cons.1 h with rfl | h
    · omega
    · have := depths_le h; omega
theorem Val.cont {t : Tr Nd} (h : Val t) (h0 : t.ks ≠ []) : cont t.nd.kind = true := by
  rcases Classical.em (t.nd.kind = 5) with h5 | h5
  · rw [h5]; rfl
  · rcases Classical.em (t.nd.kind = 6) with h6 | h6
    · rw [h6]; rfl
    · exact absurd (h.leaf h5 h6) h0
theorem part_depth {t k : Tr Nd} (h : Val t) (hk : k ∈ t.ks) : depth (nmd [] k) < depth t := by
  rw [depth_nmd, depth_eq t, if_pos (h.cont (by intro e; rw [e] at hk; cases hk))]
  have := depths_le hk
  omega
theorem laid_named : ∀ ks : List (Tr Nd), laid ((ks.map fun k => k.nd.name).zip (ks.map fun k => flat (nmd [] k))) = flats ks
  | [] => rfl
  | k :: ks => by
    rw [List.map_cons, List.map_cons, List.zip_cons_cons, laid_cons, laid_named ks, flats_cons]
    show setNm k.nd.name (flat (nmd [] k)) ++ _ = _
    rw [← flat_nmd, nmd_nmd, nmd_self]
theorem obj_again {t : Tr Nd} (h : Val t) (hk : t.nd.kind = 6) : objB (t.ks.map fun k => k.nd.name) (t.ks.map fun k => flat (nmd [] k)) = true ∧ objV (t.ks.map fun k => k.nd.name) (t.ks.map fun k => flat (nmd [] k)) = flat t := by
  obtain ⟨h1, h2⟩ := h.named hk
  have hr : (t.ks.map fun k => k.nd.name).Pairwise (· < ·) := List.pairwise_map.2 h1
  have hb : objB (t.ks.map fun k => k.nd.name) (t.ks.map fun k => flat (nmd [] k)) = true := by
    refine objB_iff.2 ⟨by simp, ?_, fun s hs => ?_⟩
    · exact hr.imp (fun {a b} hab (e : a = b) => by subst e; exact List.lt_irrefl a hab)
    · obtain ⟨k, hk', rfl⟩ := List.mem_map.1 hs
      exact h2 k hk'
  refine ⟨hb, ?_⟩
  have hz : rises ((t.ks.map fun k => k.nd.name).zip (t.ks.map fun k => flat (nmd [] k))) := by
    have := List.pairwise_map (f := Prod.fst) (l := (t.ks.map fun k => k.nd.name).zip (t.ks.map fun k => flat (nmd [] k))) (R := (· < ·))
    rw [zip_keys (by simp)] at this
    exact this.1 hr
  rw [objV, if_pos hb, srt_of (List.Perm.refl _) hz, laid_named]
  conv => rhs; rw [h.obj hk, flat_objT]
  rw [List.length_map]
theorem arr_again {t : Tr Nd} (h : Val t) (hk : t.nd.kind = 5) : hdN 5 (t.ks.map fun k => flat (nmd [] k)).length :: laid ((t.ks.map fun k => flat (nmd [] k)).map fun l => ([], l)) = flat t := by
  have hn := h.unnamed hk
  have hv : ∀ k ∈ t.ks, Val k := fun k hk' => ⟨(h.parts k hk').1, (h.parts k hk').2, hn k hk'⟩
  rw [nmd_all hn, list_tree hv, ← h.arr hk]
theorem depth_leaf {t : Tr Nd} (h5 : t.nd.kind ≠ 5) (h6 : t.nd.kind ≠ 6) : depth t = 0 := by
  rw [depth_eq, if_neg]
  simp [cont, h5, h6]
theorem mem_flats : ∀ {ts : List (Tr Nd)} {k : Tr Nd} {n : Nd}, k ∈ ts → n ∈ flat k → n ∈ flats ts
  | t :: ts, k, n, h, hn => by
    rw [flats_cons, List.mem_append]
    rcases List.mem_cons.1 h with rfl | h
    · exact .inl hn
    · exact .inr (mem_flats h hn)
theorem len_flats : ∀ {ts : List (Tr Nd)} {k : Tr Nd}, k ∈ ts → (flat k).length ≤ (flats ts).length
  | t :: ts, k, h => by
    rw [flats_cons, List.length_append]
    rcases List.mem_cons.1 h with rfl | h
    · omega
    · have := len_flats h; omega
theorem sum_flats : ∀ ts : List (Tr Nd), ((ts.map flat).map List.length).sum = (flats ts).length
  | [] => rfl
  | t :: ts => by rw [List.map_cons, List.map_cons, List.sum_cons, sum_flats ts, flats_cons, List.length_append]
end Vp
open Go.RowKit Np Rw in
/-- The names of an object's parts. -/
def namesT (t : Tr Nd) : List (List UInt8) := if t.nd.kind = 6 then t.ks.map (fun k => k.nd.name) else []
end Go.Proofs.Ytbffeffplabaeaa

/-
  What the document's own Pick answers: the keys at these places.
-/
namespace Go.Proofs.Ytbffeffplabaeaa
open Go.RowKit Np Rw Vp Ov

/-- Rows that are few are keys. -/
theorem keys_of {w : World} {v : Value} {L : List (List Nd)} (h : Vls w v L) (hf : allFew 60 L = true) : ∃ ts : List (Tr Nd), Keys w v ts ∧ ts.length ≤ 60 ∧ L = ts.map flat := by
  obtain ⟨hsum, hfew⟩ := oallFew_all hf
  obtain ⟨ts, hts, rfl⟩ := rows_trees L (fun l hl => (ofew_all (hfew l hl)).2.2)
  refine ⟨ts, ⟨h, hts, fun t ht => ?_⟩, ?_, rfl⟩
  · have := (ofew_all (hfew _ (List.mem_map_of_mem ht))).1
    omega
  · unfold sumL at hsum
    simp at hsum
    omega
/-- The keys at these places. -/
def pickT (ts : List (Tr Nd)) (P : List Nat) : List (Tr Nd) := P.map fun i => ts.getD i (.mk zeroN [])
theorem pickT_len (ts : List (Tr Nd)) (P : List Nat) : (pickT ts P).length = P.length := by simp [pickT]
theorem cat_pick (ts : List (Tr Nd)) (P : List Nat) {i k : Nat} (hi : i < P.length) (hk : k < P.length) : cat (pickT ts P) i k = cat ts P[i] P[k] := by
  unfold cat
  simp [pickT, List.getD, hi, hk]
/-- What is picked so far. -/
structure PkS (ts : List (Tr Nd)) (w : World) (P : List Nat) (k : Nat) (ov : Value) (wr : World) : Prop where
  ow : ∃ zs, Own slc 1 23 w.heap.size wr ov zs ∧ Els w zs ((pickT ts (P.take k)).map flat) ∧ zs.length = k
  bl : Below w.heap.size w wr
structure PkR (ts : List (Tr Nd)) (w : World) (P : List Nat) (n : Nat) (iv ov : Value) (wr : World) : Prop where
  ex : ∃ (k : Nat) (A : Option Addr) (c : Nat), k ≤ n ∧ iv = .int .i64 k ∧ ov = .slice A k c ∧ Hid (PkS ts w P k ov wr)

set_option maxRecDepth 100000 in
set_option maxHeartbeats 4000000 in
theorem refPick_any (v u : Value) (ts : List (Tr Nd)) (P : List Nat) (w : World) (h : Keys w v ts) (hu : Ins w u (P.map Int.ofNat)) (hP : ∀ x ∈ P, x < ts.length) (hn : P.length ≤ 100000) :
    Calls Try.prog 22 #[v, u] w fun e w' => ∃ (A : Option Addr) (c : Nat), e = .returned (.slice A P.length c) ∧ Keys w' (.slice A P.length c) (pickT ts P) ∧ Below w.heap.size w w' := by
  have HH := Lib.hid h
  have HU := Lib.hid hu
  have HP := Lib.hid hP
  obtain ⟨A, c, hvl⟩ : ∃ (A : Option Addr) (c : Nat), v = .slice A ts.length c := by
    obtain ⟨vs, hl, ⟨A, c, hv, -⟩, -⟩ := h.vls
    rw [List.length_map] at hl
    exact ⟨A, c, by rw [hv, hl]⟩
  subst hvl
  obtain ⟨B, d, rfl, -⟩ := hu
  rw [List.length_map] at HU ⊢
  clear h hP
  generalize hpn : P.length = n at *
  have HPN := Lib.hid hpn
  generalize hnn : ts.length = m at *
  have HM := Lib.hid hnn
  clear hnn hpn
  have hO : Own slc 1 23 w.heap.size (w.alloc (.cells #[] 23)) (.slice (some ⟨w.heap.size, 0, none⟩) 0 0) [] := Own.lit slc_len w #[] [] (Nat.le_refl _) (by simp) rfl
  have HO0 : Hid (PkS ts w P 0 (.slice (some ⟨w.heap.size, 0, none⟩) 0 0) (w.alloc (.cells #[] 23))) := Lib.hid ⟨⟨[], hO, ⟨rfl, fun k z l hz => by simp at hz⟩, rfl⟩, (Below.refl _ _).alloc (Nat.le_refl _) _⟩
  clear hO
  go_enter Try.func22, Try.ntmps22
  go_wp2_with fail
  go_loopw [6, 5] (fun iv ov wr => PkR ts w P n iv ov wr) (fun iv _ _ => n - (intOf iv).toNat)
  case atStart => exact ⟨0, some ⟨w.heap.size, 0, none⟩, 0, Nat.zero_le _, rfl, rfl, HO0⟩
  case round =>
    obtain ⟨k, A1, c1, hk, rfl, rfl, HG⟩ := hrel.ex
    by_cases hlt : k < n
    · have hkP : k < P.length := by rw [HPN.out]; exact hlt
      have htk : P.take (k + 1) = P.take k ++ [P[k]] := List.take_succ_eq_append_getElem hkP
      obtain ⟨g1, o1, c1', e1, -, -, hg1, hx1⟩ := HU.out.opened (by rw [List.length_map, HPN.out]; omega)
      injection e1 with e1 e2 e3
      subst e1
      have p1 : w.cell? ⟨g1, o1 + k, none⟩ = some (.int .i64 (P[k] : Nat)) := (hx1 k (P[k] : Nat) (by rw [List.getElem?_map, List.getElem?_eq_getElem hkP]; rfl)).int
      have q1 := (HG.out.bl.cell (p := ⟨g1, o1 + k, none⟩) hg1).trans p1
      have hPk : P[k] < ts.length := by rw [HM.out]; exact HP.out _ (List.getElem_mem hkP)
      obtain ⟨g2, o2, cc, A2, m2, d2, hv2, hg2, hc2, hn2, -⟩ := HH.out.at (i := P[k]) hPk
      injection hv2 with f1 f2 f3
      subst f1
      have q2 := (HG.out.bl.cell (p := ⟨g2, o2 + P[k], none⟩) hg2).trans hc2
      have hn3 : Nds w (.slice A2 m2 d2) (flat (ts.getD P[k] (.mk zeroN []))) := by rw [getD_at hPk]; exact hn2
      obtain ⟨zs, ho, hels, hzl⟩ := HG.out.ow
      have HO := Lib.hid ho
      have HEL := Lib.hid hels
      have HZ := Lib.hid hzl
      have HN3 := Lib.hid hn3
      have HTK := Lib.hid htk
      have hPm : P[k] < m := by rw [← HM.out]; exact hPk
      have HB := Lib.hid HG.out.bl
      clear p1 hx1 e2 e3 htk hPk hn2 hc2 f2 f3 hn3 ho hels hzl
      generalize P[k] = x at *
      have hr : Row slc 1 (wr.alloc (.cells #[.slice A2 m2 d2] 23)) (.slice (some ⟨wr.heap.size, 0, none⟩) 1 1) [(A2, m2, d2)] := Row.lit slc_len wr 23 #[.slice A2 m2 d2] [(A2, m2, d2)] (by unfold maxLen; simp) rfl
      have HR := Lib.hid hr
      have HO2 := Lib.hid (HO.out.alloc (.cells #[.slice A2 m2 d2] 23))
      clear hr
      go_wp2_with (at_builtin; refine wpList_append_row (base := w.heap.size) elVal rfl _ _ rfl rfl HO2.out rfl HR.out ?_ ?_ ?_ ?_)
      · rw [HZ.out]; unfold maxLen; simp; omega
      · rw [HZ.out]; simp; omega
      · have := HB.out.size; simp; omega
      · intro A4 c4 w4 hown4 hg4 hwh4
        have hb4 : Below wr.heap.size wr (wr.alloc (.cells #[.slice A2 m2 d2] 23)) := (Below.refl _ _).alloc (Nat.le_refl _) _
        have hk4 : Below w.heap.size (wr.alloc (.cells #[.slice A2 m2 d2] 23)) w4 := HO2.out.kept hg4 (by have := HB.out.size; simp; omega)
        have hb5 : Below w.heap.size w w4 := (HB.out.trans (hb4.mono HB.out.size)).trans hk4
        have HS : Hid (PkS ts w P (k + 1) (.slice A4 (zs.length + 1) c4) w4) := Lib.hid (by
          have h9 : (zs ++ [(A2, m2, d2)]).length = k + 1 := by rw [List.length_append, HZ.out]; rfl
          have hown5 : Own slc 1 23 w.heap.size w4 (.slice A4 (zs.length + 1) c4) (zs ++ [(A2, m2, d2)]) := by simpa using hown4
          refine ⟨⟨zs ++ [(A2, m2, d2)], hown5, ?_, h9⟩, hb5⟩
          rw [HTK.out, pickT, List.map_append, List.map_append]
          exact HEL.out.snoc HN3.out)
        clear hown4 hg4 hwh4 hb4 hk4 hb5
        go_wp2_with fail
        go_roundw
        case rel => exact ⟨k + 1, A4, c4, by omega, by go_num, by simp [HZ.out], HS⟩
        case measure => simp [intOf]; omega
    · obtain rfl : k = n := by omega
      obtain ⟨zs, ho, hels, hzl⟩ := HG.out.ow
      have hF : Keys wr (.slice A1 k c1) (pickT ts P) := by
        rw [show P.take k = P from List.take_of_length_le (by rw [HPN.out]; omega)] at hels
        refine ⟨(hels.below HG.out.bl).vls (ho.row slc_len), ?_, ?_⟩
        · intro t ht
          obtain ⟨i, hi, rfl⟩ := List.mem_map.1 ht
          have h1 : i < ts.length := by rw [HM.out]; exact HP.out i hi
          rw [getD_at h1]; exact HH.out.val _ (List.getElem_mem _)
        · intro t ht
          obtain ⟨i, hi, rfl⟩ := List.mem_map.1 ht
          have h1 : i < ts.length := by rw [HM.out]; exact HP.out i hi
          rw [getD_at h1]; exact HH.out.len _ (List.getElem_mem _)
      have HF := Lib.hid hF
      have HB := Lib.hid HG.out.bl
      clear ho hels hF
      go_wp2_with fail
      go_ret
      exact ⟨A1, c1, rfl, HF.out, HB.out⟩
end Go.Proofs.Ytbffeffplabaeaa

/-
  The walk of the statement OrderJoined: it returns true.
-/
namespace Go.Proofs.Ytbffeffplabaeaa
open Go.RowKit Np Rw Vp Ov

/-- All groups so far, one behind the other. -/
structure JoS (w1 : World) (G : List (List Nat)) (k : Nat) (av : Value) (wr : World) : Prop where
  ow : Own inc 1 3 w1.heap.size wr av ((G.take k).flatten.map Int.ofNat)
  bl : Below w1.heap.size w1 wr
structure JoR (w1 : World) (G : List (List Nat)) (m : Nat) (iv av : Value) (wr : World) : Prop where
  ex : ∃ (k : Nat) (A : Option Addr) (q c : Nat), k ≤ m ∧ iv = .int .i64 k ∧ av = .slice A q c ∧ q = ((G.take k).flatten).length ∧ Hid (JoS w1 G k av wr)
structure InR (w1 : World) (n : Nat) (iv : Value) (wr : World) : Prop where
  ex : ∃ k : Nat, k ≤ n ∧ iv = .int .i64 k ∧ Hid (Below w1.heap.size w1 wr)
theorem take_flat_le (G : List (List Nat)) (k : Nat) : ((G.take k).flatten).length ≤ G.flatten.length := by
  conv => rhs; rw [← List.take_append_drop k G]
  rw [List.flatten_append, List.length_append]
  omega
theorem flat_le {G : List (List Nat)} {g : List Nat} (hg : g ∈ G) : g.length ≤ G.flatten.length := by
  induction G with
  | nil => cases hg
  | cons a G ih =>
    rw [List.flatten_cons, List.length_append]
    rcases List.mem_cons.1 hg with rfl | h
    · omega
    · have := ih h; omega
theorem many_le {G : List (List Nat)} (h : ∀ g ∈ G, g ≠ []) : G.length ≤ G.flatten.length := by
  induction G with
  | nil => simp
  | cons a G ih =>
    rw [List.flatten_cons, List.length_append, List.length_cons]
    have h1 := ih fun g hg => h g (by simp [hg])
    have h2 : 0 < a.length := List.length_pos_iff.2 (h a (by simp))
    omega

set_option maxRecDepth 100000 in
set_option maxHeartbeats 4000000 in
theorem orderJoined_all (v : Value) (ts : List (Tr Nd)) (w : World) (h : Keys w v ts) (hn : ts.length ≤ 60) (hf : allFew 60 (ts.map flat) = true) (hAF : ∀ W, Below w.heap.size w W → Calls Try.prog 10 #[v, .int .i64 (60 : Nat)] W fun e w' => e = .returned (.bool (allFew 60 (ts.map flat))) ∧ Below W.heap.size W w') :
    Calls Try.prog 7 #[v] w fun e w' => e = .returned (.bool true) ∧ Below w.heap.size w w' := by
  have HH := Lib.hid h
  have HAF := Lib.hid hAF
  have HF := Lib.hid hf
  have HS := Lib.hid (fun (W : World) (hb : Below w.heap.size w W) => sort_any v ts W (h.below hb) (by omega))
  have HGS := Lib.hid (fun (W : World) (hb : Below w.heap.size w W) => groups_any v ts W (h.below hb) (by omega))
  obtain ⟨A, c, hvl⟩ : ∃ (A : Option Addr) (c : Nat), v = .slice A ts.length c := by
    obtain ⟨vs, hl, ⟨A, c, hv, -⟩, -⟩ := h.vls
    rw [List.length_map] at hl
    exact ⟨A, c, by rw [hv, hl]⟩
  clear h hAF hf
  subst hvl
  generalize hnn : ts.length = n at *
  have HN := Lib.hid hnn
  clear hnn
  have HGD : Hid (∀ g ∈ grps (cat ts) n, Gd (cat ts) g) := Lib.hid (grps_good (cat_cp ts) n)
  have HGX : Hid (∀ g ∈ grps (cat ts) n, ∀ x ∈ g, x < n) := Lib.hid fun g hg x hx => grps_lt hg hx
  have HGR : Hid (∀ (i : Nat) (a b : List Nat), (grps (cat ts) n)[i]? = some a → (grps (cat ts) n)[i + 1]? = some b → ∀ x y, a.head? = some x → b.head? = some y → cat ts x y < 0) := Lib.hid fun i a b ha hb x y hx hy => grps_rise (cat_cp ts) n ha hb hx hy
  have HGF : Hid ((grps (cat ts) n).flatten = plc (cat ts) n) := Lib.hid (grps_flat _ _)
  have HGN : Hid ((grps (cat ts) n).flatten.length = n) := Lib.hid (by rw [grps_flat, plc_len])
  generalize plc (cat ts) n = P at *
  generalize grps (cat ts) n = G at *
  go_enter Try.func7, Try.ntmps7
  go_wp2_with fail
  refine (HAF.out _ (Below.refl _ _)).mono ?_
  rintro e w0 ⟨rfl, hb0⟩
  rw [HF.out]
  have HB0 := Lib.hid hb0
  clear hb0
  go_wp2_with fail
  refine (HGS.out _ HB0.out).mono ?_
  rintro e w1 ⟨A1, m, c1, zs, rfl, hgr, hb1⟩
  have hrz : Rowz inc 1 w1 (.slice A1 m c1) (intG G) := hgr.fam.rows (hgr.hd.row slc_len)
  obtain rfl : m = G.length := by
    have h1 := (Own.cap hgr.hd).1
    have h2 := hgr.fam.len
    rw [List.length_map] at h2
    omega
  have HRZ := Lib.hid hrz
  have HB1 := Lib.hid (Below.after HB0.out hb1)
  clear hgr hb1 hrz
  have hGm : G.length ≤ 60 := by
    have := many_le (G := G) (fun g hg => (HGD.out g hg).ne)
    rw [HGN.out] at this
    omega
  generalize hm : G.length = m at *
  have HM := Lib.hid hm
  clear hm
  have hO : Own inc 1 3 w1.heap.size (w1.alloc (.cells #[] 3)) (.slice (some ⟨w1.heap.size, 0, none⟩) 0 0) [] := Own.lit inc_len w1 #[] [] (Nat.le_refl _) (by simp) rfl
  have HO0 : Hid (JoS w1 G 0 (.slice (some ⟨w1.heap.size, 0, none⟩) 0 0) (w1.alloc (.cells #[] 3))) := Lib.hid ⟨hO, (Below.refl _ _).alloc (Nat.le_refl _) _⟩
  clear hO
  go_wp2_with fail
  go_loopw [5, 4] (fun iv av wr => JoR w1 G m iv av wr) (fun iv _ _ => m - (intOf iv).toNat)
  case atStart => exact ⟨0, some ⟨w1.heap.size, 0, none⟩, 0, 0, Nat.zero_le _, rfl, rfl, rfl, HO0⟩
  case round =>
    obtain ⟨i, A2, q, c2, hi, rfl, rfl, hq, HG⟩ := hrel.ex
    have HQ := Lib.hid hq
    clear hq
    by_cases hlt : i < m
    · have hiG : i < G.length := by rw [HM.out]; exact hlt
      have hiI : i < (intG G).length := by rw [List.length_map]; exact hiG
      obtain ⟨gg, og, cg, B, d, hvg, hgg, hcg, hrg⟩ := HRZ.out.at hiI
      have hgl : (intG G)[i] = G[i].map Int.ofNat := List.getElem_map _
      rw [hgl, List.length_map] at hcg hrg
      rw [List.length_map, HM.out] at hvg
      injection hvg with e1 e2 e3
      subst e1 e3
      have hgm : G[i] ∈ G := List.getElem_mem hiG
      have HGI : Hid (G[i]? = some G[i]) := Lib.hid (List.getElem?_eq_getElem hiG)
      have htk : G.take (i + 1) = G.take i ++ [G[i]] := List.take_succ_eq_append_getElem hiG
      have hfl : G[i].length ≤ 60 := by
        have := flat_le hgm
        rw [HGN.out] at this
        omega
      have HD := Lib.hid (HGD.out _ hgm)
      have HX := Lib.hid (HGX.out _ hgm)
      have HTK := Lib.hid htk
      clear hgm htk hgl e2
      generalize G[i] = gr at *
      obtain ⟨hd, tl, rfl⟩ : ∃ hd tl, gr = hd :: tl := List.exists_cons_of_ne_nil HD.out.ne
      obtain ⟨gb, ob, cb, e1, -, -, hgb, hxb⟩ := hrg.opened (by simp)
      injection e1 with e1 e2 e3
      subst e1
      have HCX : Hid (∀ (k x : Nat), (hd :: tl)[k]? = some x → ∀ W, Below w1.heap.size w1 W → W.cell? ⟨gb, ob + k, none⟩ = some (.int .i64 (x : Nat))) := Lib.hid fun k x hx W hb => (hb.cell (p := ⟨gb, ob + k, none⟩) hgb).trans ((hxb k (x : Nat) (by rw [List.getElem?_map, hx]; rfl)).int)
      have HCG : Hid (∀ W, Below w1.heap.size w1 W → W.cell? ⟨gg, og + i, none⟩ = some (.slice (some ⟨gb, ob, none⟩) (hd :: tl).length d)) := Lib.hid fun W hb => (hb.cell (p := ⟨gg, og + i, none⟩) hgg).trans hcg
      have HRG := Lib.hid hrg
      have hpos : 0 < (hd :: tl).length := by simp
      have q1 := HCG.out wr HG.out.bl
      clear hcg hrg hxb e2 e3
      generalize hln : (hd :: tl).length = ln at *
      have HLN := Lib.hid hln
      clear hln
      have HBR := Lib.hid HG.out.bl
      have HBQ := Lib.hid (Below.refl wr.heap.size wr)
      have hl0 : (0 : Int) < (ln : Int) := by omega
      have hl9 : ((ln : Int) == 0) = false := by simp; omega
      go_wp2_with fail
      clear q1
      rename World => wq
      go_loopw [6] (fun iv wr => InR wq ln iv wr) (fun iv _ => ln - (intOf iv).toNat)
      case atStart => exact ⟨0, Nat.zero_le _, rfl, HBQ⟩
      case round =>
        obtain ⟨k, hk, rfl, HWQ⟩ := hrel.ex
        have HW : Hid (Below w1.heap.size w1 wr) := Lib.hid (HBR.out.trans (HWQ.out.mono HBR.out.size))
        have q1 := HCG.out wr HW.out
        by_cases hlt2 : k < ln
        · have hkl : k < (hd :: tl).length := by rw [HLN.out]; exact hlt2
          have HKX : Hid ((hd :: tl)[k]? = some (hd :: tl)[k]) := Lib.hid (List.getElem?_eq_getElem hkl)
          have hxm : (hd :: tl)[k] ∈ hd :: tl := List.getElem_mem hkl
          have hxn := HX.out _ hxm
          have hhn := HX.out hd (by simp)
          have hsm := HD.out.sm hd (by simp) _ hxm
          clear hxm
          generalize (hd :: tl)[k] = x at *
          have q2 := HCX.out k x HKX.out wr HW.out
          have q3 := HCX.out 0 hd rfl wr HW.out
          rw [Nat.add_zero] at q3
          obtain ⟨g2, o2, cc, A3, m3, d3, hv2, hg2, hc2, hn2, -⟩ := HH.out.at (i := x) (by rw [HN.out]; exact hxn)
          obtain ⟨g3, o3, cc3, A4, m4, d4, hv3, hg3, hc3, hn3, -⟩ := HH.out.at (i := hd) (by rw [HN.out]; exact hhn)
          injection hv2 with f1 f2 f3
          injection hv3 with f4 f5 f6
          have f7 := f1.symm.trans f4
          injection f7 with f7
          injection f7 with f7 f8 f9
          subst f1 f7 f8
          have hB0 : Below w.heap.size w wr := HB1.out.trans (HW.out.mono HB1.out.size)
          have HB0' := Lib.hid hB0
          have q4 := (hB0.cell (p := ⟨g2, o2 + x, none⟩) hg2).trans hc2
          have q5 := (hB0.cell (p := ⟨g2, o2 + hd, none⟩) hg3).trans hc3
          have hsame : flat (ts[x]'(by rw [HN.out]; exact hxn)) = flat (ts[hd]'(by rw [HN.out]; exact hhn)) := ((cat_zero HH.out.val (i := hd) (k := x) (by rw [HN.out]; exact hhn) (by rw [HN.out]; exact hxn)).1 hsm).symm
          have HSM : Hid (∀ W, Below wr.heap.size wr W → Calls Try.prog 21 #[.slice A3 m3 d3, .slice A4 m4 d4] W fun e w' => e = .returned (.bool true) ∧ Below W.heap.size W w') := Lib.hid fun W hb => by
            have h1 := refSame_any _ _ _ _ W (hn2.below (hB0.trans (hb.mono hB0.size))) (hn3.below (hB0.trans (hb.mono hB0.size)))
            rwa [decide_eq_true hsame] at h1
          have hl1 : gg < wr.heap.size := World.block_lt_of_cell? _ _ q1
          have hl2 : gb < wr.heap.size := World.block_lt_of_cell? _ _ q2
          have hl3 : g2 < wr.heap.size := World.block_lt_of_cell? _ _ q4
          have HKP : Hid (∀ W, Below wr.heap.size wr W → W.cell? ⟨gg, og + i, none⟩ = some (.slice (some ⟨gb, ob, none⟩) ln d) ∧ W.cell? ⟨gb, ob + k, none⟩ = some (.int .i64 (x : Nat)) ∧ W.cell? ⟨gb, ob, none⟩ = some (.int .i64 (hd : Nat)) ∧ W.cell? ⟨g2, o2 + x, none⟩ = some (.slice A3 m3 d3) ∧ W.cell? ⟨g2, o2 + hd, none⟩ = some (.slice A4 m4 d4) ∧ Below wr.heap.size wr W) := Lib.hid fun W hb => ⟨(hb.cell (p := ⟨gg, og + i, none⟩) hl1).trans q1, (hb.cell (p := ⟨gb, ob + k, none⟩) hl2).trans q2, (hb.cell (p := ⟨gb, ob, none⟩) hl2).trans q3, (hb.cell (p := ⟨g2, o2 + x, none⟩) hl3).trans q4, (hb.cell (p := ⟨g2, o2 + hd, none⟩) hl3).trans q5, hb⟩
          have HWD : Hid (Below wr.heap.size wr wr.drew) := Lib.hid (Below.refl _ wr).drew
          have hx0 : ¬ (x : Int) < 0 := by omega
          have hx1 : ¬ (x : Int) ≥ (n : Int) := by omega
          have hx2 : (x : Int) < (n : Int) := by omega
          have hx3 : (0 : Int) ≤ (x : Int) := by omega
          have hh2 : (hd : Int) < (n : Int) := by omega
          have hh3 : (0 : Int) ≤ (hd : Int) := by omega
          have hi2 : (i : Int) < (m : Int) := by omega
          have hi3 : (0 : Int) ≤ (i : Int) := by omega
          have hk2 : (k : Int) < (ln : Int) := by omega
          have hk3 : (0 : Int) ≤ (k : Int) := by omega
          clear hc2 hc3 hn2 hn3 f2 f3 f4 f5 f6 f9 hB0 q2 q3 q4 q5 hl1 hl2 hl3 hsm hsame hg2 hg3
          go_upto_region 13 with fail
          go_cut [77] (fun s77 wx => s77 = .bool false ∧ Hid (Below wr.heap.size wr wx))
          case first =>
            clear q1
            obtain ⟨q1, q2, q3, q4, q5, -⟩ := HKP.out wr (Below.refl _ _)
            go_region_held3 (fun w' => w'.cell? ⟨gg, og + i, none⟩ = some (.slice (some ⟨gb, ob, none⟩) ln d) ∧ w'.cell? ⟨gb, ob + k, none⟩ = some (.int .i64 (x : Nat)) ∧ w'.cell? ⟨gb, ob, none⟩ = some (.int .i64 (hd : Nat)) ∧ w'.cell? ⟨g2, o2 + x, none⟩ = some (.slice A3 m3 d3) ∧ w'.cell? ⟨g2, o2 + hd, none⟩ = some (.slice A4 m4 d4) ∧ Below wr.heap.size wr w')
              (first | exact HKP.out _ HWD.out | exact HKP.out _ (HBW.out.trans (hb3.mono HBW.out.size)) | go_keep)
              ((go_at_call 21; have HBW : Hid (Below wr.heap.size wr _) := Lib.hid (by assumption); refine (HSM.out _ HBW.out).mono ?_; rintro e w3 ⟨rfl, hb3⟩))
            all_goals go_wp2_with fail
            all_goals go_meet
            all_goals exact ⟨rfl, Lib.hid (HBW.out.trans (hb3.mono HBW.out.size))⟩
          case rest =>
            obtain ⟨rfl, HWC⟩ := hcut
            go_wp2_with fail
            go_roundw
            case rel => exact ⟨k + 1, by omega, by go_num, Lib.hid (HWQ.out.trans (HWC.out.mono HWQ.out.size))⟩
            case measure => simp [intOf]; omega
        · obtain rfl : k = ln := by omega
          have HO := Lib.hid (HG.out.ow.below HWQ.out)
          have HRG2 := Lib.hid (HRG.out.below HW.out)
          have HQL : Hid (q + k ≤ 60) := Lib.hid (by
            have h1 := take_flat_le G (i + 1)
            rw [HTK.out, List.flatten_append, List.length_append, HGN.out] at h1
            simp only [List.flatten_cons, List.flatten_nil, List.append_nil, HLN.out] at h1
            have := HQ.out
            omega)
          clear hrel
          go_upto_region 15 with fail
          go_cut [102] (fun s102 wx => s102 = .bool false ∧ Hid (Below wr.heap.size wr wx))
          case first =>
            by_cases h0 : i = 0
            · subst h0
              clear q1
              go_wp2_with fail
              go_quiet (fail)
              all_goals go_wp2_with fail
              all_goals go_meet
              all_goals exact ⟨rfl, Lib.hid (below_quiet ⟨_, rfl⟩)⟩
            · obtain ⟨j, hj⟩ : ∃ j, j + 1 = i := ⟨i - 1, by omega⟩
              have hjG : j < G.length := by omega
              have hjI : j < (intG G).length := by rw [List.length_map]; exact hjG
              obtain ⟨gg2, og2, cg2, B2, dp, hvg, hgg2, hcg, hrg⟩ := HRZ.out.at hjI
              have hgl : (intG G)[j] = G[j].map Int.ofNat := List.getElem_map _
              rw [hgl, List.length_map] at hcg hrg
              rw [List.length_map, HM.out] at hvg
              injection hvg with e1 e2 e3
              injection e1 with e1
              injection e1 with e1 e4 e5
              subst e1 e4
              have hGJ : G[j]? = some G[j] := List.getElem?_eq_getElem hjG
              have hgm : G[j] ∈ G := List.getElem_mem hjG
              have hne := (HGD.out _ hgm).ne
              have hXj := HGX.out _ hgm
              generalize G[j] = grp at *
              obtain ⟨hp, tp, rfl⟩ : ∃ hp tp, grp = hp :: tp := List.exists_cons_of_ne_nil hne
              obtain ⟨gp, op, cb2, e6, -, -, hgp, hxp⟩ := hrg.opened (by simp)
              injection e6 with e6 e7 e8
              subst e6
              have hcp : w1.cell? ⟨gp, op, none⟩ = some (.int .i64 (hp : Nat)) := by
                have := (hxp 0 (hp : Nat) rfl).int
                rwa [Nat.add_zero] at this
              have hlt0 : cat ts hp hd < 0 := HGR.out j _ _ hGJ (by rw [hj]; exact HGI.out) hp hd rfl rfl
              have hpn := hXj hp (by simp)
              have hhn := HX.out hd (by simp)
              have q2 := (HW.out.cell (p := ⟨gg, og + j, none⟩) hgg).trans hcg
              have q3 := (HW.out.cell (p := ⟨gp, op, none⟩) hgp).trans hcp
              have q4 := HCX.out 0 hd rfl wr HW.out
              rw [Nat.add_zero] at q4
              obtain ⟨g2, o2, cc, A3, m3, d3, hv2, hg2, hc2, hn2, -⟩ := HH.out.at (i := hp) (by rw [HN.out]; exact hpn)
              obtain ⟨g3, o3, cc3, A4, m4, d4, hv3, hg3, hc3, hn3, -⟩ := HH.out.at (i := hd) (by rw [HN.out]; exact hhn)
              injection hv2 with f1 f2 f3
              injection hv3 with f4 f5 f6
              have f7 := f1.symm.trans f4
              injection f7 with f7
              injection f7 with f7 f8 f9
              subst f1 f7 f8
              have hB0 : Below w.heap.size w wr := HB1.out.trans (HW.out.mono HB1.out.size)
              have q5 := (hB0.cell (p := ⟨g2, o2 + hp, none⟩) hg2).trans hc2
              have q6 := (hB0.cell (p := ⟨g2, o2 + hd, none⟩) hg3).trans hc3
              have HSM : Hid (∀ W, Below wr.heap.size wr W → Calls Try.prog 12 #[.slice A3 m3 d3, .slice A4 m4 d4] W fun e w' => e = .returned (.int .i64 (cat ts hp hd)) ∧ Below W.heap.size W w') := Lib.hid fun W hb => by
                have h1 := ordCmp_any _ _ _ _ W (hn2.below (hB0.trans (hb.mono hB0.size))) (hn3.below (hB0.trans (hb.mono hB0.size))) (HH.out.val _ (List.getElem_mem _)) (HH.out.val _ (List.getElem_mem _)) (HH.out.len _ (List.getElem_mem _)) (HH.out.len _ (List.getElem_mem _))
                unfold cat
                rw [getD_at (by rw [HN.out]; exact hpn), getD_at (by rw [HN.out]; exact hhn)]
                exact h1
              generalize cat ts hp hd = cc9 at *
              have hl1 : gg < wr.heap.size := World.block_lt_of_cell? _ _ q1
              have hl2 : gb < wr.heap.size := World.block_lt_of_cell? _ _ q4
              have hl3 : g2 < wr.heap.size := World.block_lt_of_cell? _ _ q5
              have hl4 : gp < wr.heap.size := World.block_lt_of_cell? _ _ q3
              generalize hlp : (hp :: tp).length = lp at *
              have hlp0 : 0 < lp := by rw [← hlp]; simp
              have HKP : Hid (∀ W, Below wr.heap.size wr W → W.cell? ⟨gg, og + j, none⟩ = some (.slice (some ⟨gp, op, none⟩) lp dp) ∧ W.cell? ⟨gg, og + i, none⟩ = some (.slice (some ⟨gb, ob, none⟩) k d) ∧ W.cell? ⟨gp, op, none⟩ = some (.int .i64 (hp : Nat)) ∧ W.cell? ⟨gb, ob, none⟩ = some (.int .i64 (hd : Nat)) ∧ W.cell? ⟨g2, o2 + hp, none⟩ = some (.slice A3 m3 d3) ∧ W.cell? ⟨g2, o2 + hd, none⟩ = some (.slice A4 m4 d4) ∧ Below wr.heap.size wr W) := Lib.hid fun W hb => ⟨(hb.cell (p := ⟨gg, og + j, none⟩) hl1).trans q2, (hb.cell (p := ⟨gg, og + i, none⟩) hl1).trans q1, (hb.cell (p := ⟨gp, op, none⟩) hl4).trans q3, (hb.cell (p := ⟨gb, ob, none⟩) hl2).trans q4, (hb.cell (p := ⟨g2, o2 + hp, none⟩) hl3).trans q5, (hb.cell (p := ⟨g2, o2 + hd, none⟩) hl3).trans q6, hb⟩
              have HWD : Hid (Below wr.heap.size wr wr.drew) := Lib.hid (Below.refl _ wr).drew
              have hx2 : (hp : Int) < (n : Int) := by omega
              have hx3 : (0 : Int) ≤ (hp : Int) := by omega
              have hh2 : (hd : Int) < (n : Int) := by omega
              have hh3 : (0 : Int) ≤ (hd : Int) := by omega
              have hi2 : (i : Int) < (m : Int) := by omega
              have hi3 : (i : Int) > 0 := by omega
              have hi4 : 0 < i := by omega
              have hj2 : (j : Int) < (m : Int) := by omega
              have hl8 : (0 : Int) < (lp : Int) := by omega
              have hz3 : (i : Int) - 1 = (j : Int) := by omega
              have hw4 : IntKind.i64.wrap (j : Int) = (j : Int) := by rw [IntKind.wrap_i64]; omega
              have hw3 : IntKind.i64.wrap ((i : Int) - 1) = (j : Int) := by rw [IntKind.wrap_i64]; omega
              have hc9 : ¬ cc9 ≥ 0 := by omega
              clear hc2 hc3 hn2 hn3 f2 f3 f4 f5 f6 f9 hB0 hg2 hg3 hcg hrg hgl hGJ hgm hne hXj hxp hcp hlp e2 e3 e5 e7 e8 hjI
              clear hj
              go_region_held3 (fun w' => w'.cell? ⟨gg, og + j, none⟩ = some (.slice (some ⟨gp, op, none⟩) lp dp) ∧ w'.cell? ⟨gg, og + i, none⟩ = some (.slice (some ⟨gb, ob, none⟩) k d) ∧ w'.cell? ⟨gp, op, none⟩ = some (.int .i64 (hp : Nat)) ∧ w'.cell? ⟨gb, ob, none⟩ = some (.int .i64 (hd : Nat)) ∧ w'.cell? ⟨g2, o2 + hp, none⟩ = some (.slice A3 m3 d3) ∧ w'.cell? ⟨g2, o2 + hd, none⟩ = some (.slice A4 m4 d4) ∧ Below wr.heap.size wr w')
                (first | exact HKP.out _ HWD.out | exact HKP.out _ (HBW.out.trans (hb3.mono HBW.out.size)) | go_keep)
                ((go_at_call 12; have HBW : Hid (Below wr.heap.size wr _) := Lib.hid (by assumption); refine (HSM.out _ HBW.out).mono ?_; rintro e w3 ⟨rfl, hb3⟩))
              all_goals go_wp2_with fail
              all_goals go_meet
              all_goals exact ⟨congrArg Value.bool (by simp; omega), Lib.hid (HBW.out.trans (hb3.mono HBW.out.size))⟩
          case rest =>
            obtain ⟨rfl, HWC⟩ := hcut
            have HBX : Hid (Below w1.heap.size w1 wc) := Lib.hid (HW.out.trans (HWC.out.mono HW.out.size))
            have q2 := HCG.out wc HBX.out
            have HO2 := Lib.hid (HO.out.below HWC.out)
            have HRG3 := Lib.hid (HRG2.out.below HWC.out)
            have HLL : Hid (((G.take i).flatten.map Int.ofNat).length + ((hd :: tl).map Int.ofNat).length ≤ 60) := Lib.hid (by
              rw [List.length_map, List.length_map, HLN.out, ← HQ.out]; exact HQL.out)
            have HTF : Hid ((G.take (i + 1)).flatten.map Int.ofNat = (G.take i).flatten.map Int.ofNat ++ (hd :: tl).map Int.ofNat) := Lib.hid (by
              rw [HTK.out, List.flatten_append, List.map_append]; simp)
            have HTL : Hid (((G.take (i + 1)).flatten).length = ((G.take (i + 1)).flatten.map Int.ofNat).length) := Lib.hid (by rw [List.length_map])
            clear q1
            generalize (G.take i).flatten.map Int.ofNat = z1 at HO2 HLL HTF
            generalize (hd :: tl).map Int.ofNat = z2 at HRG3 HLL HTF
            go_wp2_with (at_builtin; refine wpList_append_row (base := w1.heap.size) elInt rfl _ _ rfl rfl HO2.out rfl HRG3.out ?_ ?_ ?_ ?_)
            · have := HLL.out; unfold maxLen; omega
            · have := HLL.out; omega
            · exact HBX.out.size
            · intro A5 c5 w5 hown5 hg5 hwh5
              have HK5 : Hid (Below w1.heap.size w1 w5) := Lib.hid (HBX.out.trans (HO2.out.kept hg5 HBX.out.size))
              have HO5 := Lib.hid hown5
              clear hown5 hg5 hwh5 q2
              go_wp2_with fail
              refine ⟨⟨i + 1, A5, _, c5, by omega, by congr 1, rfl, ?_, Lib.hid ⟨?_, HK5.out⟩⟩, ?_⟩
              · rw [HTL.out, HTF.out, List.length_append]
              · have h9 := HO5.out
                rw [HTF.out]
                simpa using h9
              · simp [intOf]; omega
    · obtain rfl : i = m := by omega
      have hInt : Ins wr (.slice A2 q c2) (P.map Int.ofNat) := by
        have h1 := HG.out.ow.row inc_len
        rwa [List.take_of_length_le (by rw [HM.out]; omega), HGF.out] at h1
      have HIN := Lib.hid hInt
      have HBW : Hid (Below w.heap.size w wr) := Lib.hid (HB1.out.trans (HG.out.bl.mono HB1.out.size))
      clear hInt hrel
      go_wp2_with fail
      refine (oalive_any _).mono ?_
      rintro e w2 ⟨rfl, hb2⟩
      have HB2 := Lib.hid (Below.after HBW.out hb2)
      have HI2 := Lib.hid (HIN.out.below hb2)
      clear hb2
      go_wp2_with fail
      refine (HS.out _ HB2.out).mono ?_
      rintro e w3 ⟨A3, n3, c3, rfl, hi3, hb3⟩
      have HB3 := Lib.hid (Below.after HB2.out hb3)
      have hI := refInts_any _ _ _ _ w3 (HI2.out.below hb3) hi3
      rw [decide_eq_true rfl] at hI
      have HI3 := Lib.hid hI
      clear hb3 hi3 hI
      go_wp2_with fail
      refine HI3.out.mono ?_
      rintro e w4 ⟨rfl, hb4⟩
      have HB4 := Lib.hid (Below.after HB3.out hb4)
      clear hb4
      go_wp2_with fail
      go_ret
      exact ⟨rfl, HB4.out⟩

set_option maxRecDepth 100000 in
set_option maxHeartbeats 4000000 in
theorem orderJoined_any (v : Value) (L : List (List Nd)) (w : World) (h : Vls w v L) (hb1 : L.length ≤ 140737488355328) (hb2 : ∀ l ∈ L, l.length ≤ 140737488355328) :
    Calls Try.prog 7 #[v] w fun e w' => e = .returned (.bool true) ∧ Below w.heap.size w w' := by
  have hAF := fun (W : World) (hb : Below w.heap.size w W) => refAll_any v L 60 W (h.below hb) (by decide) hb1 hb2
  cases hf : allFew 60 L with
  | true =>
    obtain ⟨ts, hK, hn, rfl⟩ := keys_of h hf
    exact orderJoined_all v ts w hK hn hf hAF
  | false =>
    have HAF := Lib.hid hAF
    have HF := Lib.hid hf
    obtain ⟨vs, hl, ⟨A, c, rfl, -⟩, -⟩ := h
    clear hAF hf hl
    generalize vs.length = n at *
    go_enter Try.func7, Try.ntmps7
    go_wp2_with fail
    refine (HAF.out _ (Below.refl _ _)).mono ?_
    rintro e w0 ⟨rfl, hb0⟩
    rw [HF.out]
    have HB0 := Lib.hid hb0
    clear hb0
    go_wp2_with fail
    refine (oalive_any _).mono ?_
    rintro e w1 ⟨rfl, hb1⟩
    have HB1 := Lib.hid (Below.after HB0.out hb1)
    clear hb1
    go_wp2_with fail
    go_ret
    exact ⟨rfl, HB1.out⟩
end Go.Proofs.Ytbffeffplabaeaa

/-
  The statement OrderJoined holds: called with any rows of nodes, whatever lies in memory, it returns true, and each argument reads as it read before. Conditions: none.
-/
namespace Go.Proofs.Ytbffeffplabaeaa
open Go.ChangeShapes Go.WideShapes Go.ChangeAt Go.RowKit Go.ChangeMaps

set_option maxRecDepth 100000 in
theorem orderJoined_lifted (os : Go.Os) (started : os.Started) (H : Type) (enc : TypeId × Value → H) :
    ReturnsInHanded {} Try.checked os 7 .any (Rows.orderJoinedSpec.pre6 enc Try.prog Try.f7 Rows.orderJoinedRow.domain false)
      (Rows.orderJoinedSpec.post enc Try.prog Try.f7 false true false false) := by
  refine returnsInHanded_of_change_sized (C := Try.checked) ownKn started (by kernel_rfl) Try.func7
    (ChangeSpec.witness6 (enc := enc) (C := Try.checked) false ⟨#[], #[.slice none 0 0], []⟩ 8 (by kernel_rfl) (by kernel_rfl) (by kernel_rfl) (by kernel_rfl)) ?_
  intro W base args ds gs before hval0 hW _ hwt0 _
  have hval : ∀ (j : Nat) t v, Try.f7.params[j]? = some t → args[j]? = some v → Value.okWide Try.prog W .any base t v := hval0
  have hW' := hW
  obtain ⟨p, q, hA0, hV, rfl, _, _⟩ := hW
  have hA : DataW.TrodAll enc Try.prog W 0 (fun _ => true) true Try.f7.params.toList args.toList ds p := hA0
  have hwt : (DataW.weightsEach Try.prog (Try.f7.params.toList ++ Rows.orderJoinedSpec.plain.varTypes Try.prog) (ds ++ gs)).all (· ≤ reachBytes) = true := hwt0
  rw [Try.params7] at hA hval
  obtain ⟨v0, d0, rfl, rfl, h0⟩ := trodAll_one hA
  obtain ⟨rfl, rfl⟩ := trodVars_none hV
  obtain ⟨l0, hl0, hn0, hm0⟩ := open_vals (hval 0 _ v0 rfl rfl) h0 (vals_sized (j := 0) (d := d0) hwt (by rw [Try.params7]; rfl) rfl)
  refine (orderJoined_any v0 l0 W hl0 hn0 hm0).mono fun e W' ⟨he, hb⟩ => ?_
  subst he
  exact ⟨_, rfl, law_post (tb := 4) laidOut hW' rfl Try.underlying4 (by kernel_rfl) rfl (by
    rw [Try.params7]
    intro t ht
    have hall : ([24].all fun t => Try.prog.readableRec t && decide (t < Try.prog.types.size)) = true := by kernel_rfl
    obtain ⟨h1, h2⟩ := Bool.and_eq_true_iff.1 (List.all_eq_true.1 hall t ht)
    exact ⟨h1, of_decide_eq_true h2⟩) hb⟩

theorem orderJoined_holds : Rows.OrderJoinedSaid :=
  OpenClaim.holds_of_wide 7 Try.f7 rfl rfl rfl rfl rfl rfl rfl ⟨rfl, rfl, rfl, rfl, rfl⟩ rfl rfl rfl rfl rfl (by kernel_rfl) Try.func7 (by kernel_rfl)
    (of_decide_eq_true (by kernel_rfl)) (by unfold Func.isWrapper; first | (rw [if_pos (by decide +kernel)]; kernel_rfl) | (rw [if_neg (by decide +kernel)]; exact ⟨rfl, rfl⟩))
    (fun os started H enc _ => orderJoined_lifted os started H enc)
#print axioms orderJoined_holds
end Go.Proofs.Ytbffeffplabaeaa
