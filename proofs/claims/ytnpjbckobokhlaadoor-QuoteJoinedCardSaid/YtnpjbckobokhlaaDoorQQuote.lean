/-
  What quote's Quote is.
-/
import Derived.Test.YtnpjbckobokhlaaDoorQEsc2
import Derived.Test.YtnpjbckobokhlaaDoorQUtf
import Derived.Test.YtnpjbckobokhlaaDoorBuild
namespace Go.Proofs.YtnpjbckobokhlaaDoor
open Go.RowKit Go.Maps Np Up Qp

abbrev IsB (B b : Nat) (l : List UInt8) (w : World) : Prop := Lib.IsBuilderF 37 5 B b (Lib.byteCells l) w

theorem dec_low {l : List UInt8} (h : bt l 0 < 128) : Lib.decodeL l = (bt l 0, 1) := by rw [decode_eq, if_pos h]
theorem dec_high {l : List UInt8} (hl : l ≠ []) (h : 128 ≤ bt l 0) : 128 ≤ (Lib.decodeL l).1 ∧ ∀ j, j < (Lib.decodeL l).2 → 128 ≤ bt l j := by
  refine ⟨?_, fun j hj => ?_⟩
  · have hp : 0 < (ByteArray.mk l.toArray).size := by rw [mk_size]; exact List.length_pos_iff.2 hl
    have h1 := (decode_high ⟨l.toArray⟩ 0 hp (by have := bt_at ⟨l.toArray⟩ 0 hp; rw [mk_data] at this; omega)).1
    exact h1
  · rcases decode_rune l with ⟨h0, h1⟩ | ⟨h0, h1, _⟩
    · rw [h1] at hj
      rw [show j = 0 by simp at hj; exact hj]
      exact h
    · rw [h1] at hj
      exact runeN_high h j hj
theorem wrs_append (a b : List UInt8) : wrs (a ++ b) = wrs a ++ wrs b := by simp [wrs]
theorem wrs_high : ∀ {l : List UInt8}, (∀ c ∈ l, 128 ≤ c.toNat) → wrs l = l
  | [], _ => rfl
  | c :: r, h => by
    have e : wrs (c :: r) = wr c ++ wrs r := by simp [wrs]
    rw [e, wrs_high (fun x hx => h x (by simp [hx])), wr_plain (by have := h c (by simp); omega) (by have := h c (by simp); omega) (by have := h c (by simp); omega)]
    rfl
theorem take_high {l : List UInt8} {n : Nat} (h : ∀ j, j < n → 128 ≤ bt l j) : ∀ c ∈ l.take n, 128 ≤ c.toNat := by
  intro c hc
  obtain ⟨j, hj, rfl⟩ := List.getElem_of_mem hc
  rw [List.length_take] at hj
  have := h j (by omega)
  rw [bt, List.getD_eq_getElem?_getD, List.getElem?_eq_getElem (by omega)] at this
  simpa using this
/-- The letters that Quote asks for. -/
def qF : Int → Option Int := era ltF 47
theorem qF_some {c : UInt8} {v : Int} (h : qF c.toNat = some v) : 0 ≤ v ∧ v ≤ 127 ∧ wr c = [92, v.toNat.toUInt8] := by
  unfold qF era ltF at h
  unfold wr
  repeat' split at h
  all_goals (first | (cases h; done) | (injection h with h; subst h; refine ⟨by omega, by omega, ?_⟩))
  all_goals (first
    | (rw [if_pos (by omega)]; rfl)
    | (rw [if_neg (by omega), if_pos (by omega)]; rfl)
    | (rw [if_neg (by omega), if_neg (by omega), if_pos (by omega)]; rfl)
    | (rw [if_neg (by omega), if_neg (by omega), if_neg (by omega), if_pos (by omega)]; rfl)
    | (rw [if_neg (by omega), if_neg (by omega), if_neg (by omega), if_neg (by omega), if_pos (by omega)]; rfl)
    | (rw [if_neg (by omega), if_neg (by omega), if_neg (by omega), if_neg (by omega), if_neg (by omega), if_pos (by omega)]; rfl)
    | (rw [if_neg (by omega), if_neg (by omega), if_neg (by omega), if_neg (by omega), if_neg (by omega), if_neg (by omega), if_pos (by omega)]; rfl))
theorem qF_none {c : Nat} (h : qF c = none) : c ≠ 34 ∧ c ≠ 92 ∧ c ≠ 8 ∧ c ≠ 12 ∧ c ≠ 10 ∧ c ≠ 13 ∧ c ≠ 9 := by
  refine ⟨?_, ?_, ?_, ?_, ?_, ?_, ?_⟩ <;> (rintro rfl; revert h; decide)
theorem qF_high {r : Int} (h : 128 ≤ r) : qF r = none := by
  unfold qF era ltF
  repeat' split
  all_goals first | rfl | omega
theorem wr_low {c : UInt8} (h : qF c.toNat = none) (hl : c.toNat < 32) : wr c = [92, 117, 48, 48, hx (c.toNat / 16), hx (c.toNat % 16)] := by
  obtain ⟨h0, h1, h2, h3, h4, h5, h6⟩ := qF_none h
  unfold wr
  rw [if_neg h0, if_neg h1, if_neg h2, if_neg h3, if_neg h4, if_neg h5, if_neg h6, if_pos hl]
/-- Where Quote stands: what has been written, and what is still to be written as it is. -/
def Qi (l out : List UInt8) (frm pos : Nat) : Prop := frm ≤ pos ∧ out = 34 :: wrs (l.take frm) ∧ wrs ((l.drop frm).take (pos - frm)) = (l.drop frm).take (pos - frm)
theorem cut_take (l : List UInt8) {a b : Nat} (h : a ≤ b) : l.take b = l.take a ++ (l.drop a).take (b - a) := by
  rw [← List.take_add]; congr 1; omega
theorem Qi.more {l out : List UInt8} {frm pos n : Nat} (h : Qi l out frm pos) (hn : wrs ((l.drop pos).take n) = (l.drop pos).take n) : Qi l out frm (pos + n) := by
  obtain ⟨h1, h2, h3⟩ := h
  refine ⟨by omega, h2, ?_⟩
  have e : (l.drop frm).take (pos + n - frm) = (l.drop frm).take (pos - frm) ++ (l.drop pos).take n := by
    rw [show pos + n - frm = (pos - frm) + n by omega, List.take_add, List.drop_drop, show frm + (pos - frm) = pos by omega]
  rw [e, wrs_append, h3, hn]
theorem Qi.esc {l out : List UInt8} {frm pos : Nat} (h : Qi l out frm pos) (hp : pos < l.length) : Qi l (out ++ (l.drop frm).take (pos - frm) ++ wr l[pos]) (pos + 1) (pos + 1) := by
  obtain ⟨h1, h2, h3⟩ := h
  refine ⟨Nat.le_refl _, ?_, by rw [Nat.sub_self]; rfl⟩
  rw [List.take_succ_eq_append_getElem hp, wrs_append, cut_take l h1, wrs_append, h3, h2]
  simp [wrs]
theorem Qi.done {l out : List UInt8} {frm pos : Nat} (h : Qi l out frm pos) (hp : l.length ≤ pos) : out ++ l.drop frm ++ [34] = quo l := by
  obtain ⟨h1, h2, h3⟩ := h
  have e : (l.drop frm).take (pos - frm) = l.drop frm := List.take_of_length_le (by rw [List.length_drop]; omega)
  rw [e] at h3
  have e2 : wrs l = wrs (l.take frm) ++ l.drop frm := by
    conv => lhs; rw [← List.take_append_drop frm l]
    rw [wrs_append, h3]
  rw [quo, e2, h2]
  simp
theorem Qi.len {l out : List UInt8} {frm pos : Nat} (h : Qi l out frm pos) : out.length ≤ 1 + 6 * frm := by
  rw [h.2.1, List.length_cons]
  have := (wrs_len (l.take frm)).2
  rw [List.length_take] at this
  omega

/-- A builder stays one where all that lay stays. -/
theorem BuilderAtF_kept {T e : TypeId} {B b : Nat} {p : Value} {bs : List Value} {w w' : World} (h : Lib.BuilderAtF T e B b p bs w) (hb : Below w.heap.size w w') : Lib.BuilderAtF T e B b p bs w' := by
  obtain ⟨hB, v, hbk, hown, hne⟩ := h
  have hlt : ∀ {k : Nat} {o : Obj}, w.heap[k]? = some o → w'.heap[k]? = some o := by
    intro k o hk
    exact (hb.block k (Array.getElem?_eq_some_iff.1 hk).1).trans hk
  refine ⟨hB, v, hlt hbk, ⟨hown.1, ?_⟩, hne⟩
  rcases hown.2 with hn | ⟨g, cap, cur, fz, hv, hbg, hg, rest⟩
  · exact .inl hn
  · exact .inr ⟨g, cap, cur, fz, hv, hbg, hlt hg, rest⟩
theorem IsB_kept {B b : Nat} {l : List UInt8} {w w' : World} (h : IsB B b l w) (hb : Below w.heap.size w w') : IsB B b l w' :=
  h.elim (fun x => .inl (BuilderAtF_kept x hb)) (fun x => .inr (BuilderAtF_kept x hb))
theorem iter_kept {k : Nat} {s : ByteArray} {pos : Nat} {w w' : World} (h : w.heap[k]? = some (.stringIter s pos)) (hb : Below w.heap.size w w') : w'.heap[k]? = some (.stringIter s pos) :=
  (hb.block k (Array.getElem?_eq_some_iff.1 h).1).trans h
theorem IsB_lt {B b : Nat} {l : List UInt8} {w : World} (h : IsB B b l w) : b < w.heap.size := by
  rcases h with ⟨_, v, hbk, _⟩ | ⟨_, v, hbk, _⟩ <;> exact (Array.getElem?_eq_some_iff.1 hbk).1

theorem ext_cells (s : ByteArray) (i j : Nat) : Lib.strCells (s.extract i j) = Lib.byteCells ((s.data.toList.drop i).take (j - i)) := by
  have h := Lib.extract_toList s i j
  rw [ByteArray.toList_eq] at h
  rw [Lib.strCells_eq, h]
theorem byteCells_one (n : Nat) (h : n < 256) : Lib.byteCells [n.toUInt8] = [.int .u8 n] := by
  simp [Lib.byteCells, Nat.mod_eq_of_lt h]
theorem rune_cells {v : Int} (h0 : 0 ≤ v) (h1 : v ≤ 127) : Lib.runeCells v = Lib.byteCells [v.toNat.toUInt8] := by
  rw [byteCells_one _ (by omega), Lib.runeCells, Lib.encodeRuneZ_one h0 h1]
  simp [Int.toNat_of_nonneg h0]

set_option maxRecDepth 100000 in
set_option maxHeartbeats 8000000 in
theorem quote_any (s : ByteArray) (w : World) (hs : s.size ≤ 4096) :
    Calls Tryd.prog 14 #[.string s] w fun e w' => e = .returned (.string ⟨(quo s.data.toList).toArray⟩) ∧ Below w.heap.size w w' := by
  go_enter Tryd.func14, Tryd.ntmps14
  go_wp2_with fail
  refine (letters_any _).mono ?_
  rintro e w1 ⟨rfl, ⟨D0, hM, hV⟩, hb1⟩
  go_wp2_with (at_delete; refine wpList_delete_own _ rfl _ _ 38 21 rfl 21 lawI Tryd.underlying38 _ w.heap.size 8 D0 rfl hM _ _ rfl (keyOf_int_mk Tryd.underlying21 (by decide)) ?_; intro w2 hM2 hturn)
  have hb2 : Below w.heap.size w w2 := hb1.grown hturn.grown hb1.size (fun j hj => by cases hj; exact Nat.le_refl _)
  have hV2 : Vw (D0.del (key 47)) qF := hV.del 47
  have hmb := hM2.lt
  clear hV hM hb1 hturn
  generalize D0.del (key 47) = D at hM2 hV2
  have hwb := hb2.size
  generalize hm : w.heap.size = m at *
  generalize hbk : w2.heap.size = b at *
  have hMB : ∀ W, Below b w2 W → W.ownsMap Tryd.prog 21 (plainElem Tryd.prog 21) m 8 D := by
    intro W hW
    obtain ⟨es, clock, h1, h2⟩ := hM2
    exact ⟨es, clock, (hW.block m hmb).trans h1, h2⟩
  have hfresh : IsB b b [] (w2.alloc (.cells #[.pointer none, .slice none 0 0] 37)) := by
    have := Lib.IsBuilderF.of (Lib.fresh_isBuilder 37 5 w2)
    rw [hbk] at this
    exact this
  have hba : Below b w2 (w2.alloc (.cells #[.pointer none, .slice none 0 0] 37)) := (Below.refl _ _).alloc (by omega) _
  refine (Tryd.writeByte b b _ 34 _ hfresh (by rw [Lib.byteCells_length]; decide) (by simp; omega)).mono ?_
  rintro e w3 ⟨rfl, hq1, hb3, hk3⟩
  have hI3 : IsB b b [34] w3 := .inr hq1
  have hB3 : Below b w2 w3 := hba.trans hb3
  have hs3 : b < w3.heap.size := by have := hb3.size; simp at this; omega
  clear hq1 hb3 hk3 hba hfresh
  go_wp2
  generalize hK : w3.heap.size = K at *
  go_loopw [5] (fun u wr => ∃ (frm pos : Nat) (out : List UInt8), u = .int .i64 frm ∧ IsB b b out wr ∧ wr.heap[K]? = some (.stringIter s pos) ∧ Below b w2 wr ∧ pos ≤ s.size ∧ frm ≤ pos ∧ out.length ≤ 1 + 6 * frm ∧ Hid (Qi s.data.toList out frm pos)) (fun _ wr => s.size - wr.iterPos K)
  case atStart =>
    refine ⟨0, 0, [34], rfl, hI3.alloc _, ?_, hB3.alloc (by omega) _, by omega, by omega, by simp, Lib.hid ⟨by omega, rfl, rfl⟩⟩
    have := World.iter_heap w3 s 0
    rw [hK] at this
    simpa using this
  case round =>
    obtain ⟨frm, pos, out, rfl, hI, hit, hbw, hpl, hfp, hol, HQ⟩ := hrel
    have hIlt := IsB_lt hI
    by_cases hp : pos < s.size
    · have hnx : ∀ ty, (Instr.next (.pointer (some ⟨K, 0, none⟩)) true ty).run Tryd.prog wr = _ := fun ty => Lib.run_next_any_at wr K s pos ty hit hp
      have hne := drop_ne s pos hp
      have hbp : bt (s.data.toList.drop pos) 0 = s[pos].toNat := by
        have := bt_at' s pos 0 (by omega); simpa using this
      by_cases hlo : s[pos].toNat < 128
      · have hdl := dec_low (l := s.data.toList.drop pos) (by omega)
        rw [hbp] at hdl
        rw [dec_at, hdl] at hnx
        simp only at hnx
        have hI2 := hI.iterAt hit (pos + 1)
        have hit2 := Lib.iterAt_heap wr K s pos (pos + 1) hit
        have hbw2 := Lib.below_iterAt hbw (k := K) (by omega) s (pos + 1)
        have hsz2 : b ≤ (wr.iterAt K s (pos + 1)).heap.size := by rw [Lib.iterAt_size]; omega
        have hM3 := hMB _ hbw2
        have hwf : (Lit.int .i32 (s[pos].toNat : Int)).wf = true := i32_wf (by omega) (by omega)
        have hhas := (hV2.2 (s[pos].toNat : Int)).1
        have hgp : s.data.toList[pos]'(by rw [size_toList]; exact hp) = s[pos] := rfl
        clear hne hbp hdl
        cases hq : qF (s[pos].toNat : Int) with
        | some v =>
          obtain ⟨v0, v1, hwr⟩ := qF_some hq
          rw [hq] at hhas
          have HH : Hid (has D (key (s[pos].toNat : Int)) = true) := Lib.hid hhas
          have HV := Lib.hid hV2
          have HBL := Lib.hid hq
          have HN : Hid (Qi s.data.toList (out ++ (s.data.toList.drop frm).take (pos - frm) ++ [92, v.toNat.toUInt8]) (pos + 1) (pos + 1)) := Lib.hid (by
            have := HQ.out.esc (by rw [size_toList]; exact hp)
            rw [hgp, hwr] at this
            exact this)
          have hln := HN.out.len
          clear hhas hq hwr HQ hgp
          go_wp2_with ((at_lookup; refine wpList_lookup_own_ok_int _ rfl _ _ 38 rfl 21 21 .i32 lawI Tryd.underlying38 Tryd.underlying21 (zeroI _) m 8 D rfl hM3 _ _ rfl (keyOf_int_mk Tryd.underlying21 hwf) ?_; intro c hat hwc; rw [HH.out]; obtain rfl := (HV.out.hit HBL.out hat).symm; clear hat hwc))
          refine (Tryd.writeString b b _ _ _ hI2 (by rw [Lib.byteCells_length, ByteArray.size_extract]; omega) hsz2).mono ?_
          rintro e w4 ⟨rfl, h4, b4, k4⟩
          rw [ext_cells, ← Lib.byteCells_append] at h4
          have hsz4 := Nat.le_trans hsz2 b4.size
          have hit4 := k4.iter hit2 (by omega)
          clear k4
          go_wp2_with fail
          refine (Tryd.writeByte b b _ 92 _ (.inr h4) (by rw [Lib.byteCells_length, List.length_append, List.length_take]; omega) hsz4).mono ?_
          rintro e w5 ⟨rfl, h5, b5, k5⟩
          have hsz5 := Nat.le_trans hsz4 b5.size
          have hit5 := k5.iter hit4 (by omega)
          rw [show ([.int .u8 92] : List Value) = Lib.byteCells [92] from rfl, ← Lib.byteCells_append] at h5
          clear k5
          go_wp2_with fail
          refine (Tryd.writeRune b b _ _ (by omega) (by omega) _ (.inr h5) (by rw [Lib.byteCells_length, List.length_append, List.length_append, List.length_take, List.length_singleton]; omega) hsz5).mono ?_
          rintro e w6 ⟨rfl, h6, b6, k6⟩
          have hit6 := k6.iter hit5 (by omega)
          rw [rune_cells v0 v1, ← Lib.byteCells_append] at h6
          clear k6
          go_wp2_with fail
          go_roundw
          case rel =>
            refine ⟨pos + 1, pos + 1, _, by go_num, .inr ?_, hit6, ((hbw2.trans b4).trans b5).trans b6, by omega, Nat.le_refl _, hln, HN⟩
            have e : out ++ (s.data.toList.drop frm).take (pos - frm) ++ [92, v.toNat.toUInt8] = out ++ (s.data.toList.drop frm).take (pos - frm) ++ [92] ++ [v.toNat.toUInt8] := by simp
            rw [e]
            exact h6
          case measure =>
            simp only [World.iterPos, hit6, hit]
            omega
        | none =>
          rw [hq] at hhas
          have HH : Hid (has D (key (s[pos].toNat : Int)) = false) := Lib.hid hhas
          by_cases h32 : s[pos].toNat < 32
          · have hwr := wr_low hq h32
            have HN : Hid (Qi s.data.toList (out ++ (s.data.toList.drop frm).take (pos - frm) ++ [92, 117, 48, 48, hx (s[pos].toNat / 16), hx (s[pos].toNat % 16)]) (pos + 1) (pos + 1)) := Lib.hid (by
              have := HQ.out.esc (by rw [size_toList]; exact hp)
              rw [hgp, hwr] at this
              exact this)
            have hln := HN.out.len
            clear hhas hq hwr HQ hgp
            go_wp2_with ((at_lookup; refine wpList_lookup_own_ok_int _ rfl _ _ 38 rfl 21 21 .i32 lawI Tryd.underlying38 Tryd.underlying21 (zeroI _) m 8 D rfl hM3 _ _ rfl (keyOf_int_mk Tryd.underlying21 hwf) ?_; intro c hat hwc; rw [HH.out]; clear hat hwc))
            refine (Tryd.writeString b b _ _ _ hI2 (by rw [Lib.byteCells_length, ByteArray.size_extract]; omega) hsz2).mono ?_
            rintro e w4 ⟨rfl, h4, b4, k4⟩
            rw [ext_cells, ← Lib.byteCells_append] at h4
            have hsz4 := Nat.le_trans hsz2 b4.size
            have hit4 := k4.iter hit2 (by omega)
            clear k4
            go_wp2_with fail
            refine (long_any _ _ h32).mono ?_
            rintro e w5 ⟨rfl, b5⟩
            have hI5 := IsB_kept (.inr h4) b5
            have hit5 := iter_kept hit4 b5
            have hb5 := (hbw2.trans b4).trans (b5.mono hsz4)
            have hsz5 := Nat.le_trans hsz4 b5.size
            go_wp2_with fail
            refine (Tryd.writeString b b _ _ _ hI5 (by rw [Lib.byteCells_length, List.length_append, List.length_take, mk_size]; simp; omega) hsz5).mono ?_
            rintro e w6 ⟨rfl, h6, b6, k6⟩
            have hit6 := k6.iter hit5 (by omega)
            rw [Lib.strCells_eq, mk_data, ← Lib.byteCells_append] at h6
            clear k6
            go_wp2_with fail
            go_roundw
            case rel =>
              exact ⟨pos + 1, pos + 1, _, by go_num, .inr h6, hit6, hb5.trans b6, by omega, Nat.le_refl _, hln, HN⟩
            case measure =>
              simp only [World.iterPos, hit6, hit]
              omega
          · have hge : (32 : Int) ≤ (s[pos].toNat : Int) := by omega
            have HN : Hid (Qi s.data.toList out frm (pos + 1)) := Lib.hid (HQ.out.more (by
              rw [List.drop_eq_getElem_cons (by rw [size_toList]; exact hp), hgp]
              obtain ⟨n0, n1, -⟩ := qF_none hq
              show wrs [s[pos]] = [s[pos]]
              simp only [wrs, List.flatMap_cons, List.flatMap_nil, List.append_nil]
              exact wr_plain n0 n1 (by omega)))
            clear hhas hq HQ hgp h32
            go_wp2_with ((at_lookup; refine wpList_lookup_own_ok_int _ rfl _ _ 38 rfl 21 21 .i32 lawI Tryd.underlying38 Tryd.underlying21 (zeroI _) m 8 D rfl hM3 _ _ rfl (keyOf_int_mk Tryd.underlying21 hwf) ?_; intro c hat hwc; rw [HH.out]; clear hat hwc))
            go_roundw
            case rel =>
              exact ⟨frm, pos + 1, out, rfl, hI2, hit2, hbw2, by omega, by omega, hol, HN⟩
            case measure =>
              simp only [World.iterPos, hit2, hit]
              omega
      · have hdh := dec_high hne (by rw [hbp]; omega)
        have hwd := dec_width _ hne
        rw [List.length_drop, size_toList] at hwd
        rw [dec_at] at hnx
        generalize hD : Lib.decodeL (s.data.toList.drop pos) = Dc at hnx hdh hwd
        obtain ⟨r, n⟩ := Dc
        simp only at hnx hdh hwd
        have hrl : r ≤ 1114111 := by have := Lib.decodeL_rune (s.data.toList.drop pos); rw [hD] at this; exact this
        have hI2 := hI.iterAt hit (pos + n)
        have hit2 := Lib.iterAt_heap wr K s pos (pos + n) hit
        have hbw2 := Lib.below_iterAt hbw (k := K) (by omega) s (pos + n)
        have hM3 := hMB _ hbw2
        have hwf : (Lit.int .i32 (r : Int)).wf = true := i32_wf (by omega) (by omega)
        have hhas := (hV2.2 (r : Int)).1
        rw [qF_high (by omega)] at hhas
        have HH : Hid (has D (key (r : Int)) = false) := Lib.hid hhas
        have hge : (32 : Int) ≤ (r : Int) := by omega
        have HN : Hid (Qi s.data.toList out frm (pos + n)) := Lib.hid (HQ.out.more (wrs_high (take_high hdh.2)))
        obtain ⟨hn1, hn2⟩ := hwd
        clear hdh hhas hne hbp hlo hD HQ hrl
        go_wp2_with ((at_lookup; refine wpList_lookup_own_ok_int _ rfl _ _ 38 rfl 21 21 .i32 lawI Tryd.underlying38 Tryd.underlying21 (zeroI _) m 8 D rfl hM3 _ _ rfl (keyOf_int_mk Tryd.underlying21 hwf) ?_; intro c hat hwc; rw [HH.out]; clear hat hwc))
        go_roundw
        case rel =>
          exact ⟨frm, pos + n, out, rfl, hI2, hit2, hbw2, by omega, by omega, hol, HN⟩
        case measure =>
          simp only [World.iterPos, hit2, hit]
          omega
    · have hnx : ∀ ty, (Instr.next (.pointer (some ⟨K, 0, none⟩)) true ty).run Tryd.prog wr = _ := fun ty => Lib.run_next_end_at wr K s pos ty hit hp
      have HN : Hid (out ++ s.data.toList.drop frm ++ [34] = quo s.data.toList) := Lib.hid (HQ.out.done (by rw [size_toList]; omega))
      have hszr : b ≤ wr.heap.size := by omega
      clear HQ
      go_wp2_with fail
      refine (Tryd.writeString b b _ _ _ hI (by rw [Lib.byteCells_length, ByteArray.size_extract]; omega) hszr).mono ?_
      rintro e w4 ⟨rfl, h4, b4, k4⟩
      rw [Lib.strCells_eq, ext_end, ← Lib.byteCells_append] at h4
      have hsz4 := Nat.le_trans hszr b4.size
      clear k4
      go_wp2_with fail
      refine (Tryd.writeByte b b _ 34 _ (.inr h4) (by rw [Lib.byteCells_length, List.length_append, List.length_drop, size_toList]; omega) hsz4).mono ?_
      rintro e w5 ⟨rfl, h5, b5, k5⟩
      have hsz5 := Nat.le_trans hsz4 b5.size
      rw [show ([.int .u8 34] : List Value) = Lib.byteCells [34] from rfl, ← Lib.byteCells_append, HN.out] at h5
      clear k5
      go_wp2_with fail
      refine (Tryd.Builder_String_any_k b b _ _ (.inr h5) hsz5).mono ?_
      rintro e w6 ⟨rfl, _, b6, _⟩
      go_wp2_with fail
      go_ret
      exact ⟨rfl, by rw [hm]; exact hb2.trans ((((hbw.trans b4).trans b5).trans b6).mono hwb)⟩
end Go.Proofs.YtnpjbckobokhlaaDoor
