/-
  Joined: QUtf, QQuote, QuoP2, PaT, FwP, FwP2, FwS, PaB1, QUnq, PT1, PaR0, PaR, PR2, FrS.
-/
import Derived.Test.YtdgcdemihalefaaGreatDoorQEsc
import Derived.Test.YtdgcdemihalefaaGreatDoorQEsc2
import Derived.Test.YtdgcdemihalefaaGreatDoorTermTellsJ1
import Derived.Lib.ItoaNum
import Derived.Lib.AtoiAll
import Derived.Lib.IndexMore
import Derived.Lib.IndexBytes
import Derived.Test.YtdgcdemihalefaaGreatDoorMem
import Derived.Lib.ValidLaws
namespace Go.Proofs.YtdgcdemihalefaaGreatDoor
open Go.RowKit Np Up Qp
theorem ext_end (s : ByteArray) (k : Nat) : (s.extract k s.size).data.toList = s.data.toList.drop k := by
  have h := Lib.extract_toList s k s.size
  rw [ByteArray.toList_eq] at h
  rw [h, List.take_of_length_le (by simp)]
theorem drop_ne (s : ByteArray) (k : Nat) (h : k < s.size) : s.data.toList.drop k ≠ [] := by
  intro h'; have := congrArg List.length h'; rw [List.length_drop, size_toList, List.length_nil] at this; omega
theorem dec_at (s : ByteArray) (k : Nat) : Utf8.decode s k = Lib.decodeL (s.data.toList.drop k) := (Lib.decodeL_drop s k).symm
theorem dec_width (l : List UInt8) (hl : l ≠ []) : 1 ≤ (Lib.decodeL l).2 ∧ (Lib.decodeL l).2 ≤ l.length := ⟨Lib.decodeL_width l, Lib.decodeL_le l hl⟩
theorem dec_good {l : List UInt8} (h : runeN l ≠ 0) : (Lib.decodeL l).2 = runeN l := by
  rcases decode_rune l with ⟨h0, _⟩ | ⟨_, h1, _⟩
  · exact absurd h0 h
  · exact h1
end Go.Proofs.YtdgcdemihalefaaGreatDoor
namespace Go.Proofs.YtdgcdemihalefaaGreatDoor
open Go.RowKit Go.Maps Np Up Qp
abbrev IsB (B b : Nat) (l : List UInt8) (w : World) : Prop := Lib.IsBuilderF 65 5 B b (Lib.byteCells l) w
theorem dec_low {l : List UInt8} (h : bt l 0 < 128) : Lib.decodeL l = (bt l 0, 1) := by rw [decode_eq, if_pos h]
theorem dec_high {l : List UInt8} (hl : l ≠ []) (h : 128 ≤ bt l 0) : 128 ≤ (Lib.decodeL l).1 ∧ ∀ j, j < (Lib.decodeL l).2 → 128 ≤ bt l j := by
  refine ⟨?_, fun j hj => ?_⟩
  · have hp : 0 < (ByteArray.mk l.toArray).size := by rw [mk_size]; exact List.length_pos_iff.2 hl
    have h1 := (decode_high ⟨l.toArray⟩ 0 hp (by have := bt_at ⟨l.toArray⟩ 0 hp; rw [mk_data] at this; omega)).1
    exact h1
  · rcases decode_rune l with ⟨h0, h1⟩ | ⟨h0, h1, _⟩
    · rw [h1] at hj
      rw [show j = 0 by simp at hj; exact hj]
      exact h
    · rw [h1] at hj
      exact runeN_high h j hj
theorem wrs_append (a b : List UInt8) : wrs (a ++ b) = wrs a ++ wrs b := by simp [wrs]
theorem wrs_high : ∀ {l : List UInt8}, (∀ c ∈ l, 128 ≤ c.toNat) → wrs l = l
  | [], _ => rfl
  | c :: r, h => by
    have e : wrs (c :: r) = wr c ++ wrs r := by simp [wrs]
    rw [e, wrs_high (fun x hx => h x (by simp [hx])), wr_plain (by have := h c (by simp); omega) (by have := h c (by simp); omega) (by have := h c (by simp); omega)]
    rfl
theorem take_high {l : List UInt8} {n : Nat} (h : ∀ j, j < n → 128 ≤ bt l j) : ∀ c ∈ l.take n, 128 ≤ c.toNat := by
  intro c hc
  obtain ⟨j, hj, rfl⟩ := List.getElem_of_mem hc
  rw [List.length_take] at hj
  have := h j (by omega)
  rw [bt, List.getD_eq_getElem?_getD, List.getElem?_eq_getElem (by omega)] at this
  simpa using this
def qF : Int → Option Int := era letF 47
theorem qF_some {c : UInt8} {v : Int} (h : qF c.toNat = some v) : 0 ≤ v ∧ v ≤ 127 ∧ wr c = [92, v.toNat.toUInt8] := by
  unfold qF era letF at h
  unfold wr
  repeat' split at h
  all_goals (first | (cases h; done) | (injection h with h; subst h; refine ⟨by omega, by omega, ?_⟩))
  all_goals (first
    | (rw [if_pos (by omega)]; rfl)
    | (rw [if_neg (by omega), if_pos (by omega)]; rfl)
    | (rw [if_neg (by omega), if_neg (by omega), if_pos (by omega)]; rfl)
    | (rw [if_neg (by omega), if_neg (by omega), if_neg (by omega), if_pos (by omega)]; rfl)
    | (rw [if_neg (by omega), if_neg (by omega), if_neg (by omega), if_neg (by omega), if_pos (by omega)]; rfl)
    | (rw [if_neg (by omega), if_neg (by omega), if_neg (by omega), if_neg (by omega), if_neg (by omega), if_pos (by omega)]; rfl)
    | (rw [if_neg (by omega), if_neg (by omega), if_neg (by omega), if_neg (by omega), if_neg (by omega), if_neg (by omega), if_pos (by omega)]; rfl))
theorem qF_none {c : Nat} (h : qF c = none) : c ≠ 34 ∧ c ≠ 92 ∧ c ≠ 8 ∧ c ≠ 12 ∧ c ≠ 10 ∧ c ≠ 13 ∧ c ≠ 9 := by
  refine ⟨?_, ?_, ?_, ?_, ?_, ?_, ?_⟩ <;> (rintro rfl; revert h; decide)
theorem qF_high {r : Int} (h : 128 ≤ r) : qF r = none := by
  unfold qF era letF
  repeat' split
  all_goals first | rfl | omega
theorem wr_low {c : UInt8} (h : qF c.toNat = none) (hl : c.toNat < 32) : wr c = [92, 117, 48, 48, hx (c.toNat / 16), hx (c.toNat % 16)] := by
  obtain ⟨h0, h1, h2, h3, h4, h5, h6⟩ := qF_none h
  unfold wr
  rw [if_neg h0, if_neg h1, if_neg h2, if_neg h3, if_neg h4, if_neg h5, if_neg h6, if_pos hl]
def Qi (l out : List UInt8) (frm pos : Nat) : Prop := frm ≤ pos ∧ out = 34 :: wrs (l.take frm) ∧ wrs ((l.drop frm).take (pos - frm)) = (l.drop frm).take (pos - frm)
theorem cut_take (l : List UInt8) {a b : Nat} (h : a ≤ b) : l.take b = l.take a ++ (l.drop a).take (b - a) := by
  rw [← List.take_add]; congr 1; omega
theorem Qi.more {l out : List UInt8} {frm pos n : Nat} (h : Qi l out frm pos) (hn : wrs ((l.drop pos).take n) = (l.drop pos).take n) : Qi l out frm (pos + n) := by
  obtain ⟨h1, h2, h3⟩ := h
  refine ⟨by omega, h2, ?_⟩
  have e : (l.drop frm).take (pos + n - frm) = (l.drop frm).take (pos - frm) ++ (l.drop pos).take n := by
    rw [show pos + n - frm = (pos - frm) + n by omega, List.take_add, List.drop_drop, show frm + (pos - frm) = pos by omega]
  rw [e, wrs_append, h3, hn]
theorem Qi.esc {l out : List UInt8} {frm pos : Nat} (h : Qi l out frm pos) (hp : pos < l.length) : Qi l (out ++ (l.drop frm).take (pos - frm) ++ wr l[pos]) (pos + 1) (pos + 1) := by
  obtain ⟨h1, h2, h3⟩ := h
  refine ⟨Nat.le_refl _, ?_, by rw [Nat.sub_self]; rfl⟩
  rw [List.take_succ_eq_append_getElem hp, wrs_append, cut_take l h1, wrs_append, h3, h2]
  simp [wrs]
theorem Qi.done {l out : List UInt8} {frm pos : Nat} (h : Qi l out frm pos) (hp : l.length ≤ pos) : out ++ l.drop frm ++ [34] = quo l := by
  obtain ⟨h1, h2, h3⟩ := h
  have e : (l.drop frm).take (pos - frm) = l.drop frm := List.take_of_length_le (by rw [List.length_drop]; omega)
  rw [e] at h3
  have e2 : wrs l = wrs (l.take frm) ++ l.drop frm := by
    conv => lhs; rw [← List.take_append_drop frm l]
    rw [wrs_append, h3]
  rw [quo, e2, h2]
  simp
theorem Qi.len {l out : List UInt8} {frm pos : Nat} (h : Qi l out frm pos) : out.length ≤ 1 + 6 * frm := by
  rw [h.2.1, List.length_cons]
  have := (wrs_len (l.take frm)).2
  rw [List.length_take] at this
  omega
theorem BuilderAtF_kept {T e : TypeId} {B b : Nat} {p : Value} {bs : List Value} {w w' : World} (h : Lib.BuilderAtF T e B b p bs w) (hb : Below w.heap.size w w') : Lib.BuilderAtF T e B b p bs w' := by
  obtain ⟨hB, v, hbk, hown, hne⟩ := h
  have hlt : ∀ {k : Nat} {o : Obj}, w.heap[k]? = some o → w'.heap[k]? = some o := by
    intro k o hk
    exact (hb.block k (Array.getElem?_eq_some_iff.1 hk).1).trans hk
  refine ⟨hB, v, hlt hbk, ⟨hown.1, ?_⟩, hne⟩
  rcases hown.2 with hn | ⟨g, cap, cur, fz, hv, hbg, hg, rest⟩
  · exact .inl hn
  · exact .inr ⟨g, cap, cur, fz, hv, hbg, hlt hg, rest⟩
theorem IsB_kept {B b : Nat} {l : List UInt8} {w w' : World} (h : IsB B b l w) (hb : Below w.heap.size w w') : IsB B b l w' :=
  h.elim (fun x => .inl (BuilderAtF_kept x hb)) (fun x => .inr (BuilderAtF_kept x hb))
theorem iter_kept {k : Nat} {s : ByteArray} {pos : Nat} {w w' : World} (h : w.heap[k]? = some (.stringIter s pos)) (hb : Below w.heap.size w w') : w'.heap[k]? = some (.stringIter s pos) :=
  (hb.block k (Array.getElem?_eq_some_iff.1 h).1).trans h
theorem IsB_lt {B b : Nat} {l : List UInt8} {w : World} (h : IsB B b l w) : b < w.heap.size := by
  rcases h with ⟨_, v, hbk, _⟩ | ⟨_, v, hbk, _⟩ <;> exact (Array.getElem?_eq_some_iff.1 hbk).1
theorem ext_cells (s : ByteArray) (i j : Nat) : Lib.strCells (s.extract i j) = Lib.byteCells ((s.data.toList.drop i).take (j - i)) := by
  have h := Lib.extract_toList s i j
  rw [ByteArray.toList_eq] at h
  rw [Lib.strCells_eq, h]
theorem byteCells_one (n : Nat) (h : n < 256) : Lib.byteCells [n.toUInt8] = [.int .u8 n] := by
  simp [Lib.byteCells, Nat.mod_eq_of_lt h]
theorem rune_cells {v : Int} (h0 : 0 ≤ v) (h1 : v ≤ 127) : Lib.runeCells v = Lib.byteCells [v.toNat.toUInt8] := by
  rw [byteCells_one _ (by omega), Lib.runeCells, Lib.encodeRuneZ_one h0 h1]
  simp [Int.toNat_of_nonneg h0]
set_option maxRecDepth 100000 in
set_option maxHeartbeats 8000000 in
theorem quote_any (s : ByteArray) (w : World) (hs : s.size ≤ 1073741824) :
    Calls Tryz.prog 196 #[.string s] w fun e w' => e = .returned (.string ⟨(quo s.data.toList).toArray⟩) ∧ Below w.heap.size w w' := by
  go_enter Tryz.func196, Tryz.ntmps196
  go_wp2_with fail
  refine (letters_any _).mono ?_
  rintro e w1 ⟨rfl, ⟨D0, hM, hV⟩, hb1⟩
  go_wp2_with (at_delete; refine wpList_delete_own _ rfl _ _ 245 21 rfl 21 lawI Tryz.underlying245 _ w.heap.size 8 D0 rfl hM _ _ rfl (keyOf_int_mk Tryz.underlying21 (by decide)) ?_; intro w2 hM2 hturn)
  have hb2 : Below w.heap.size w w2 := hb1.grown hturn.grown hb1.size (fun j hj => by cases hj; exact Nat.le_refl _)
  have hV2 : Vw (D0.del (key 47)) qF := hV.del 47
  have hmb := hM2.lt
  clear hV hM hb1 hturn
  generalize D0.del (key 47) = D at hM2 hV2
  have hwb := hb2.size
  generalize hm : w.heap.size = m at *
  generalize hbk : w2.heap.size = b at *
  have hMB : ∀ W, Below b w2 W → W.ownsMap Tryz.prog 21 (plainElem Tryz.prog 21) m 8 D := by
    intro W hW
    obtain ⟨es, clock, h1, h2⟩ := hM2
    exact ⟨es, clock, (hW.block m hmb).trans h1, h2⟩
  have hfresh : IsB b b [] (w2.alloc (.cells #[.pointer none, .slice none 0 0] 65)) := by
    have := Lib.IsBuilderF.of (Lib.fresh_isBuilder 65 5 w2)
    rw [hbk] at this
    exact this
  have hba : Below b w2 (w2.alloc (.cells #[.pointer none, .slice none 0 0] 65)) := (Below.refl _ _).alloc (by omega) _
  refine (Tryz.writeByte b b _ 34 _ hfresh (by rw [Lib.byteCells_length]; decide) (by simp; omega)).mono ?_
  rintro e w3 ⟨rfl, hq1, hb3, hk3⟩
  have hI3 : IsB b b [34] w3 := .inr hq1
  have hB3 : Below b w2 w3 := hba.trans hb3
  have hs3 : b < w3.heap.size := by have := hb3.size; simp at this; omega
  clear hq1 hb3 hk3 hba hfresh
  go_wp2
  generalize hK : w3.heap.size = K at *
  go_loopw [5] (fun u wr => ∃ (frm pos : Nat) (out : List UInt8), u = .int .i64 frm ∧ IsB b b out wr ∧ wr.heap[K]? = some (.stringIter s pos) ∧ Below b w2 wr ∧ pos ≤ s.size ∧ frm ≤ pos ∧ out.length ≤ 1 + 6 * frm ∧ Hid (Qi s.data.toList out frm pos)) (fun _ wr => s.size - wr.iterPos K)
  case atStart =>
    refine ⟨0, 0, [34], rfl, hI3.alloc _, ?_, hB3.alloc (by omega) _, by omega, by omega, by simp, Lib.hid ⟨by omega, rfl, rfl⟩⟩
    have := World.iter_heap w3 s 0
    rw [hK] at this
    simpa using this
  case round =>
    obtain ⟨frm, pos, out, rfl, hI, hit, hbw, hpl, hfp, hol, HQ⟩ := hrel
    have hIlt := IsB_lt hI
    by_cases hp : pos < s.size
    · have hnx : ∀ ty, (Instr.next (.pointer (some ⟨K, 0, none⟩)) true ty).run Tryz.prog wr = _ := fun ty => Lib.run_next_any_at wr K s pos ty hit hp
      have hne := drop_ne s pos hp
      have hbp : bt (s.data.toList.drop pos) 0 = s[pos].toNat := by
        have := bt_at' s pos 0 (by omega); simpa using this
      by_cases hlo : s[pos].toNat < 128
      · have hdl := dec_low (l := s.data.toList.drop pos) (by omega)
        rw [hbp] at hdl
        rw [dec_at, hdl] at hnx
        simp only at hnx
        have hI2 := hI.iterAt hit (pos + 1)
        have hit2 := Lib.iterAt_heap wr K s pos (pos + 1) hit
        have hbw2 := Lib.below_iterAt hbw (k := K) (by omega) s (pos + 1)
        have hsz2 : b ≤ (wr.iterAt K s (pos + 1)).heap.size := by rw [Lib.iterAt_size]; omega
        have hM3 := hMB _ hbw2
        have hwf : (Lit.int .i32 (s[pos].toNat : Int)).wf = true := i32_wf (by omega) (by omega)
        have hhas := (hV2.2 (s[pos].toNat : Int)).1
        have hgp : s.data.toList[pos]'(by rw [size_toList]; exact hp) = s[pos] := rfl
        clear hne hbp hdl
        cases hq : qF (s[pos].toNat : Int) with
        | some v =>
          obtain ⟨v0, v1, hwr⟩ := qF_some hq
          rw [hq] at hhas
          have HH : Hid (has D (key (s[pos].toNat : Int)) = true) := Lib.hid hhas
          have HV := Lib.hid hV2
          have HBL := Lib.hid hq
          have HN : Hid (Qi s.data.toList (out ++ (s.data.toList.drop frm).take (pos - frm) ++ [92, v.toNat.toUInt8]) (pos + 1) (pos + 1)) := Lib.hid (by
            have := HQ.out.esc (by rw [size_toList]; exact hp)
            rw [hgp, hwr] at this
            exact this)
          have hln := HN.out.len
          clear hhas hq hwr HQ hgp
          go_wp2_with ((at_lookup; refine wpList_lookup_own_ok_int _ rfl _ _ 245 rfl 21 21 .i32 lawI Tryz.underlying245 Tryz.underlying21 (zeroI _) m 8 D rfl hM3 _ _ rfl (keyOf_int_mk Tryz.underlying21 hwf) ?_; intro c hat hwc; rw [HH.out]; obtain rfl := (HV.out.hit HBL.out hat).symm; clear hat hwc))
          refine (Tryz.writeString b b _ _ _ hI2 (by rw [Lib.byteCells_length, ByteArray.size_extract]; omega) hsz2).mono ?_
          rintro e w4 ⟨rfl, h4, b4, k4⟩
          rw [ext_cells, ← Lib.byteCells_append] at h4
          have hsz4 := Nat.le_trans hsz2 b4.size
          have hit4 := k4.iter hit2 (by omega)
          clear k4
          go_wp2_with fail
          refine (Tryz.writeByte b b _ 92 _ (.inr h4) (by rw [Lib.byteCells_length, List.length_append, List.length_take]; omega) hsz4).mono ?_
          rintro e w5 ⟨rfl, h5, b5, k5⟩
          have hsz5 := Nat.le_trans hsz4 b5.size
          have hit5 := k5.iter hit4 (by omega)
          rw [show ([.int .u8 92] : List Value) = Lib.byteCells [92] from rfl, ← Lib.byteCells_append] at h5
          clear k5
          go_wp2_with fail
          refine (Tryz.writeRune b b _ _ (by omega) (by omega) _ (.inr h5) (by rw [Lib.byteCells_length, List.length_append, List.length_append, List.length_take, List.length_singleton]; omega) hsz5).mono ?_
          rintro e w6 ⟨rfl, h6, b6, k6⟩
          have hit6 := k6.iter hit5 (by omega)
          rw [rune_cells v0 v1, ← Lib.byteCells_append] at h6
          clear k6
          go_wp2_with fail
          go_roundw
          case rel =>
            refine ⟨pos + 1, pos + 1, _, by go_num, .inr ?_, hit6, ((hbw2.trans b4).trans b5).trans b6, by omega, Nat.le_refl _, hln, HN⟩
            have e : out ++ (s.data.toList.drop frm).take (pos - frm) ++ [92, v.toNat.toUInt8] = out ++ (s.data.toList.drop frm).take (pos - frm) ++ [92] ++ [v.toNat.toUInt8] := by simp
            rw [e]
            exact h6
          case measure =>
            simp only [World.iterPos, hit6, hit]
            omega
        | none =>
          rw [hq] at hhas
          have HH : Hid (has D (key (s[pos].toNat : Int)) = false) := Lib.hid hhas
          by_cases h32 : s[pos].toNat < 32
          · have hwr := wr_low hq h32
            have HN : Hid (Qi s.data.toList (out ++ (s.data.toList.drop frm).take (pos - frm) ++ [92, 117, 48, 48, hx (s[pos].toNat / 16), hx (s[pos].toNat % 16)]) (pos + 1) (pos + 1)) := Lib.hid (by
              have := HQ.out.esc (by rw [size_toList]; exact hp)
              rw [hgp, hwr] at this
              exact this)
            have hln := HN.out.len
            clear hhas hq hwr HQ hgp
            go_wp2_with ((at_lookup; refine wpList_lookup_own_ok_int _ rfl _ _ 245 rfl 21 21 .i32 lawI Tryz.underlying245 Tryz.underlying21 (zeroI _) m 8 D rfl hM3 _ _ rfl (keyOf_int_mk Tryz.underlying21 hwf) ?_; intro c hat hwc; rw [HH.out]; clear hat hwc))
            refine (Tryz.writeString b b _ _ _ hI2 (by rw [Lib.byteCells_length, ByteArray.size_extract]; omega) hsz2).mono ?_
            rintro e w4 ⟨rfl, h4, b4, k4⟩
            rw [ext_cells, ← Lib.byteCells_append] at h4
            have hsz4 := Nat.le_trans hsz2 b4.size
            have hit4 := k4.iter hit2 (by omega)
            clear k4
            go_wp2_with fail
            refine (long_any _ _ h32).mono ?_
            rintro e w5 ⟨rfl, b5⟩
            have hI5 := IsB_kept (.inr h4) b5
            have hit5 := iter_kept hit4 b5
            have hb5 := (hbw2.trans b4).trans (b5.mono hsz4)
            have hsz5 := Nat.le_trans hsz4 b5.size
            go_wp2_with fail
            refine (Tryz.writeString b b _ _ _ hI5 (by rw [Lib.byteCells_length, List.length_append, List.length_take, mk_size]; simp; omega) hsz5).mono ?_
            rintro e w6 ⟨rfl, h6, b6, k6⟩
            have hit6 := k6.iter hit5 (by omega)
            rw [Lib.strCells_eq, mk_data, ← Lib.byteCells_append] at h6
            clear k6
            go_wp2_with fail
            go_roundw
            case rel =>
              exact ⟨pos + 1, pos + 1, _, by go_num, .inr h6, hit6, hb5.trans b6, by omega, Nat.le_refl _, hln, HN⟩
            case measure =>
              simp only [World.iterPos, hit6, hit]
              omega
          · have hge : (32 : Int) ≤ (s[pos].toNat : Int) := by omega
            have HN : Hid (Qi s.data.toList out frm (pos + 1)) := Lib.hid (HQ.out.more (by
              rw [List.drop_eq_getElem_cons (by rw [size_toList]; exact hp), hgp]
              obtain ⟨n0, n1, -⟩ := qF_none hq
              show wrs [s[pos]] = [s[pos]]
              simp only [wrs, List.flatMap_cons, List.flatMap_nil, List.append_nil]
              exact wr_plain n0 n1 (by omega)))
            clear hhas hq HQ hgp h32
            go_wp2_with ((at_lookup; refine wpList_lookup_own_ok_int _ rfl _ _ 245 rfl 21 21 .i32 lawI Tryz.underlying245 Tryz.underlying21 (zeroI _) m 8 D rfl hM3 _ _ rfl (keyOf_int_mk Tryz.underlying21 hwf) ?_; intro c hat hwc; rw [HH.out]; clear hat hwc))
            go_roundw
            case rel =>
              exact ⟨frm, pos + 1, out, rfl, hI2, hit2, hbw2, by omega, by omega, hol, HN⟩
            case measure =>
              simp only [World.iterPos, hit2, hit]
              omega
      · have hdh := dec_high hne (by rw [hbp]; omega)
        have hwd := dec_width _ hne
        rw [List.length_drop, size_toList] at hwd
        rw [dec_at] at hnx
        generalize hD : Lib.decodeL (s.data.toList.drop pos) = Dc at hnx hdh hwd
        obtain ⟨r, n⟩ := Dc
        simp only at hnx hdh hwd
        have hrl : r ≤ 1114111 := by have := Lib.decodeL_rune (s.data.toList.drop pos); rw [hD] at this; exact this
        have hI2 := hI.iterAt hit (pos + n)
        have hit2 := Lib.iterAt_heap wr K s pos (pos + n) hit
        have hbw2 := Lib.below_iterAt hbw (k := K) (by omega) s (pos + n)
        have hM3 := hMB _ hbw2
        have hwf : (Lit.int .i32 (r : Int)).wf = true := i32_wf (by omega) (by omega)
        have hhas := (hV2.2 (r : Int)).1
        rw [qF_high (by omega)] at hhas
        have HH : Hid (has D (key (r : Int)) = false) := Lib.hid hhas
        have hge : (32 : Int) ≤ (r : Int) := by omega
        have HN : Hid (Qi s.data.toList out frm (pos + n)) := Lib.hid (HQ.out.more (wrs_high (take_high hdh.2)))
        obtain ⟨hn1, hn2⟩ := hwd
        clear hdh hhas hne hbp hlo hD HQ hrl
        go_wp2_with ((at_lookup; refine wpList_lookup_own_ok_int _ rfl _ _ 245 rfl 21 21 .i32 lawI Tryz.underlying245 Tryz.underlying21 (zeroI _) m 8 D rfl hM3 _ _ rfl (keyOf_int_mk Tryz.underlying21 hwf) ?_; intro c hat hwc; rw [HH.out]; clear hat hwc))
        go_roundw
        case rel =>
          exact ⟨frm, pos + n, out, rfl, hI2, hit2, hbw2, by omega, by omega, hol, HN⟩
        case measure =>
          simp only [World.iterPos, hit2, hit]
          omega
    · have hnx : ∀ ty, (Instr.next (.pointer (some ⟨K, 0, none⟩)) true ty).run Tryz.prog wr = _ := fun ty => Lib.run_next_end_at wr K s pos ty hit hp
      have HN : Hid (out ++ s.data.toList.drop frm ++ [34] = quo s.data.toList) := Lib.hid (HQ.out.done (by rw [size_toList]; omega))
      have hszr : b ≤ wr.heap.size := by omega
      clear HQ
      go_wp2_with fail
      refine (Tryz.writeString b b _ _ _ hI (by rw [Lib.byteCells_length, ByteArray.size_extract]; omega) hszr).mono ?_
      rintro e w4 ⟨rfl, h4, b4, k4⟩
      rw [Lib.strCells_eq, ext_end, ← Lib.byteCells_append] at h4
      have hsz4 := Nat.le_trans hszr b4.size
      clear k4
      go_wp2_with fail
      refine (Tryz.writeByte b b _ 34 _ (.inr h4) (by rw [Lib.byteCells_length, List.length_append, List.length_drop, size_toList]; omega) hsz4).mono ?_
      rintro e w5 ⟨rfl, h5, b5, k5⟩
      have hsz5 := Nat.le_trans hsz4 b5.size
      rw [show ([.int .u8 34] : List Value) = Lib.byteCells [34] from rfl, ← Lib.byteCells_append, HN.out] at h5
      clear k5
      go_wp2_with fail
      refine (Tryz.Builder_String_any_k b b _ _ (.inr h5) hsz5).mono ?_
      rintro e w6 ⟨rfl, _, b6, _⟩
      go_wp2_with fail
      go_ret
      exact ⟨rfl, by rw [hm]; exact hb2.trans ((((hbw.trans b4).trans b5).trans b6).mono hwb)⟩
end Go.Proofs.YtdgcdemihalefaaGreatDoor
namespace Go.Proofs.YtdgcdemihalefaaGreatDoor
namespace Qp
open Go.RowKit Np Up
theorem valid_append : ∀ (n : Nat) (a b : List UInt8), a.length ≤ n → Lib.validD a = true → Lib.validD (a ++ b) = Lib.validD b
  | 0, a, b, hn, _ => by
    have : a = [] := List.eq_nil_of_length_eq_zero (by omega)
    subst this
    rfl
  | n + 1, a, b, hn, ha => by
    by_cases hl : a = []
    · subst hl; rfl
    have hp : 0 < a.length := List.length_pos_iff.2 hl
    have hs := valid_step a hl
    rw [ha] at hs
    by_cases h0 : runeN a = 0
    · rw [if_pos h0] at hs; cases hs
    rw [if_neg h0] at hs
    have hle := runeN_le a hl
    rw [valid_step (a ++ b) (by simp [hl]), runeN_append b hl h0, if_neg h0, List.drop_append_of_le_length hle]
    exact valid_append n _ b (by rw [List.length_drop]; omega) hs.symm
theorem valid_app {a : List UInt8} (b : List UInt8) (h : Lib.validD a = true) : Lib.validD (a ++ b) = Lib.validD b := valid_append _ a b (Nat.le_refl _) h
theorem valid_take {l : List UInt8} (hl : l ≠ []) (h : runeN l ≠ 0) : Lib.validD (l.take (runeN l)) = true := by
  have hle := runeN_le l hl
  have hne : l.take (runeN l) ≠ [] := by
    intro e
    have := congrArg List.length e
    rw [List.length_take, List.length_nil] at this
    omega
  rw [valid_step _ hne, runeN_take h, if_neg h, List.drop_of_length_le (by rw [List.length_take]; omega)]
  rfl
theorem u8_nat {x : Nat} (h : x < 256) : x.toUInt8.toNat = x := by simp [Nat.mod_eq_of_lt h]
theorem enc_one {n : Nat} (h : n < 128) : Lib.encodeRune (n : Int) = [n.toUInt8] := by
  rw [Lib.encodeRune, Lib.encodeRuneZ_one (by omega) (by omega)]; rfl
theorem enc_two {n : Nat} (h : 128 ≤ n) (h1 : n < 2048) : Lib.encodeRune (n : Int) = [(192 + n / 64).toUInt8, (128 + n % 64).toUInt8] := by
  rw [Lib.encodeRune, Lib.encodeRuneZ_two (by omega) (by omega)]; rfl
theorem enc_three {n : Nat} (h : 2048 ≤ n) (h1 : n < 65536) (hr : n < 55296 ∨ 57344 ≤ n) : Lib.encodeRune (n : Int) = [(224 + n / 4096).toUInt8, (128 + n / 64 % 64).toUInt8, (128 + n % 64).toUInt8] := by
  rw [Lib.encodeRune, Lib.encodeRuneZ_three (by omega)]; rfl
theorem enc_four {n : Nat} (h : 65536 ≤ n) (h1 : n ≤ 1114111) : Lib.encodeRune (n : Int) = [(240 + n / 262144).toUInt8, (128 + n / 4096 % 64).toUInt8, (128 + n / 64 % 64).toUInt8, (128 + n % 64).toUInt8] := by
  rw [Lib.encodeRune, Lib.encodeRuneZ_four (by omega) (by omega)]; rfl
theorem ct_of {l : List UInt8} {k : Nat} (h : k < l.length) (h0 : 128 ≤ bt l k) (h1 : bt l k < 192) : ct l k = true := by
  rw [ct_iff]; exact ⟨h, by omega⟩
theorem enc_rune {n : Nat} (h : ru n) : runeN (Lib.encodeRune (n : Int)) = (Lib.encodeRune (n : Int)).length := by
  unfold ru at h
  by_cases c1 : n < 128
  · rw [enc_one c1]
    exact runeN_one (by rw [bt_cons, u8_nat (by omega)]; omega)
  by_cases c2 : n < 2048
  · rw [enc_two (by omega) c2]
    have e0 : bt [(192 + n / 64).toUInt8, (128 + n % 64).toUInt8] 0 = 192 + n / 64 := by rw [bt_cons, u8_nat (by omega)]
    have e1 : bt [(192 + n / 64).toUInt8, (128 + n % 64).toUInt8] 1 = 128 + n % 64 := by rw [bt_succ, bt_cons, u8_nat (by omega)]
    exact runeN_two (by omega) (by omega) (ct_of (by simp) (by omega) (by omega))
  by_cases c3 : n < 65536
  · rw [enc_three (by omega) c3 (by omega)]
    generalize hl : [(224 + n / 4096).toUInt8, (128 + n / 64 % 64).toUInt8, (128 + n % 64).toUInt8] = l
    have e0 : bt l 0 = 224 + n / 4096 := by rw [← hl, bt_cons, u8_nat (by omega)]
    have e1 : bt l 1 = 128 + n / 64 % 64 := by rw [← hl, bt_succ, bt_cons, u8_nat (by omega)]
    have e2 : bt l 2 = 128 + n % 64 := by rw [← hl, bt_succ, bt_succ, bt_cons, u8_nat (by omega)]
    have el : l.length = 3 := by rw [← hl]; rfl
    rw [el]
    exact runeN_three (by omega) (by omega) (ct_of (by omega) (by omega) (by omega)) (ct_of (by omega) (by omega) (by omega)) (by omega)
  · rw [enc_four (by omega) (by omega)]
    generalize hl : [(240 + n / 262144).toUInt8, (128 + n / 4096 % 64).toUInt8, (128 + n / 64 % 64).toUInt8, (128 + n % 64).toUInt8] = l
    have e0 : bt l 0 = 240 + n / 262144 := by rw [← hl, bt_cons, u8_nat (by omega)]
    have e1 : bt l 1 = 128 + n / 4096 % 64 := by rw [← hl, bt_succ, bt_cons, u8_nat (by omega)]
    have e2 : bt l 2 = 128 + n / 64 % 64 := by rw [← hl, bt_succ, bt_succ, bt_cons, u8_nat (by omega)]
    have e3 : bt l 3 = 128 + n % 64 := by rw [← hl, bt_succ, bt_succ, bt_succ, bt_cons, u8_nat (by omega)]
    have el : l.length = 4 := by rw [← hl]; rfl
    rw [el]
    exact runeN_four (by omega) (by omega) (ct_of (by omega) (by omega) (by omega)) (ct_of (by omega) (by omega) (by omega)) (ct_of (by omega) (by omega) (by omega)) (by omega)
theorem enc_ne (r : Int) : Lib.encodeRune r ≠ [] := by
  intro e
  have h := congrArg List.length e
  rw [Lib.encodeRune, List.length_map, List.length_nil] at h
  have := (Lib.encodeRuneZ_length r).1
  omega
theorem enc_valid {n : Nat} (h : ru n) : Lib.validD (Lib.encodeRune (n : Int)) = true := by
  have h1 := enc_rune h
  have h2 := List.length_pos_iff.2 (enc_ne (n : Int))
  rw [valid_step _ (enc_ne _), if_neg (by omega), h1, List.drop_of_length_le (Nat.le_refl _)]
  rfl
theorem enc_high {n : Nat} (h : ru n) (h1 : 128 ≤ n) : wrs (Lib.encodeRune (n : Int)) = Lib.encodeRune (n : Int) := by
  have hr := enc_rune h
  have hb : 128 ≤ bt (Lib.encodeRune (n : Int)) 0 := by
    rcases Nat.lt_or_ge (bt (Lib.encodeRune (n : Int)) 0) 128 with hb | hb
    · exfalso
      have h3 := runeN_one hb
      rw [hr] at h3
      unfold ru at h
      by_cases c2 : n < 2048
      · rw [enc_two h1 c2] at h3; cases h3
      by_cases c3 : n < 65536
      · rw [enc_three (by omega) c3 (by omega)] at h3; cases h3
      · rw [enc_four (by omega) (by omega)] at h3; cases h3
    · exact hb
  apply wrs_high
  have h4 := take_high (fun j hj => runeN_high hb j hj)
  rw [hr, List.take_length] at h4
  exact h4
theorem enc_max (r : Int) : (Lib.encodeRune r).length ≤ 4 := by
  rw [Lib.encodeRune, List.length_map]
  exact (Lib.encodeRuneZ_length r).2
theorem sh_wrs {c x : Nat} (h : sh c = some x) : (wrs (Lib.encodeRune (x : Int))).length ≤ 2 := by
  unfold sh at h
  repeat' split at h
  all_goals first
    | (cases h; done)
    | (injection h with h; subst h; decide +kernel)
theorem tk_good {l p : List UInt8} {m : Nat} (hl : l ≠ []) (hb : bt l 0 ≠ 34) (h : tk l = some (p, m)) : Lib.validD p = true ∧ p.length ≤ m ∧ (wrs p).length ≤ m := by
  unfold tk at h
  split at h
  · cases he : es l with
    | none => rw [he] at h; cases h
    | some x =>
      obtain ⟨r, k⟩ := x
      rw [he] at h
      simp at h
      obtain ⟨h1, h2⟩ := h
      subst h1 h2
      obtain ⟨_, hr, hk, _⟩ := es_some he
      have hv := enc_valid hr
      rcases hk with ⟨rfl, hs⟩ | ⟨rfl, hs⟩ | ⟨rfl, hs⟩
      · have h3 := sh_wrs hs
        have h4 := (wrs_len (Lib.encodeRune (r : Int))).1
        exact ⟨hv, by omega, h3⟩
      · by_cases c : r < 128
        · rw [enc_one c]
          have h5 := (wrs_len [r.toUInt8]).2
          exact ⟨by rw [← enc_one c]; exact hv, by simp, by simpa using h5⟩
        · have h4 := enc_max (r : Int)
          exact ⟨hv, by omega, by rw [enc_high hr (by omega)]; omega⟩
      · have h4 := enc_max (r : Int)
        exact ⟨hv, by omega, by rw [enc_high hr (by omega)]; omega⟩
  · rename_i h92
    split at h
    · cases h
    · rename_i h32
      injection h with h
      injection h with e1 e2
      subst e1
      have hn : runeN l ≠ 0 := fun e => h32 (.inr e)
      have hv := valid_take hl hn
      subst e2
      have hlen : (l.take (runeN l)).length ≤ runeN l := by rw [List.length_take]; omega
      refine ⟨hv, hlen, ?_⟩
      by_cases c : bt l 0 < 128
      · have h1 := runeN_one c
        obtain ⟨a, t, rfl⟩ : ∃ a t, l = a :: t := by
          cases l with
          | nil => exact absurd rfl hl
          | cons a t => exact ⟨a, t, rfl⟩
        rw [bt_cons] at c hb h92 h32
        have h5 : wrs [a] = [a] := by
          simp only [wrs, List.flatMap_cons, List.flatMap_nil, List.append_nil]
          exact wr_plain hb h92 (by omega)
        rw [h1]
        show (wrs [a]).length ≤ 1
        rw [h5]
        simp
      · rw [wrs_high (take_high (fun j hj => runeN_high (by omega) j hj))]
        exact hlen
theorem unq_good : ∀ (f : Nat) (out l : List UInt8) (i n : Nat) (x : List UInt8), l.length ≤ f → unq out l i = (x, n, 0) →
    ∃ y, x = out ++ y ∧ Lib.validD y = true ∧ y.length + 1 + i ≤ n ∧ (wrs y).length + 1 + i ≤ n ∧ n ≤ i + l.length
  | 0, out, l, i, n, x, hf, h => by
    have : l = [] := List.eq_nil_of_length_eq_zero (by omega)
    subst this
    rw [unq_nil] at h
    injection h with _ h
    injection h with _ h
    cases h
  | f + 1, out, l, i, n, x, hf, h => by
    by_cases hl : l = []
    · subst hl
      rw [unq_nil] at h
      injection h with _ h
      injection h with _ h
      cases h
    have hp : 0 < l.length := List.length_pos_iff.2 hl
    by_cases hb : bt l 0 = 34
    · rw [unq_mark _ _ hb] at h
      injection h with h1 h
      injection h with h2 _
      subst h1 h2
      exact ⟨[], by simp, rfl, by simp; omega, by simp [wrs]; omega, by omega⟩
    cases ht : tk l with
    | none =>
      rw [unq_bad _ _ hb ht] at h
      injection h with _ h
      injection h with _ h
      cases h
    | some q =>
      obtain ⟨p, m⟩ := q
      rw [unq_step _ _ hl hb ht] at h
      obtain ⟨hm1, hm2⟩ := tk_some hl ht
      obtain ⟨g1, g2, g3⟩ := tk_good hl hb ht
      obtain ⟨y, y1, y2, y3, y4, y5⟩ := unq_good f _ _ _ _ _ (by rw [List.length_drop]; omega) h
      rw [List.length_drop] at y5
      refine ⟨p ++ y, by rw [y1, List.append_assoc], by rw [valid_app y g1]; exact y2, by rw [List.length_append]; omega, by rw [wrs_append, List.length_append]; omega, by omega⟩
theorem wr_all : ∀ c : Fin 128, tk (wr (UInt8.ofNat c.val)) = some ([UInt8.ofNat c.val], (wr (UInt8.ofNat c.val)).length) ∧ bt (wr (UInt8.ofNat c.val)) 0 ≠ 34 := by decide +kernel
theorem tk_wr {c : UInt8} (h : c.toNat < 128) (t : List UInt8) : tk (wr c ++ t) = some ([c], (wr c).length) ∧ bt (wr c ++ t) 0 ≠ 34 := by
  have h1 := wr_all ⟨c.toNat, h⟩
  simp only [UInt8.ofNat_toNat] at h1
  have hp := (wr_len c).1
  exact ⟨tk_append t (List.length_pos_iff.1 hp) h1.1, by rw [bt_append t hp]; exact h1.2⟩
theorem unq_quo : ∀ (f : Nat) (s out t : List UInt8) (i : Nat), s.length ≤ f → Lib.validD s = true → unq out (wrs s ++ 34 :: t) i = (out ++ s, i + (wrs s).length + 1, 0)
  | 0, s, out, t, i, hf, hv => by
    have : s = [] := List.eq_nil_of_length_eq_zero (by omega)
    subst this
    show unq out (34 :: t) i = _
    rw [unq_mark _ _ (by rw [bt_cons]; decide)]
    simp [wrs]
  | f + 1, s, out, t, i, hf, hv => by
    by_cases hl : s = []
    · subst hl
      show unq out (34 :: t) i = _
      rw [unq_mark _ _ (by rw [bt_cons]; decide)]
      simp [wrs]
    have hp : 0 < s.length := List.length_pos_iff.2 hl
    have hs := valid_step s hl
    rw [hv] at hs
    by_cases h0 : runeN s = 0
    · rw [if_pos h0] at hs; cases hs
    rw [if_neg h0] at hs
    have hle := runeN_le s hl
    by_cases c : bt s 0 < 128
    · obtain ⟨a, r, rfl⟩ : ∃ a r, s = a :: r := by
        cases s with
        | nil => exact absurd rfl hl
        | cons a r => exact ⟨a, r, rfl⟩
      rw [runeN_one c] at hs
      rw [bt_cons] at c
      obtain ⟨h1, h2⟩ := tk_wr c (wrs r ++ 34 :: t)
      have e : wrs (a :: r) = wr a ++ wrs r := by simp [wrs]
      have hw := (wr_len a).1
      rw [e, List.append_assoc, unq_step _ _ (by intro h; have := congrArg List.length h; rw [List.length_append, List.length_nil] at this; omega) h2 h1, List.drop_left]
      rw [unq_quo f r (out ++ [a]) t _ (by simpa using hf) hs.symm]
      simp
      omega
    · have e : wrs s = s.take (runeN s) ++ wrs (s.drop (runeN s)) := by
        conv => lhs; rw [← List.take_append_drop (runeN s) s]
        rw [wrs_append, wrs_high (take_high (fun j hj => runeN_high (by omega) j hj))]
      have hlen : (s.take (runeN s)).length = runeN s := by rw [List.length_take]; omega
      have hb0 : bt (s.take (runeN s)) 0 = bt s 0 := bt_take (by omega)
      have hne : s.take (runeN s) ≠ [] := List.length_pos_iff.1 (by omega)
      have ht : tk (s.take (runeN s)) = some (s.take (runeN s), runeN s) := by
        rw [tk, if_neg (by omega), runeN_take h0, if_neg (by omega), List.take_take, Nat.min_self]
      rw [e, List.append_assoc, unq_step _ _ (by simp [hne]) (by rw [bt_append _ (by omega), hb0]; omega) (tk_append _ hne ht)]
      rw [List.drop_append_of_le_length (by omega), List.drop_of_length_le (by omega), List.nil_append]
      rw [unq_quo f _ (out ++ s.take (runeN s)) t _ (by rw [List.length_drop]; omega) hs.symm]
      rw [List.append_assoc, List.take_append_drop, List.length_append, hlen]
      congr 2
      omega
theorem quo_len (s : List UInt8) : (quo s).length = (wrs s).length + 2 := by simp [quo]
theorem quo_back (s t : List UInt8) (h : Lib.validD s = true) : unqs (quo s ++ t) = (s, (quo s).length, 0) := by
  have e : quo s ++ t = 34 :: (wrs s ++ 34 :: t) := by simp [quo]
  have hb : bt (34 :: (wrs s ++ 34 :: t)) 0 = 34 := rfl
  rw [e, unqs, if_pos hb, List.drop_one, List.tail_cons, unq_quo _ s [] t 1 (Nat.le_refl _) h, quo_len, List.nil_append]
  congr 2
  omega
end Qp
end Go.Proofs.YtdgcdemihalefaaGreatDoor
namespace Go.Proofs.YtdgcdemihalefaaGreatDoor
namespace Pw
open Go.RowKit Np Rw Vp Up Qp
def isL (c : UInt8) : Bool := decide (97 ≤ c.toNat ∧ c.toNat ≤ 122) || decide (65 ≤ c.toNat ∧ c.toNat ≤ 90) || decide (c.toNat = 95)
def isF (c : UInt8) : Bool := decide (48 ≤ c.toNat ∧ c.toNat ≤ 57)
def isLF (c : UInt8) : Bool := isL c || isF c
def wrd : List UInt8 → List UInt8
  | [] => []
  | c :: r => if isL c then c :: r.takeWhile isLF else []
def okAt (l : List UInt8) (k : Nat) : Bool := match l[k]? with
  | none => false
  | some c => isL c || (decide (0 < k) && isF c)
theorem takeWhile_len {α : Type} (p : α → Bool) : ∀ (l : List α) (n : Nat), n ≤ l.length → (∀ j, j < n → ∀ x, l[j]? = some x → p x = true) → (n = l.length ∨ ∃ x, l[n]? = some x ∧ p x = false) → l.takeWhile p = l.take n
  | [], n, hn, _, _ => by simp
  | a :: l, 0, _, _, h => by
    rcases h with h | ⟨x, hx, hp⟩
    · simp at h
    · simp at hx; subst hx
      rw [List.takeWhile_cons, hp]; simp
  | a :: l, n + 1, hn, h0, h => by
    have ha : p a = true := h0 0 (by omega) a (by simp)
    rw [List.takeWhile_cons, if_pos ha, List.take_succ_cons]
    congr 1
    refine takeWhile_len p l n (by simpa using hn) (fun j hj x hx => h0 (j + 1) (by omega) x (by simpa using hx)) ?_
    rcases h with h | ⟨x, hx, hp⟩
    · left; simpa using h
    · right; exact ⟨x, by simpa using hx, hp⟩
theorem wrd_of {l : List UInt8} {n : Nat} (hn : n ≤ l.length) (h0 : ∀ j, j < n → okAt l j = true) (h1 : okAt l n = false) : wrd l = l.take n := by
  cases l with
  | nil => simp [wrd]
  | cons c r =>
    cases n with
    | zero =>
      have : isL c = false := by simpa [okAt] using h1
      rw [wrd, this]; simp
    | succ n =>
      have hc : isL c = true := by simpa [okAt] using h0 0 (by omega)
      rw [wrd, if_pos hc, List.take_succ_cons]
      congr 1
      refine takeWhile_len isLF r n (by simpa using hn) (fun j hj x hx => ?_) ?_
      · have := h0 (j + 1) (by omega)
        rw [okAt, List.getElem?_cons_succ, hx] at this
        simpa [isLF] using this
      · rw [okAt, List.getElem?_cons_succ] at h1
        cases hr : r[n]? with
        | none =>
          left
          have := List.getElem?_eq_none_iff.1 hr
          simp at hn; omega
        | some x =>
          rw [hr] at h1
          exact Or.inr ⟨x, rfl, by simpa [isLF] using h1⟩
theorem wrd_le (l : List UInt8) : (wrd l).length ≤ l.length := by
  cases l with
  | nil => simp [wrd]
  | cons c r =>
    rw [wrd]; split
    · have := (List.takeWhile_sublist isLF (l := r)).length_le
      simp; omega
    · simp
theorem wrd_low : ∀ (l : List UInt8), ∀ c ∈ wrd l, c.toNat < 128 := by
  intro l c hc
  cases l with
  | nil => simp [wrd] at hc
  | cons a r =>
    rw [wrd] at hc
    have hL : ∀ x : UInt8, isL x = true → x.toNat < 128 := fun x h => by simp [isL] at h; omega
    have hF : ∀ x : UInt8, isF x = true → x.toNat < 128 := fun x h => by simp [isF] at h; omega
    split at hc
    · rename_i ha
      rcases List.mem_cons.1 hc with rfl | hc
      · exact hL _ ha
      · have := List.all_eq_true.1 (List.all_takeWhile (p := isLF) (l := r)) c hc
        simp [isLF] at this
        rcases this with h | h
        · exact hL _ h
        · exact hF _ h
    · simp at hc
def isW (name : List UInt8) : Bool := decide (name ≠ []) && decide (wrd name = name)
def stT (s : St) : List UInt8 := if s.part then 91 :: (Lib.itoa s.n ++ [93]) else if isW s.name then 46 :: s.name else 46 :: quo s.name
def headT (p : List St) : List UInt8 := match p with
  | [] => [46]
  | s :: _ => if s.part then [46] else []
def textP (p : List St) : List UInt8 := headT p ++ p.flatMap stT
def atoiN (l : List UInt8) : Int := match Lib.atoiAll l with
  | .ok v => v
  | .range => Lib.atoiSat l
  | _ => 0
def gss (l : List UInt8) : St :=
  if Lib.hasPrefix l [91] then ⟨true, [], atoiN (Lib.cut (Lib.trimPrefix l [91]) [93]).1⟩
  else if (unqs (Lib.trimPrefix l [46])).2.2 = 0 then ⟨false, (unqs (Lib.trimPrefix l [46])).1, 0⟩
  else ⟨false, wrd (Lib.trimPrefix l [46]), 0⟩
def ahd (l : List UInt8) (first : Bool) : Nat := if first && Lib.hasPrefix l [46, 91] then 1 else 0
def bgn (l : List UInt8) (first : Bool) : Option (St × Nat) :=
  if first && !Lib.hasPrefix l [46, 91] && !Lib.hasPrefix l [46] then none
  else if rightS (gss (l.drop (ahd l first))) && Lib.hasPrefix (l.drop (ahd l first)) (stT (gss (l.drop (ahd l first)))) then some (gss (l.drop (ahd l first)), ahd l first + (stT (gss (l.drop (ahd l first)))).length) else none
def readF : Nat → List St → List UInt8 → Nat → List St × Nat × Int
  | 0, _, _, i => ([], i, 1)
  | f + 1, acc, l, i => match bgn (l.drop i) (i == 0) with
    | none => ([], i, 1)
    | some (g, n) => if acc.length = 20 then ([], i, 1) else if i + n = l.length then (acc ++ [g], 0, 0) else readF f (acc ++ [g]) l (i + n)
def readP (l : List UInt8) : List St × Nat × Int := if l = [46] then ([], 0, 0) else readF (l.length + 1) [] l 0
theorem pre_iff {l p : List UInt8} : Lib.hasPrefix l p = true ↔ ∃ t, l = p ++ t := by
  unfold Lib.hasPrefix
  rw [List.isPrefixOf_iff_prefix]
  constructor
  · rintro ⟨t, rfl⟩; exact ⟨t, rfl⟩
  · rintro ⟨t, rfl⟩; exact ⟨t, rfl⟩
theorem pre_len {l p : List UInt8} (h : Lib.hasPrefix l p = true) : p.length ≤ l.length := by
  obtain ⟨t, rfl⟩ := pre_iff.1 h; simp
theorem trim_of (p t : List UInt8) : Lib.trimPrefix (p ++ t) p = t := by
  unfold Lib.trimPrefix
  rw [if_pos (pre_iff.2 ⟨t, rfl⟩)]; simp
theorem stT_pos (s : St) : 1 ≤ (stT s).length := by
  unfold stT; split
  · simp
  · split <;> simp
theorem bgn_some {l : List UInt8} {first : Bool} {g : St} {n : Nat} (h : bgn l first = some (g, n)) : rightS g = true ∧ g = gss (l.drop (ahd l first)) ∧ n = ahd l first + (stT g).length ∧ (∃ t, l.drop (ahd l first) = stT g ++ t) ∧ (first = true → Lib.hasPrefix l [46, 91] = true ∨ Lib.hasPrefix l [46] = true) := by
  unfold bgn at h
  split at h
  · cases h
  · rename_i h1
    split at h
    · rename_i h2
      injection h with h
      injection h with ha hb
      rw [Bool.and_eq_true] at h2
      subst ha
      refine ⟨h2.1, rfl, hb.symm, pre_iff.1 h2.2, fun hf => ?_⟩
      subst hf
      cases hp : Lib.hasPrefix l [46, 91] <;> cases hq : Lib.hasPrefix l [46] <;> simp_all
    · cases h
theorem ahd_le (l : List UInt8) (first : Bool) : ahd l first ≤ l.length := by
  unfold ahd; split
  · rename_i h
    rw [Bool.and_eq_true] at h
    have := pre_len h.2
    simp at this; omega
  · omega
theorem bgn_len {l : List UInt8} {first : Bool} {g : St} {n : Nat} (h : bgn l first = some (g, n)) : 1 ≤ n ∧ n ≤ l.length := by
  obtain ⟨-, -, hn, ⟨t, ht⟩, -⟩ := bgn_some h
  have h1 := stT_pos g
  have h2 := congrArg List.length ht
  have h3 := ahd_le l first
  rw [List.length_drop, List.length_append] at h2
  omega
def textK (p : List St) (k : Nat) : List UInt8 := headT p ++ (p.take k).flatMap stT
theorem textK_zero (p : List St) : textK p 0 = headT p := by simp [textK]
theorem textK_succ {p : List St} {k : Nat} {s : St} (h : p[k]? = some s) : textK p (k + 1) = textK p k ++ stT s := by
  obtain ⟨hk, rfl⟩ := List.getElem?_eq_some_iff.1 h
  unfold textK
  rw [List.take_succ_eq_append_getElem hk, List.flatMap_append]
  simp
theorem textK_all {p : List St} {k : Nat} (h : p.length ≤ k) : textK p k = textP p := by
  unfold textK textP
  rw [List.take_of_length_le h]
theorem textK_len (p : List St) (k : Nat) : (textK p k).length ≤ (textP p).length := by
  unfold textK textP
  have : p.flatMap stT = (p.take k).flatMap stT ++ (p.drop k).flatMap stT := by rw [← List.flatMap_append, List.take_append_drop]
  rw [this]
  simp only [List.length_append]; omega
theorem dec_app : ∀ (n acc : Nat) (r : List UInt8), acc * 10 ^ (Lib.decDigits n).length + n < 1000000000000 → Lib.parseUint10 acc (Lib.decDigits n ++ r) = Lib.parseUint10 (acc * 10 ^ (Lib.decDigits n).length + n) r := by
  intro n
  induction n using Nat.strongRecOn with
  | _ n ih =>
    intro acc r h
    by_cases hn : n < 10
    · rw [Lib.decDigits_one hn] at h ⊢
      have hc : (UInt8.ofNat (48 + n)).toNat = 48 + n := by simp; omega
      simp only [List.length_singleton, Nat.pow_one, List.cons_append, List.nil_append] at h ⊢
      rw [Lib.parseUint10, hc, if_pos (by omega), if_neg (by omega), if_neg (by omega)]
      congr 1; omega
    · have e1 : Lib.decDigits n = Lib.decDigits (n / 10) ++ [UInt8.ofNat (48 + n % 10)] := by rw [Lib.decDigits, dif_neg hn]
      have hc : (UInt8.ofNat (48 + n % 10)).toNat = 48 + n % 10 := by simp; omega
      rw [e1, List.length_append, List.length_singleton, Nat.pow_succ, ← Nat.mul_assoc] at h ⊢
      generalize hz : acc * 10 ^ (Lib.decDigits (n / 10)).length = z at h ⊢
      rw [List.append_assoc, ih (n / 10) (by omega) acc _ (by rw [hz]; omega), hz, List.cons_append, List.nil_append, Lib.parseUint10, hc, if_pos (by omega), if_neg (by omega), if_neg (by omega)]
      congr 1; omega
theorem dec_fig : ∀ (n : Nat), Lib.decDigits n ≠ [] ∧ ∀ c ∈ Lib.decDigits n, 48 ≤ c.toNat ∧ c.toNat ≤ 57 := by
  intro n
  induction n using Nat.strongRecOn with
  | _ n ih =>
    by_cases hn : n < 10
    · rw [Lib.decDigits_one hn]
      refine ⟨by simp, fun c hc => ?_⟩
      rw [List.mem_singleton.1 hc]
      simp; omega
    · have e1 : Lib.decDigits n = Lib.decDigits (n / 10) ++ [UInt8.ofNat (48 + n % 10)] := by rw [Lib.decDigits, dif_neg hn]
      rw [e1]
      refine ⟨by simp, fun c hc => ?_⟩
      rcases List.mem_append.1 hc with hc | hc
      · exact (ih (n / 10) (by omega)).2 c hc
      · rw [List.mem_singleton.1 hc]
        simp; omega
theorem itoa_nat {n : Int} (h : 0 ≤ n) : Lib.itoa n = Lib.decDigits n.toNat := by unfold Lib.itoa; rw [if_neg (by omega)]
theorem atoi_itoa {n : Int} (h0 : 0 ≤ n) (h1 : n ≤ 1000000) : atoiN (Lib.itoa n) = n := by
  rw [itoa_nat h0]
  obtain ⟨hne, hf⟩ := dec_fig n.toNat
  have h2 := dec_app n.toNat 0 [] (by omega)
  rw [List.append_nil, Nat.zero_mul, Nat.zero_add, Lib.parseUint10] at h2
  unfold atoiN Lib.atoiAll
  cases hd : Lib.decDigits n.toNat with
  | nil => exact absurd hd hne
  | cons c r =>
    rw [hd] at hf h2
    have hc := hf c (by simp)
    simp only
    rw [if_neg (show ¬ (c.toNat = 43 ∨ c.toNat = 45) by omega), show Lib.parseMag (c :: r) = Lib.parseUint10 0 (c :: r) by rw [Lib.parseMag, if_neg (by simp)], h2]
    have h45 : ¬ c.toNat = 45 := by omega
    simp only [h45, not_false_eq_true, true_and, false_and, if_false]
    rw [if_neg (by omega)]
    simp only
    omega
theorem index_fig : ∀ (a t : List UInt8), (∀ c ∈ a, c.toNat ≠ 93) → Lib.index (a ++ 93 :: t) [93] = a.length
  | [], t, _ => by simp [Lib.index, List.isPrefixOf]
  | c :: a, t, h => by
    have hc : ¬ (93 : UInt8) = c := fun e => h c (by simp) (by rw [← e]; rfl)
    have hi := index_fig a t (fun x hx => h x (by simp [hx]))
    rw [List.cons_append, Lib.index, hi]
    have : [93].isPrefixOf (c :: (a ++ 93 :: t)) = false := by simp [List.isPrefixOf, hc]
    rw [this]
    simp
theorem cut_fig (a t : List UInt8) (h : ∀ c ∈ a, c.toNat ≠ 93) : (Lib.cut (a ++ 93 :: t) [93]).1 = a := by
  unfold Lib.cut
  rw [index_fig a t h, if_pos (by omega)]
  simp
theorem isW_first {a : List UInt8} (ha : isW a = true) : ∃ c r, a = c :: r ∧ isL c = true := by
  unfold isW at ha
  rw [Bool.and_eq_true, decide_eq_true_eq, decide_eq_true_eq] at ha
  obtain ⟨hne, hw⟩ := ha
  cases a with
  | nil => exact absurd rfl hne
  | cons c a =>
    refine ⟨c, a, rfl, ?_⟩
    rw [wrd] at hw
    by_cases hc : isL c = true
    · exact hc
    · rw [if_neg hc] at hw; cases hw
theorem isL_ne {c : UInt8} (h : isL c = true) : c.toNat ≠ 34 ∧ c.toNat ≠ 46 ∧ c.toNat ≠ 91 := by
  simp [isL] at h; omega
theorem stT_head (s : St) : ∃ c t, stT s = c :: t ∧ isLF c = false ∧ (s.part = true → c = 91) ∧ (s.part = false → c = 46) := by
  unfold stT
  split
  · rename_i h
    exact ⟨91, _, rfl, by decide, fun _ => rfl, fun e => by rw [h] at e; cases e⟩
  · rename_i h
    split
    · exact ⟨46, _, rfl, by decide, fun e => absurd e h, fun _ => rfl⟩
    · exact ⟨46, _, rfl, by decide, fun e => absurd e h, fun _ => rfl⟩
end Pw
end Go.Proofs.YtdgcdemihalefaaGreatDoor
namespace Go.Proofs.YtdgcdemihalefaaGreatDoor
namespace Fw
open Go.RowKit Np Rw Vp Pw
def isC (op : Int) : Bool := decide (16 ≤ op ∧ op ≤ 19)
def ofC (op : Int) : Bool := decide (op = 7 ∨ op = 17 ∨ op = 18 ∨ op = 19)
def isPth (s : List UInt8) : Bool := decide ((readP s).2.2 = 0)
def flatN (c : Nd) : Bool := rightL [c] && !cont c.kind
def sOk (op : Int) (s : List UInt8) : Bool := if op = 1 then vld s else if op = 12 ∨ op = 13 ∨ op = 15 ∨ op = 16 then isPth s else decide (s = [])
def nOk (op n : Int) : Bool := if op = 2 ∨ op = 3 then decide (0 ≤ n) && decide (n ≤ 1000000) else if op = 16 then decide (0 ≤ n) && decide (n ≤ 5) else decide (n = 0)
def cOk (op : Int) (c : Nd) : Bool := if op = 16 then flatN c else decide (c = zeroC)
def manyOk (op many : Int) : Bool :=
  if op = 4 ∨ op = 17 ∨ op = 18 then decide (many = 2)
  else if op = 5 ∨ op = 6 ∨ op = 7 ∨ op = 19 then decide (many = 1)
  else if op = 8 ∨ op = 9 then decide (0 ≤ many)
  else decide (many = 0)
def plainT (t : Tm) : Bool := decide (0 ≤ t.op ∧ t.op ≤ 19) && manyOk t.op t.many && sOk t.op t.s && nOk t.op t.n && cOk t.op t.c
theorem plainT_many {t : Tm} (h : plainT t = true) : 0 ≤ t.many := by
  unfold plainT manyOk at h
  simp only [Bool.and_eq_true] at h
  have h2 := h.1.1.1.2
  split at h2
  · simp at h2; omega
  · split at h2
    · simp at h2; omega
    · split at h2
      · simp at h2; omega
      · simp at h2; omega
structure Hf where
  op : Int
  left : Int
  ahead : List (List UInt8)
deriving DecidableEq
def letsN (h : Hf) (name : List UInt8) : Bool := if h.op = 8 then !decide (name ∈ h.ahead) && vld name else decide (name = [])
def letsF (h : Hf) (t : Tm) : Bool := !(decide (h.op = 4) && decide (h.left = 2) && decide (t.op = 4)) && (isC t.op == ofC h.op) && letsN h t.name
def popF : List Hf → List Hf
  | [] => []
  | h :: st => if h.left = 0 then popF st else h :: st
def stepF (h : Hf) (t : Tm) : Hf := ⟨h.op, h.left - 1, h.ahead ++ [t.name]⟩
def passF : List Hf → Tm → List Hf
  | [], _ => []
  | h :: st, t => if 0 < t.many then ⟨t.op, t.many, []⟩ :: stepF h t :: st else popF (stepF h t :: st)
theorem passF_cons (h : Hf) (st : List Hf) (t : Tm) : passF (h :: st) t = if 0 < t.many then ⟨t.op, t.many, []⟩ :: stepF h t :: st else popF (stepF h t :: st) := rfl
def runF : List Hf → List Tm → Bool
  | st, [] => st.isEmpty
  | [], _ :: _ => false
  | h :: st, t :: l => letsF h t && plainT t && runF (passF (h :: st) t) l
def startF : List Hf := [⟨9, 1, []⟩]
def rightF (l : List Tm) : Bool := runF startF l
theorem runF_nil (st : List Hf) : runF st [] = st.isEmpty := by cases st <;> simp [runF]
theorem runF_cons (h : Hf) (st : List Hf) (t : Tm) (l : List Tm) : runF (h :: st) (t :: l) = (letsF h t && plainT t && runF (passF (h :: st) t) l) := by simp [runF]
def FitF : List Hf → Prop
  | [] => True
  | h :: st => 1 ≤ h.left ∧ ∀ x ∈ st, 0 ≤ x.left
theorem popF_fit : ∀ {st : List Hf}, (∀ x ∈ st, 0 ≤ x.left) → FitF (popF st)
  | [], _ => by simp [popF, FitF]
  | h :: st, hh => by
    have h0 := hh h (by simp)
    have h1 : ∀ x ∈ st, 0 ≤ x.left := fun x hx => hh x (by simp [hx])
    unfold popF
    split
    · exact popF_fit h1
    · exact ⟨by omega, h1⟩
theorem passF_fit {st : List Hf} {t : Tm} (h : FitF st) : FitF (passF st t) := by
  cases st with
  | nil => simp [passF, FitF]
  | cons a st =>
    obtain ⟨h1, h2⟩ := h
    have h3 : ∀ x ∈ stepF a t :: st, 0 ≤ x.left := by
      intro x hx
      rcases List.mem_cons.1 hx with rfl | hx
      · simp [stepF]; omega
      · exact h2 x hx
    rw [passF_cons]
    split
    · rename_i h0; exact ⟨by simp; omega, h3⟩
    · exact popF_fit h3
def sumF : List Hf → Nat
  | [] => 0
  | h :: st => h.left.toNat + sumF st
theorem sumF_pop : ∀ st : List Hf, sumF (popF st) = sumF st
  | [] => rfl
  | h :: st => by
    unfold popF
    split
    · rename_i h0; rw [sumF_pop st, sumF, h0]; simp
    · rfl
theorem popF_len : ∀ st : List Hf, (popF st).length ≤ st.length
  | [] => Nat.le_refl _
  | h :: st => by
    unfold popF
    split
    · exact Nat.le_succ_of_le (popF_len st)
    · exact Nat.le_refl _
theorem passF_len (st : List Hf) (t : Tm) : (passF st t).length ≤ st.length + 1 := by
  cases st with
  | nil => simp [passF]
  | cons h st =>
    rw [passF_cons]
    split
    · simp
    · have := popF_len (stepF h t :: st); simp at this ⊢; omega
theorem runF_skip : ∀ (l : List Tm) (st : List Hf), FitF st → runF st l = true → skip tmany l (sumF st) = some []
  | [], st, _, h => by
    rw [runF_nil, List.isEmpty_iff] at h
    subst h; rfl
  | t :: l, [], _, h => by simp [runF] at h
  | t :: l, a :: st, hf, h => by
    rw [runF_cons, Bool.and_eq_true, Bool.and_eq_true] at h
    obtain ⟨⟨_, hp⟩, hr⟩ := h
    have h0 := plainT_many hp
    have ih := runF_skip l _ (passF_fit hf) hr
    obtain ⟨h1, h2⟩ := hf
    have e : sumF (a :: st) = (a.left - 1).toNat + sumF st + 1 := by rw [sumF]; omega
    rw [e, skip_cons, if_neg (by show ¬ t.many < 0; omega)]
    rw [← ih]
    congr 1
    rw [passF_cons]
    split
    · simp [sumF, stepF, tmany]; omega
    · rw [sumF_pop]; simp [sumF, stepF, tmany]; omega
mutual
def rightTF : Tr Tm → Bool
  | .mk t ks => plainT t && rightKF t.op t.many [] ks
def rightKF (op : Int) : Int → List (List UInt8) → List (Tr Tm) → Bool
  | _, _, [] => true
  | left, ahead, k :: ks => letsF ⟨op, left, ahead⟩ k.nd && rightTF k && rightKF op (left - 1) (ahead ++ [k.nd.name]) ks
end
theorem rightTF_mk (t : Tm) (ks : List (Tr Tm)) : rightTF (.mk t ks) = (plainT t && rightKF t.op t.many [] ks) := by simp [rightTF]
theorem rightTF_eq (t : Tr Tm) : rightTF t = (plainT t.nd && rightKF t.nd.op t.nd.many [] t.ks) := by cases t; simp [rightTF]
@[simp] theorem rightKF_nil (op left : Int) (a : List (List UInt8)) : rightKF op left a [] = true := by simp [rightKF]
theorem rightKF_cons (op left : Int) (a : List (List UInt8)) (k : Tr Tm) (ks : List (Tr Tm)) : rightKF op left a (k :: ks) = (letsF ⟨op, left, a⟩ k.nd && rightTF k && rightKF op (left - 1) (a ++ [k.nd.name]) ks) := by simp [rightKF]
mutual
theorem runF_flat : ∀ (t : Tr Tm) (h : Hf) (st : List Hf) (r : List Tm), okT tmany t →
    runF (h :: st) (flat t ++ r) = (letsF h t.nd && rightTF t && runF (popF (stepF h t.nd :: st)) r)
  | .mk n ks, h, st, r, ho => by
    obtain ⟨h1, h2⟩ := okT_mk.1 ho
    have h1' : n.many = ks.length := h1
    rw [flat_mk, List.cons_append, runF_cons, rightTF_mk, Tr.nd_mk]
    cases ks with
    | nil =>
      have h0 : n.many = 0 := h1'
      simp [passF, h0]
    | cons t ts =>
      have h0 : 0 < n.many := by rw [h1', List.length_cons]; omega
      rw [passF, if_pos h0, runF_flats (t :: ts) ⟨n.op, n.many, []⟩ (stepF h n :: st) r h2 (by simp) (by simpa using h1')]
      simp only [Bool.and_assoc]
theorem runF_flats : ∀ (ts : List (Tr Tm)) (h : Hf) (st : List Hf) (r : List Tm), okTs tmany ts → ts ≠ [] → h.left = ts.length →
    runF (h :: st) (flats ts ++ r) = (rightKF h.op h.left h.ahead ts && runF (popF st) r)
  | [], _, _, _, _, h0, _ => absurd rfl h0
  | [t], h, st, r, ho, _, hl => by
    rw [flats_cons, flats_nil, List.append_nil, runF_flat t h st r (okTs_cons.1 ho).1, rightKF_cons, rightKF_nil]
    have : (stepF h t.nd).left = 0 := by simp [stepF, hl]
    rw [popF, if_pos this, Bool.and_true]
  | t :: u :: ts, h, st, r, ho, _, hl => by
    obtain ⟨h1, h2⟩ := okTs_cons.1 ho
    rw [flats_cons, List.append_assoc, runF_flat t h st _ h1, rightKF_cons]
    have : ¬ (stepF h t.nd).left = 0 := by simp [stepF, hl]; omega
    rw [popF, if_neg this, runF_flats (u :: ts) (stepF h t.nd) st r h2 (by simp) (by simp [stepF, hl])]
    simp only [stepF, Bool.and_assoc]
end
structure Flt (t : Tr Tm) : Prop where
  ok : okT tmany t
  rt : rightTF t = true
  nm : t.nd.name = []
  nc : isC t.nd.op = false
theorem rightF_flat {t : Tr Tm} (h : okT tmany t) : rightF (flat t) = (decide (t.nd.name = []) && !isC t.nd.op && rightTF t) := by
  have := runF_flat t ⟨9, 1, []⟩ [] [] h
  rw [List.append_nil] at this
  rw [rightF, startF, this]
  have e : popF [stepF ⟨9, 1, []⟩ t.nd] = [] := by simp [popF, stepF]
  rw [e, runF_nil]
  simp only [letsF, letsN, ofC]
  cases isC t.nd.op <;> cases rightTF t <;> simp
theorem flt_of_rightF {l : List Tm} (h : rightF l = true) : ∃ t, Flt t ∧ l = flat t := by
  have h1 := runF_skip l startF ⟨by simp, by simp⟩ h
  obtain ⟨t, ht, rfl⟩ := skip_one (many := tmany) h1
  rw [rightF_flat ht, Bool.and_eq_true, Bool.and_eq_true, decide_eq_true_eq, Bool.not_eq_true'] at h
  exact ⟨t, ⟨ht, h.2, h.1.1, h.1.2⟩, rfl⟩
theorem flt_parts {op : Int} : ∀ {left : Int} {a : List (List UInt8)} {ks : List (Tr Tm)}, rightKF op left a ks = true → ∀ k ∈ ks, rightTF k = true ∧ isC k.nd.op = ofC op ∧ (op ≠ 8 → k.nd.name = []) ∧ vld k.nd.name = true
  | _, _, [], _, k, hk => by simp at hk
  | left, a, u :: ks, h, k, hk => by
    rw [rightKF_cons, Bool.and_eq_true, Bool.and_eq_true] at h
    rcases List.mem_cons.1 hk with rfl | hk
    · have h1 := h.1.1
      unfold letsF at h1
      simp only [Bool.and_eq_true, beq_iff_eq] at h1
      refine ⟨h.1.2, h1.1.2, fun h8 => ?_, ?_⟩
      · have := h1.2; unfold letsN at this; rw [if_neg h8] at this; simpa using this
      · have := h1.2
        unfold letsN at this
        split at this
        · simp only [Bool.and_eq_true] at this; exact this.2
        · simp at this; rw [this]; exact vld_nil
    · exact flt_parts h.2 k hk
end Fw
end Go.Proofs.YtdgcdemihalefaaGreatDoor
namespace Go.Proofs.YtdgcdemihalefaaGreatDoor
namespace Fw
open Go.RowKit Np Rw Vp Pw
def kidsF (op : Int) : Int → List (List UInt8) → List (Tr Tm) → Bool
  | _, _, [] => true
  | left, ahead, k :: ks => letsF ⟨op, left, ahead⟩ k.nd && kidsF op (left - 1) (ahead ++ [k.nd.name]) ks
theorem kidsF_cons (op left : Int) (a : List (List UInt8)) (k : Tr Tm) (ks : List (Tr Tm)) : kidsF op left a (k :: ks) = (letsF ⟨op, left, a⟩ k.nd && kidsF op (left - 1) (a ++ [k.nd.name]) ks) := rfl
def termOk (t : Tr Tm) : Bool := plainT t.nd && kidsF t.nd.op t.nd.many [] t.ks
theorem rightKF_all (op : Int) : ∀ (ks : List (Tr Tm)) (left : Int) (a : List (List UInt8)), rightKF op left a ks = (kidsF op left a ks && ks.all rightTF)
  | [], _, _ => rfl
  | k :: ks, left, a => by
    rw [rightKF_cons, rightKF_all op ks, kidsF_cons, List.all_cons]
    cases letsF ⟨op, left, a⟩ k.nd <;> cases rightTF k <;> simp
theorem rightTF_node (t : Tr Tm) : rightTF t = (termOk t && t.ks.all rightTF) := by
  rw [rightTF_eq, rightKF_all, termOk, Bool.and_assoc]
mutual
theorem rightTF_subs : ∀ t : Tr Tm, rightTF t = (subs t).all termOk
  | .mk n ks => by rw [rightTF_node, subs_mk, List.all_cons, Tr.ks_mk, rightTFs_subs ks]
theorem rightTFs_subs : ∀ ts : List (Tr Tm), ts.all rightTF = (subss ts).all termOk
  | [] => by simp
  | t :: ts => by rw [subss_cons, List.all_append, List.all_cons, rightTF_subs t, rightTFs_subs ts]
end
theorem flt_kids {t : Tr Tm} (ho : okT tmany t) (hr : rightTF t = true) : ∀ k ∈ t.ks, okT tmany k ∧ rightTF k = true ∧ isC k.nd.op = ofC t.nd.op ∧ (t.nd.op ≠ 8 → k.nd.name = []) ∧ vld k.nd.name = true := by
  rw [rightTF_eq, Bool.and_eq_true] at hr
  intro k hk
  obtain ⟨h1, h2, h3, h4⟩ := flt_parts hr.2 k hk
  exact ⟨okTs_all.1 (okT_eq.1 ho).2 k hk, h1, h2, h3, h4⟩
def clrF (t : Tr Tm) : Tr Tm := .mk (noNm t.nd) t.ks
theorem rightTF_clr (t : Tr Tm) : rightTF (clrF t) = rightTF t := by rw [rightTF_eq, rightTF_eq t]; rfl
theorem okT_clr {t : Tr Tm} (h : okT tmany t) : okT tmany (clrF t) := by
  obtain ⟨h1, h2⟩ := okT_eq.1 h
  exact okT_mk.2 ⟨h1, h2⟩
theorem flat_clrF (t : Tr Tm) : flat (clrF t) = noNm t.nd :: flats t.ks := by rw [clrF, flat_mk]
theorem flat_clrF_len (t : Tr Tm) : (flat (clrF t)).length = (flat t).length := by rw [flat_clrF, flat_eq t]; rfl
def nxtF (N : Nat) : List Tm → Nat → Nat → Int
  | _, 0, i => i
  | [], _ + 1, _ => -1
  | n :: l, o + 1, i => if n.many < 0 ∨ (N : Int) < n.many then -1 else nxtF N l (o + n.many.toNat) (i + 1)
@[simp] theorem nxtF_zero (N : Nat) (l : List Tm) (i : Nat) : nxtF N l 0 i = i := by cases l <;> simp [nxtF]
@[simp] theorem nxtF_nil (N o i : Nat) : nxtF N [] (o + 1) i = -1 := by simp [nxtF]
theorem nxtF_cons (N : Nat) (n : Tm) (l : List Tm) (o i : Nat) : nxtF N (n :: l) (o + 1) i = if n.many < 0 ∨ (N : Int) < n.many then -1 else nxtF N l (o + n.many.toNat) (i + 1) := by simp [nxtF]
mutual
theorem nxtF_flat : ∀ (t : Tr Tm) (N : Nat) (r : List Tm) (k i : Nat), okT tmany t → (flat t).length ≤ N → nxtF N (flat t ++ r) (k + 1) i = nxtF N r k (i + (flat t).length)
  | .mk n ks, N, r, k, i, h, hl => by
    obtain ⟨h1, h2⟩ := okT_mk.1 h
    have h1' : n.many = ks.length := h1
    have h3 := flats_len ks
    rw [flat_mk, List.length_cons] at hl
    rw [flat_mk, List.cons_append, nxtF_cons, if_neg (by omega), h1', Int.toNat_natCast, Nat.add_comm k, nxtF_flats ks N r k (i + 1) h2 (by omega), List.length_cons]
    congr 1; omega
theorem nxtF_flats : ∀ (ts : List (Tr Tm)) (N : Nat) (r : List Tm) (k i : Nat), okTs tmany ts → (flats ts).length ≤ N → nxtF N (flats ts ++ r) (ts.length + k) i = nxtF N r k (i + (flats ts).length)
  | [], N, r, k, i, _, _ => by simp
  | t :: ts, N, r, k, i, h, hl => by
    obtain ⟨h1, h2⟩ := okTs_cons.1 h
    rw [flats_cons, List.length_append] at hl
    rw [flats_cons, List.append_assoc, List.length_cons, show ts.length + 1 + k = ts.length + k + 1 by omega, nxtF_flat t N _ _ i h1 (by omega), nxtF_flats ts N r k _ h2 (by omega), List.length_append]
    congr 1; omega
end
theorem nxtF_inv (N : Nat) : ∀ (l : List Tm) (k i : Nat), 0 ≤ nxtF N l k i → ∃ r, skip tmany l k = some r ∧ nxtF N l k i + r.length = i + l.length
  | l, 0, i, _ => ⟨l, by simp, by simp⟩
  | [], k + 1, i, h => by simp at h
  | n :: l, k + 1, i, h => by
    rw [nxtF_cons] at h ⊢
    by_cases hn : n.many < 0 ∨ (N : Int) < n.many
    · rw [if_pos hn] at h; omega
    · rw [if_neg hn] at h ⊢
      obtain ⟨r, h1, h2⟩ := nxtF_inv N l _ _ h
      refine ⟨r, ?_, ?_⟩
      · rw [skip_cons, if_neg (by show ¬ n.many < 0; omega)]; exact h1
      · rw [h2, List.length_cons]; omega
theorem nxtF_whole {l : List Tm} : nxtF l.length l 1 0 = l.length ↔ skip tmany l 1 = some [] := by
  constructor
  · intro h
    obtain ⟨r, h1, h2⟩ := nxtF_inv l.length l 1 0 (by omega)
    rw [h] at h2
    have : r = [] := List.eq_nil_of_length_eq_zero (by omega)
    rw [h1, this]
  · intro h
    obtain ⟨t, ht, rfl⟩ := skip_one h
    have := nxtF_flat t (flat t).length [] 0 0 ht (Nat.le_refl _)
    simpa using this
theorem nxtF_at {l r : List Tm} {k : Nat} {t : Tr Tm} (h : l.drop k = flat t ++ r) (ho : okT tmany t) : nxtF l.length (l.drop k) 1 k = (k + (flat t).length : Nat) := by
  have hl : (flat t).length ≤ l.length := by
    have := congrArg List.length h
    rw [List.length_drop, List.length_append] at this; omega
  rw [h, nxtF_flat t l.length r 0 k ho hl]
  simp
def lastP : Tr Tm → Nat
  | .mk n (k :: u :: _) => if n.op = 4 then 1 + (flat k).length + lastP u else 0
  | .mk _ _ => 0
def pipeT : Tr Tm → Tr Tm → Tr Tm
  | .mk n (k :: u :: ks), g => if n.op = 4 then .mk pipeTm [k, pipeT u g] else .mk pipeTm [.mk n (k :: u :: ks), g]
  | .mk n ks, g => .mk pipeTm [.mk n ks, g]
theorem lastP_pos {n : Tm} {k u : Tr Tm} {ks : List (Tr Tm)} (h : n.op = 4) : lastP (.mk n (k :: u :: ks)) = 1 + (flat k).length + lastP u := by rw [lastP, if_pos h]
theorem lastP_neg {t : Tr Tm} (h : t.nd.op ≠ 4) : lastP t = 0 := by
  match t, h with
  | .mk n [], _ => rfl
  | .mk n [_], _ => rfl
  | .mk n (k :: u :: ks), h => rw [lastP, if_neg (by simpa using h)]
theorem pipeT_neg {t : Tr Tm} (h : t.nd.op ≠ 4) (g : Tr Tm) : pipeT t g = .mk pipeTm [t, g] := by
  match t, h with
  | .mk n [], _ => rfl
  | .mk n [_], _ => rfl
  | .mk n (k :: u :: ks), h => rw [pipeT, if_neg (by simpa using h)]
theorem pipe_form {t : Tr Tm} (ho : okT tmany t) (hr : rightTF t = true) (h4 : t.nd.op = 4) : ∃ k u, t = .mk ⟨4, 2, t.nd.name, [], 0, zeroC⟩ [k, u] ∧ k.nd.op ≠ 4 := by
  obtain ⟨⟨o, m, nm, s, n, c⟩, ks⟩ := t
  simp only [Tr.nd_mk] at h4 ⊢
  subst h4
  obtain ⟨h1, -⟩ := okT_mk.1 ho
  rw [rightTF_mk, Bool.and_eq_true] at hr
  obtain ⟨hp, hk⟩ := hr
  have hp' : m = 2 ∧ s = [] ∧ n = 0 ∧ c = zeroC := by
    simp [plainT, manyOk, sOk, nOk, cOk] at hp
    exact ⟨hp.1.1.1, hp.1.1.2, hp.1.2, hp.2⟩
  obtain ⟨rfl, rfl, rfl, rfl⟩ := hp'
  match ks, h1 with
  | [k, u], _ =>
    refine ⟨k, u, rfl, fun e => ?_⟩
    rw [rightKF_cons] at hk
    simp [letsF, e] at hk
  | [], h => simp [tmany] at h
  | [_], h => simp [tmany] at h
  | _ :: _ :: _ :: _, h => simp [tmany] at h; omega
theorem lastP_le : ∀ (t : Tr Tm), lastP t ≤ (flat t).length
  | .mk n [] => by simp [lastP]
  | .mk n [_] => by simp [lastP]
  | .mk n (k :: u :: ks) => by
    have := lastP_le u
    rw [lastP, flat_mk]
    split <;> simp <;> omega
theorem lastP_lt : ∀ (t : Tr Tm), lastP t < (flat t).length
  | .mk n [] => by simp [lastP, flat_mk]
  | .mk n [_] => by simp [lastP, flat_mk]
  | .mk n (k :: u :: ks) => by
    have := lastP_lt u
    rw [lastP, flat_mk]
    split <;> simp <;> omega
theorem flat_pipe : ∀ (t g : Tr Tm), okT tmany t → rightTF t = true → t.nd.name = [] → flat (pipeT t g) = (flat t).take (lastP t) ++ pipeTm :: ((flat t).drop (lastP t) ++ flat g)
  | .mk n [], g, _, _, _ => by simp [pipeT, lastP, flat_mk, pipeTm]
  | .mk n [_], g, _, _, _ => by simp [pipeT, lastP, flat_mk, pipeTm]
  | .mk n (k :: u :: ks), g, ho, hr, hn => by
    by_cases h4 : n.op = 4
    · obtain ⟨k', u', he, -⟩ := pipe_form ho hr (by simpa using h4)
      rw [hn] at he
      injection he with e1 e2
      injection e2 with e2 e3
      injection e3 with e3 e4
      subst e2 e3 e4
      have hk := flt_kids ho hr u (by simp)
      have hun : u.nd.name = [] := hk.2.2.2.1 (by show n.op ≠ 8; omega)
      have ih := flat_pipe u g hk.1 hk.2.1 hun
      rw [pipeT, if_pos h4, flat_mk, flats_cons, flats_cons, ih, flat_mk, flats_nil, flats_cons, flats_cons, flats_nil, lastP, if_pos h4, show 1 + (flat k).length + lastP u = ((flat k).length + lastP u) + 1 by omega, List.take_succ_cons, List.drop_succ_cons, List.take_append, List.drop_append]
      rw [List.take_of_length_le (l := flat k) (by omega), List.drop_of_length_le (l := flat k) (by omega), show (flat k).length + lastP u - (flat k).length = lastP u by omega, e1]
      simp [pipeTm]
    · rw [pipeT_neg (by simpa using h4), lastP_neg (t := .mk n (k :: u :: ks)) (by simpa using h4)]
      simp [flat_mk, pipeTm]
theorem right_two {k u : Tr Tm} (h1 : rightTF k = true) (h2 : rightTF u = true) (hk : k.nd.op ≠ 4) (c1 : isC k.nd.op = false) (c2 : isC u.nd.op = false) (n1 : k.nd.name = []) (n2 : u.nd.name = []) : rightTF (.mk pipeTm [k, u]) = true := by
  rw [rightTF_mk, rightKF_cons, rightKF_cons, rightKF_nil, h1, h2]
  simp [pipeTm, letsF, letsN, ofC, c1, c2, n1, n2, hk]
  decide
theorem pipe_right : ∀ (t g : Tr Tm), Flt t → Flt g → Flt (pipeT t g)
  | .mk n [], g, ht, hg => ⟨okT_mk.2 ⟨rfl, by simp [ht.ok, hg.ok]⟩, right_two ht.rt hg.rt (fun e => by obtain ⟨k, u, he, -⟩ := pipe_form ht.ok ht.rt e; injection he with _ he; cases he) ht.nc hg.nc ht.nm hg.nm, rfl, rfl⟩
  | .mk n [x], g, ht, hg => ⟨okT_mk.2 ⟨rfl, by simp [ht.ok, hg.ok]⟩, right_two ht.rt hg.rt (fun e => by obtain ⟨k, u, he, -⟩ := pipe_form ht.ok ht.rt e; injection he with _ he; cases he) ht.nc hg.nc ht.nm hg.nm, rfl, rfl⟩
  | .mk n (k :: u :: ks), g, ht, hg => by
    by_cases h4 : n.op = 4
    · obtain ⟨k', u', he, hk4⟩ := pipe_form ht.ok ht.rt (by simpa using h4)
      injection he with e1 e2
      injection e2 with e2 e3
      injection e3 with e3 e4
      subst e2 e3 e4
      obtain ⟨a1, a2, a3, a4, a5⟩ := flt_kids ht.ok ht.rt u (by simp)
      obtain ⟨b1, b2, b3, b4, b5⟩ := flt_kids ht.ok ht.rt k (by simp)
      have h8 : n.op ≠ 8 := by omega
      have hof : ofC n.op = false := by rw [h4]; rfl
      simp only [Tr.nd_mk] at a3 a4 b3 b4
      have ih := pipe_right u g ⟨a1, a2, a4 h8, by rw [a3, hof]⟩ hg
      rw [pipeT, if_pos h4]
      exact ⟨okT_mk.2 ⟨rfl, by simp [b1, ih.ok]⟩, right_two b2 ih.rt hk4 (by rw [b3, hof]) ih.nc (b4 h8) ih.nm, rfl, rfl⟩
    · rw [pipeT_neg (by simpa using h4)]
      exact ⟨okT_mk.2 ⟨rfl, by simp [ht.ok, hg.ok]⟩, right_two ht.rt hg.rt (by simpa using h4) ht.nc hg.nc ht.nm hg.nm, rfl, rfl⟩
theorem pipe_len (t g : Tr Tm) (ht : Flt t) : (flat (pipeT t g)).length = (flat t).length + (flat g).length + 1 := by
  have := lastP_le t
  rw [flat_pipe t g ht.ok ht.rt ht.nm]
  simp
  omega
theorem right_name {x : Tm} {l : List Tm} (h : x.name ≠ []) : rightF (x :: l) = false := by
  rw [rightF, startF, runF_cons]
  simp [letsF, letsN, h]
end Fw
end Go.Proofs.YtdgcdemihalefaaGreatDoor
namespace Go.Proofs.YtdgcdemihalefaaGreatDoor
namespace Fw
open Go.RowKit Np Rw Vp Pw
inductive Ex where
  | utf
  | pth
  | num (most : Int)
  | flt
def exs (op : Int) : List Ex := if op = 1 then [.utf] else if op = 2 ∨ op = 3 then [.num 1000000] else if op = 12 ∨ op = 13 ∨ op = 15 then [.pth] else if op = 16 then [.pth, .num 5, .flt] else []
def leastM (op : Int) : Int := if op = 4 ∨ op = 17 ∨ op = 18 then 2 else if op = 5 ∨ op = 6 ∨ op = 7 ∨ op = 19 then 1 else 0
def mostM (op : Int) : Int := if op = 4 ∨ op = 17 ∨ op = 18 then 2 else if op = 5 ∨ op = 6 ∨ op = 7 ∨ op = 19 then 1 else if op = 8 ∨ op = 9 then 9223372036854775807 else 0
def knownT (op : Int) : Bool := decide (0 ≤ op ∧ op ≤ 19)
def exOk (t : Tm) : Ex → Bool
  | .utf => vld t.s
  | .pth => isPth t.s
  | .num m => decide (0 ≤ t.n) && decide (t.n ≤ m)
  | .flt => flatN t.c
def exLay (t b : Tm) : Ex → Tm
  | .utf => { b with s := t.s }
  | .pth => { b with s := t.s }
  | .num _ => { b with n := t.n }
  | .flt => { b with c := t.c }
def bareT (t : Tm) : Tm := ⟨t.op, t.many, t.name, [], 0, zeroC⟩
def layEx (t : Tm) (l : List Ex) : Tm := l.foldl (exLay t) (bareT t)
theorem layEx_snoc (t : Tm) (l : List Ex) (e : Ex) : layEx t (l ++ [e]) = exLay t (layEx t l) e := by simp [layEx]
theorem exs_len (op : Int) : (exs op).length ≤ 3 := by
  unfold exs
  split
  · simp
  · split
    · simp
    · split
      · simp
      · split <;> simp
theorem op_cases {op : Int} (h : 0 ≤ op ∧ op ≤ 19) : op = 0 ∨ op = 1 ∨ op = 2 ∨ op = 3 ∨ op = 4 ∨ op = 5 ∨ op = 6 ∨ op = 7 ∨ op = 8 ∨ op = 9 ∨ op = 10 ∨ op = 11 ∨ op = 12 ∨ op = 13 ∨ op = 14 ∨ op = 15 ∨ op = 16 ∨ op = 17 ∨ op = 18 ∨ op = 19 := by omega
theorem plainT_ex (t : Tm) (hm : t.many ≤ 9223372036854775807) : plainT t = (knownT t.op && decide (leastM t.op ≤ t.many) && decide (t.many ≤ mostM t.op) && (exs t.op).all (exOk t) && decide (t = layEx t (exs t.op))) := by
  obtain ⟨op, many, name, s, n, c⟩ := t
  simp only at hm ⊢
  by_cases h : 0 ≤ op ∧ op ≤ 19
  · rcases op_cases h with rfl | rfl | rfl | rfl | rfl | rfl | rfl | rfl | rfl | rfl | rfl | rfl | rfl | rfl | rfl | rfl | rfl | rfl | rfl | rfl
    all_goals
      rw [Bool.eq_iff_iff]
      simp [plainT, knownT, manyOk, sOk, nOk, cOk, leastM, mostM, exs, exOk, layEx, exLay, bareT]
      try (constructor <;> intro h' <;> simp_all <;> omega)
  · have hk : knownT op = false := by unfold knownT; exact decide_eq_false h
    unfold plainT
    rw [hk, decide_eq_false h]
    rfl
end Fw
end Go.Proofs.YtdgcdemihalefaaGreatDoor
namespace Go.Proofs.YtdgcdemihalefaaGreatDoor
open Go.RowKit Np Rw Vp Pw
set_option maxHeartbeats 1000000 in
theorem pletter_any (c : UInt8) (w : World) : Calls Tryz.prog 247 #[.int .u8 c.toNat] w fun e w' => e = .returned (.bool (isL c)) ∧ w' = w := by
  have h0 : c.toNat < 256 := c.toNat_lt
  have HL : Hid (isL c = (decide (97 ≤ c.toNat ∧ c.toNat ≤ 122) || decide (65 ≤ c.toNat ∧ c.toNat ≤ 90) || decide (c.toNat = 95))) := Lib.hid rfl
  generalize isL c = b at *
  generalize c.toNat = n at *
  by_cases h1 : 97 ≤ n
  · by_cases h2 : n ≤ 122
    · have HR : Hid (b = true) := Lib.hid (by rw [HL.out]; simp; omega)
      go_enter Tryz.func247, Tryz.ntmps247
      go_wp2_with fail
      go_ret
      exact ⟨ret_bool HR.out.symm, rfl⟩
    · have HR : Hid (b = false) := Lib.hid (by rw [HL.out]; simp; omega)
      go_enter Tryz.func247, Tryz.ntmps247
      go_wp2_with fail
      all_goals go_ret
      all_goals exact ⟨ret_bool (by rw [HR.out]; simp; omega), rfl⟩
  · by_cases h3 : 65 ≤ n
    · by_cases h4 : n ≤ 90
      · have HR : Hid (b = true) := Lib.hid (by rw [HL.out]; simp; omega)
        go_enter Tryz.func247, Tryz.ntmps247
        go_wp2_with fail
        go_ret
        exact ⟨ret_bool HR.out.symm, rfl⟩
      · have HR : Hid (b = decide (n = 95)) := Lib.hid (by rw [HL.out, Bool.eq_iff_iff]; simp; omega)
        go_enter Tryz.func247, Tryz.ntmps247
        go_wp2_with fail
        all_goals go_ret
        all_goals exact ⟨ret_bool (by rw [HR.out, Bool.eq_iff_iff]; simp; omega), rfl⟩
    · have HR : Hid (b = false) := Lib.hid (by rw [HL.out]; simp; omega)
      go_enter Tryz.func247, Tryz.ntmps247
      go_wp2_with fail
      all_goals go_ret
      all_goals exact ⟨ret_bool (by rw [HR.out]; simp; omega), rfl⟩
set_option maxHeartbeats 1000000 in
theorem pfigure_any (c : UInt8) (w : World) : Calls Tryz.prog 248 #[.int .u8 c.toNat] w fun e w' => e = .returned (.bool (isF c)) ∧ w' = w := by
  have h0 : c.toNat < 256 := c.toNat_lt
  have HL : Hid (isF c = decide (48 ≤ c.toNat ∧ c.toNat ≤ 57)) := Lib.hid rfl
  generalize isF c = b at *
  generalize c.toNat = n at *
  by_cases h1 : 48 ≤ n
  · go_enter Tryz.func248, Tryz.ntmps248
    go_wp2_with fail
    all_goals go_ret
    all_goals exact ⟨ret_bool (by rw [HL.out, Bool.eq_iff_iff]; simp; omega), rfl⟩
  · go_enter Tryz.func248, Tryz.ntmps248
    go_wp2_with fail
    all_goals go_ret
    all_goals exact ⟨ret_bool (by rw [HL.out, Bool.eq_iff_iff]; simp; omega), rfl⟩
set_option maxRecDepth 100000 in
set_option maxHeartbeats 2000000 in
theorem word_any (s : ByteArray) (w : World) (hs : s.size ≤ maxLen) : Calls Tryz.prog 213 #[.string s] w fun e w' => e = .returned (.string ⟨(wrd s.data.toList).toArray⟩) ∧ w' = w := by
  unfold maxLen at hs
  have HX : Hid (∀ k, (h : k < s.size) → okAt s.data.toList k = (isL s[k] || (decide (0 < k) && isF s[k]))) := Lib.hid fun k h => by
    have : s.data.toList[k]? = some s[k] := by
      rw [List.getElem?_eq_getElem (by rw [size_toList]; exact h)]; rfl
    rw [okAt, this]
  have HEND : Hid (∀ k, k ≤ s.size → (∀ j, j < k → okAt s.data.toList j = true) → okAt s.data.toList k = false → s.extract 0 k = ⟨(wrd s.data.toList).toArray⟩) := Lib.hid fun k hk h0 h1 => by
    rw [wrd_of (by rw [size_toList]; exact hk) h0 h1]
    have h := Lib.extract_toList s 0 k
    rw [ByteArray.toList_eq, List.drop_zero, Nat.sub_zero] at h
    rw [← h]
  go_enter Tryz.func213, Tryz.ntmps213
  go_wp2_with fail
  go_loopw [3] (fun av wr => ∃ k : Nat, k ≤ s.size ∧ av = .int .i64 k ∧ Hid (∀ j, j < k → okAt s.data.toList j = true) ∧ wr = w) (fun av _ => s.size - (intOf av).toNat)
  case atStart => exact ⟨0, Nat.zero_le _, rfl, Lib.hid (by intro j hj; omega), rfl⟩
  case round =>
    obtain ⟨k, hk, rfl, HA, rfl⟩ := hrel
    by_cases hlt : k < s.size
    · have HO := Lib.hid (HX.out k hlt)
      go_wp2_with fail
      refine (pletter_any s[k] _).mono ?_
      rintro e w1 ⟨rfl, rfl⟩
      cases hL : isL s[k] with
      | true =>
        have HA2 : Hid (∀ j, j < k + 1 → okAt s.data.toList j = true) := Lib.hid fun j hj => by
          by_cases hjk : j < k
          · exact HA.out j hjk
          · obtain rfl : j = k := by omega
            rw [HO.out, hL]; rfl
        clear hL
        go_wp2_with fail
        go_roundw
        case rel => exact ⟨k + 1, by omega, by go_num, HA2, by first | trivial | rfl⟩
        case measure => simp [intOf]; omega
      | false =>
        by_cases h0 : 0 < k
        · have h0' : (k : Int) > 0 := by omega
          go_wp2_with fail
          refine (pfigure_any s[k] _).mono ?_
          rintro e w1 ⟨rfl, rfl⟩
          cases hF : isF s[k] with
          | true =>
            have HA2 : Hid (∀ j, j < k + 1 → okAt s.data.toList j = true) := Lib.hid fun j hj => by
              by_cases hjk : j < k
              · exact HA.out j hjk
              · obtain rfl : j = k := by omega
                rw [HO.out, hL, hF]; simp [h0]
            clear hL hF
            go_wp2_with fail
            go_roundw
            case rel => exact ⟨k + 1, by omega, by go_num, HA2, by first | trivial | rfl⟩
            case measure => simp [intOf]; omega
          | false =>
            have HE := Lib.hid (HEND.out k hk HA.out (by rw [HO.out, hL, hF]; simp))
            clear hL hF
            go_wp2_with fail
            go_ret
            exact ⟨ret_str HE.out, rfl⟩
        · have HE := Lib.hid (HEND.out k hk HA.out (by rw [HO.out, hL]; simp [h0]))
          clear hL
          go_wp2_with fail
          go_ret
          exact ⟨ret_str HE.out, rfl⟩
    · obtain rfl : k = s.size := by omega
      have HE := Lib.hid (HEND.out s.size hk HA.out (by
        rw [okAt, List.getElem?_eq_none (by rw [size_toList]; omega)]))
      go_wp2_with fail
      go_ret
      exact ⟨ret_str (by have := HE.out; simpa using this), rfl⟩
end Go.Proofs.YtdgcdemihalefaaGreatDoor
namespace Go.Proofs.YtdgcdemihalefaaGreatDoor
open Go.RowKit Go.Maps Np Up Qp
theorem pre34 (l : List UInt8) : Lib.hasPrefix l [34] = decide (bt l 0 = 34) := by
  cases l with
  | nil => rfl
  | cons c r =>
    rw [bt_cons, Bool.eq_iff_iff, decide_eq_true_eq]
    unfold Lib.hasPrefix
    simp [List.isPrefixOf, ← UInt8.toNat_inj]
    omega
theorem b34 : (ByteArray.mk #[34]).data.toList = [34] := rfl
def Ui (R : List UInt8 × Nat × Int) (l out : List UInt8) (frm pos : Nat) : Prop :=
  (pos < frm → frm ≤ l.length ∧ unq out (l.drop frm) frm = R ∧ ∀ j, pos ≤ j → j < frm → bt l j < 128) ∧ (frm ≤ pos → unq (out ++ (l.drop frm).take (pos - frm)) (l.drop pos) pos = R)
section
variable {R : List UInt8 × Nat × Int} {l out : List UInt8} {frm pos : Nat}
theorem Ui.skip (h : Ui R l out frm pos) (hp : pos < frm) : Ui R l out frm (pos + 1) := by
  obtain ⟨h1, h2, h3⟩ := h.1 hp
  refine ⟨fun hq => ⟨h1, h2, fun j hj hj2 => h3 j (by omega) hj2⟩, fun hq => ?_⟩
  obtain rfl : frm = pos + 1 := by omega
  rw [Nat.sub_self, List.take_zero, List.append_nil]
  exact h2
theorem Ui.mark (h : Ui R l out frm pos) (hp : frm ≤ pos) (hb : bt (l.drop pos) 0 = 34) : R = (out ++ (l.drop frm).take (pos - frm), pos + 1, 0) := by
  rw [← h.2 hp, unq_mark _ _ hb]
theorem Ui.bad (h : Ui R l out frm pos) (hp : frm ≤ pos) (hb : bt (l.drop pos) 0 ≠ 34) (ht : tk (l.drop pos) = none) : R = ([], pos, 1) := by
  rw [← h.2 hp, unq_bad _ _ hb ht]
theorem Ui.plain (h : Ui R l out frm pos) (hp : frm ≤ pos) (hl : l.drop pos ≠ []) (hb : bt (l.drop pos) 0 ≠ 34) (hb2 : bt (l.drop pos) 0 ≠ 92) (hb3 : 32 ≤ bt (l.drop pos) 0) {n : Nat} (hn : runeN (l.drop pos) = n) (hn0 : n ≠ 0) : Ui R l out frm (pos + n) := by
  refine ⟨fun hq => by omega, fun _ => ?_⟩
  have ht : tk (l.drop pos) = some ((l.drop pos).take n, n) := by
    rw [tk, if_neg hb2, hn, if_neg (by omega)]
  have h1 := h.2 hp
  rw [unq_step _ _ hl hb ht, List.drop_drop, List.append_assoc] at h1
  rw [show pos + n - frm = (pos - frm) + n by omega, List.take_add, List.drop_drop, show frm + (pos - frm) = pos by omega]
  exact h1
theorem Ui.esc (h : Ui R l out frm pos) (hp : frm ≤ pos) (hl : l.drop pos ≠ []) (hb : bt (l.drop pos) 0 = 92) {r n : Nat} (he : es (l.drop pos) = some (r, n)) : Ui R l (out ++ (l.drop frm).take (pos - frm) ++ Lib.encodeRune (r : Int)) (pos + n) (pos + 1) := by
  obtain ⟨h1, h2, h3, h4⟩ := es_some he
  rw [List.length_drop] at h1
  have ht : tk (l.drop pos) = some (Lib.encodeRune (r : Int), n) := by
    rw [tk, if_pos hb, he]; rfl
  have h5 := h.2 hp
  rw [unq_step _ _ hl (by rw [hb]; decide) ht, List.drop_drop] at h5
  refine ⟨fun _ => ⟨by omega, h5, fun j hj hj2 => ?_⟩, fun hq => by omega⟩
  have := h4 (j - pos) (by omega) (by omega)
  rw [bt_drop, show pos + (j - pos) = j by omega] at this
  exact this
theorem Ui.noesc (h : Ui R l out frm pos) (hp : frm ≤ pos) (hb : bt (l.drop pos) 0 = 92) (he : es (l.drop pos) = none) : R = ([], pos, 1) :=
  h.bad hp (by rw [hb]; decide) (by rw [tk, if_pos hb, he]; rfl)
theorem Ui.over (h : Ui R l out frm pos) (hp : l.length ≤ pos) : R = ([], pos, 1) := by
  have hq : frm ≤ pos := by
    rcases Nat.lt_or_ge pos frm with h1 | h1
    · have := (h.1 h1).1; omega
    · exact h1
  rw [← h.2 hq, List.drop_of_length_le hp, unq_nil]
end
theorem MapAt_others {e : TypeId} {b mb n : Nat} {f : Int → Option Int} {w w' : World} (h : MapAt w mb n f) (k : Lib.OthersKept e (some b) w w') (hne : mb ≠ b) : MapAt w' mb n f := by
  obtain ⟨D, ⟨es, clock, h1, h2⟩, h3⟩ := h
  exact ⟨D, ⟨es, clock, k mb _ h1 (fun e => hne (Option.some.inj e)) (fun _ _ e => by cases e), h2⟩, h3⟩
theorem MapAt_iter {K mb n : Nat} {f : Int → Option Int} {s : ByteArray} {pos : Nat} {w : World} (h : MapAt w mb n f) (hit : w.heap[K]? = some (.stringIter s pos)) (p : Nat) : MapAt (w.iterAt K s p) mb n f := by
  obtain ⟨D, ⟨es, clock, h1, h2⟩, h3⟩ := h
  have hne : mb ≠ K := by
    rintro rfl
    rw [hit] at h1
    cases h1
  exact ⟨D, ⟨es, clock, (Lib.iterAt_other w K mb s p hne).trans h1, h2⟩, h3⟩
theorem MapAt_ne {B b mb n : Nat} {f : Int → Option Int} {l : List UInt8} {w : World} (h : MapAt w mb n f) (hI : IsB B b l w) : mb ≠ b := by
  obtain ⟨D, ⟨es, clock, h1, h2⟩, h3⟩ := h
  rintro rfl
  rcases hI with ⟨_, v, hbk, _⟩ | ⟨_, v, hbk, _⟩ <;> (rw [h1] at hbk; cases hbk)
def Sv (w : World) (v : Value) : Prop := v = .map none ∨ ∃ mb, v = .map (some mb) ∧ MapAt w mb 8 blF
theorem Sv.iter {K : Nat} {s : ByteArray} {pos : Nat} {w : World} {v : Value} (h : Sv w v) (hit : w.heap[K]? = some (.stringIter s pos)) (p : Nat) : Sv (w.iterAt K s p) v :=
  h.imp id fun ⟨mb, h1, h2⟩ => ⟨mb, h1, MapAt_iter h2 hit p⟩
theorem Er.low {B : Nat} {w w' : World} (h : Er w) (hb : Below B w w') (hB : w.heap.size ≤ B) : Er w' := h.below (hb.mono hB)
theorem enc_len (r : Int) : (Lib.encodeRune r).length ≤ 4 := by
  rw [Lib.encodeRune, List.length_map]
  exact (Lib.encodeRuneZ_length r).2
set_option maxRecDepth 100000 in
set_option maxHeartbeats 8000000 in
theorem unquote_any (s : ByteArray) (w : World) (hs : s.size ≤ 1073741824) (hE : Er w) :
    Calls Tryz.prog 244 #[.string s] w fun e w' => e = .returned (uqv (unqs s.data.toList)) ∧ Below w.heap.size w w' := by
  have hB : Below w.heap.size w w := Below.refl _ _
  by_cases h34 : bt s.data.toList 0 = 34
  · have HP : Hid (Lib.hasPrefix s.data.toList [34] = true) := Lib.hid (by rw [pre34, decide_eq_true h34])
    have HF : Hid (unqs s.data.toList = unq [] (s.data.toList.drop 1) 1) := Lib.hid (by rw [unqs, if_pos h34])
    generalize unqs s.data.toList = R at HF ⊢
    go_enter Tryz.func244, Tryz.ntmps244
    go_wp2_with (go_at_call 209; refine (Tryz.strings_HasPrefix _ _ _).mono ?_; rintro e w1 ⟨rfl, rfl⟩; rw [b34, HP.out])
    have hl1 : 1 ≤ s.size := by
      have := ne_of_bt (l := s.data.toList) (k := 0) (by omega)
      rw [size_toList] at this
      omega
    have HU : Hid (Ui R s.data.toList [] 1 0) := Lib.hid ⟨fun _ => ⟨by rw [size_toList]; exact hl1, HF.out.symm, fun j _ hj => by rw [show j = 0 by omega, h34]; decide⟩, fun h => by omega⟩
    clear HF h34 HP
    generalize hbk : w1.heap.size = b at *
    have hfresh : IsB b b [] (w1.alloc (.cells #[.pointer none, .slice none 0 0] 65)) := by
      have := Lib.IsBuilderF.of (Lib.fresh_isBuilder 65 5 w1)
      rw [hbk] at this
      exact this
    have hba : Below b w1 (w1.alloc (.cells #[.pointer none, .slice none 0 0] 65)) := (Below.refl _ _).alloc (by omega) _
    go_loopw [6, 7] (fun sv u wr => ∃ (frm pos : Nat) (out : List UInt8), u = .int .i64 frm ∧ IsB b b out wr ∧ wr.heap[b + 1]? = some (.stringIter s pos) ∧ Below b w1 wr ∧ pos ≤ s.size ∧ frm ≤ s.size ∧ out.length ≤ 4 * frm ∧ Sv wr sv ∧ Hid (Ui R s.data.toList out frm pos)) (fun _ _ wr => s.size - wr.iterPos (b + 1))
    case atStart =>
      refine ⟨1, 0, [], rfl, hfresh.alloc _, ?_, hba.alloc (by simp; omega) _, by omega, by omega, by simp, .inl rfl, HU⟩
      have := World.iter_heap (w1.alloc (.cells #[.pointer none, .slice none 0 0] 65)) s 0
      simp only [World.size_alloc, hbk] at this
      exact this
    case round =>
      obtain ⟨frm, pos, out, rfl, hI, hit, hbw, hpl, hfl, hol, hSv, HQ⟩ := hrel
      have hIlt := IsB_lt hI
      have hszb : b ≤ wr.heap.size := by omega
      by_cases hp : pos < s.size
      · have hnx : ∀ ty, (Instr.next (.pointer (some ⟨b + 1, 0, none⟩)) true ty).run Tryz.prog wr = _ := fun ty => Lib.run_next_any_at wr (b + 1) s pos ty hit hp
        have hne := drop_ne s pos hp
        have hbp : bt (s.data.toList.drop pos) 0 = s[pos].toNat := by
          have := bt_at' s pos 0 (by omega); simpa using this
        by_cases hlo : s[pos].toNat < 128
        · have hdl := dec_low (l := s.data.toList.drop pos) (by omega)
          rw [hbp] at hdl
          rw [dec_at, hdl] at hnx
          simp only at hnx
          have hI2 := hI.iterAt hit (pos + 1)
          have hit2 := Lib.iterAt_heap wr (b + 1) s pos (pos + 1) hit
          have hbw2 := Lib.below_iterAt hbw (k := b + 1) (by omega) s (pos + 1)
          have hSv2 := hSv.iter hit (pos + 1)
          have hsz2 : b ≤ (wr.iterAt (b + 1) s (pos + 1)).heap.size := by rw [Lib.iterAt_size]; omega
          by_cases hsk : pos < frm
          · have HN : Hid (Ui R s.data.toList out frm (pos + 1)) := Lib.hid (HQ.out.skip hsk)
            clear HQ hne hbp hdl
            go_wp2_with fail
            go_roundw
            case rel => exact ⟨frm, pos + 1, out, rfl, hI2, hit2, hbw2, by omega, hfl, hol, hSv2, HN⟩
            case measure =>
              simp only [World.iterPos, hit2, hit]
              omega
          have hfp : frm ≤ pos := by omega
          have hnsk : ¬ (pos : Int) < (frm : Int) := by omega
          by_cases h34 : s[pos].toNat = 34
          · have HN : Hid (R = (out ++ (s.data.toList.drop frm).take (pos - frm), pos + 1, 0)) := Lib.hid (HQ.out.mark hfp (by rw [hbp, h34]))
            have hq : ((s[pos].toNat : Int) == 34) = true := by rw [beq_iff_eq]; omega
            clear HQ hne hbp hdl h34
            go_wp2_with fail
            refine (Tryz.writeString b b _ _ _ hI2 (by rw [Lib.byteCells_length, ByteArray.size_extract]; omega) hsz2).mono ?_
            rintro e w4 ⟨rfl, h4, b4, -⟩
            rw [ext_cells, ← Lib.byteCells_append] at h4
            have hsz4 := Nat.le_trans hsz2 b4.size
            go_wp2_with fail
            refine (Tryz.Builder_String_any_k b b _ _ (.inr h4) hsz4).mono ?_
            rintro e w6 ⟨rfl, _, b6, _⟩
            go_wp2_with fail
            go_ret3
            exact ⟨by rw [HN.out]; rfl, by first | exact (hbw2.trans b4).trans b6 | (rw [hbk]; exact (hbw2.trans b4).trans b6)⟩
          have hq34 : ((s[pos].toNat : Int) == 34) = false := by rw [beq_eq_false_iff_ne]; omega
          by_cases h92 : s[pos].toNat = 92
          · have hq92 : ((s[pos].toNat : Int) == 92) = true := by rw [beq_iff_eq]; omega
            have hq30 : ∀ (w : World) (r : Option Nat), (binOp .eql 245 (.map r) (.map none)).run Tryz.prog w = .ok (.bool r.isNone) w := fun w r => run_eql_map_nil w _ _ _ r Tryz.underlying245
            have hes : (s.extract pos s.size).size ≤ 1073741824 := by rw [ByteArray.size_extract]; omega
            have hee := ext_end s pos
            cases he : es (s.data.toList.drop pos) with
            | none =>
              have HN : Hid (R = ([], pos, 1)) := Lib.hid (HQ.out.noesc hfp (by rw [hbp, h92]) he)
              have HES : Hid (es (s.extract pos s.size).data.toList = none) := Lib.hid (by rw [hee, he])
              clear HQ hne hbp hdl h92 hee he h34
              rcases hSv2 with rfl | ⟨mb, rfl, hM2⟩
              · clear hSv
                go_wp2_with fail
                refine (byLetter_any _).mono ?_
                rintro e w4 ⟨rfl, hM4, b4⟩
                have hI4 := IsB_kept hI2 b4
                have hit4 := iter_kept hit2 b4
                have hbw4 := hbw2.trans (b4.mono hsz2)
                have hsz4 := Nat.le_trans hsz2 b4.size
                have hE4 := hE.low hbw4 (Nat.le_of_eq hbk)
                go_wp2_with fail
                refine (escape_any _ 8 _ _ hes hE4 hM4).mono ?_
                rintro e w5 ⟨rfl, b5⟩
                rw [HES.out, escV]
                have hI5 := IsB_kept hI4 b5
                have hit5 := iter_kept hit4 b5
                have hbw5 := hbw4.trans (b5.mono hsz4)
                have hsz5 := Nat.le_trans hsz4 b5.size
                have hM5 := hM4.below b5 hM4.lt
                have hne5 := MapAt_ne hM5 hI5
                go_wp2_with fail
                all_goals go_ret3
                all_goals exact ⟨by rw [HN.out]; rfl, by first | exact hbw5 | (rw [hbk]; exact hbw5)⟩
              · clear hSv
                have hI4 := hI2; have hit4 := hit2; have hbw4 := hbw2; have hsz4 := hsz2; have hM4 := hM2
                have hE4 := hE.low hbw4 (Nat.le_of_eq hbk)
                clear hI2 hit2 hbw2 hM2 hsz2
                go_wp2_with fail
                refine (escape_any _ 8 _ _ hes hE4 hM4).mono ?_
                rintro e w5 ⟨rfl, b5⟩
                rw [HES.out, escV]
                have hI5 := IsB_kept hI4 b5
                have hit5 := iter_kept hit4 b5
                have hbw5 := hbw4.trans (b5.mono hsz4)
                have hsz5 := Nat.le_trans hsz4 b5.size
                have hM5 := hM4.below b5 hM4.lt
                have hne5 := MapAt_ne hM5 hI5
                go_wp2_with fail
                all_goals go_ret3
                all_goals exact ⟨by rw [HN.out]; rfl, by first | exact hbw5 | (rw [hbk]; exact hbw5)⟩
            | some x =>
              obtain ⟨r, n⟩ := x
              obtain ⟨e1, e2, e3, -⟩ := es_some he
              rw [List.length_drop, size_toList] at e1
              have HN : Hid (Ui R s.data.toList (out ++ (s.data.toList.drop frm).take (pos - frm) ++ Lib.encodeRune (r : Int)) (pos + n) (pos + 1)) := Lib.hid (HQ.out.esc hfp hne (by rw [hbp, h92]) he)
              have hrn : r ≤ 1114111 := by unfold ru at e2; omega
              have hn2 : 2 ≤ n := by omega
              have hlen : (out ++ (s.data.toList.drop frm).take (pos - frm) ++ Lib.encodeRune (r : Int)).length ≤ 4 * (pos + n) := by
                have := enc_len (r : Int)
                rw [List.length_append, List.length_append, List.length_take]
                omega
              have HES : Hid (es (s.extract pos s.size).data.toList = some (r, n)) := Lib.hid (by rw [hee, he])
              have hn0 : ((n : Int) == 0) = false := by rw [beq_eq_false_iff_ne]; omega
              clear HQ hne hbp hdl h92 hee he h34 e2 e3
              rcases hSv2 with rfl | ⟨mb, rfl, hM2⟩
              · clear hSv
                go_wp2_with fail
                refine (byLetter_any _).mono ?_
                rintro e w4 ⟨rfl, hM4, b4⟩
                have hI4 := IsB_kept hI2 b4
                have hit4 := iter_kept hit2 b4
                have hbw4 := hbw2.trans (b4.mono hsz2)
                have hsz4 := Nat.le_trans hsz2 b4.size
                have hE4 := hE.low hbw4 (Nat.le_of_eq hbk)
                go_wp2_with fail
                refine (escape_any _ 8 _ _ hes hE4 hM4).mono ?_
                rintro e w5 ⟨rfl, b5⟩
                rw [HES.out, escV]
                have hI5 := IsB_kept hI4 b5
                have hit5 := iter_kept hit4 b5
                have hbw5 := hbw4.trans (b5.mono hsz4)
                have hsz5 := Nat.le_trans hsz4 b5.size
                have hM5 := hM4.below b5 hM4.lt
                have hne5 := MapAt_ne hM5 hI5
                go_wp2_with fail
                refine (Tryz.writeString b b _ _ _ hI5 (by rw [Lib.byteCells_length, ByteArray.size_extract]; omega) hsz5).mono ?_
                rintro e w6 ⟨rfl, h6, b6, k6⟩
                rw [ext_cells, ← Lib.byteCells_append] at h6
                have hsz6 := Nat.le_trans hsz5 b6.size
                have hit6 := k6.iter hit5 (by omega)
                have hM6 := MapAt_others hM5 k6 hne5
                clear k6
                go_wp2_with fail
                refine (Tryz.writeRune b b _ _ (by omega) (by omega) _ (.inr h6) (by rw [Lib.byteCells_length, List.length_append, List.length_take]; omega) hsz6).mono ?_
                rintro e w7 ⟨rfl, h7, b7, k7⟩
                rw [← Lib.byteCells_encodeRune, ← Lib.byteCells_append] at h7
                have hit7 := k7.iter hit6 (by omega)
                have hM7 := MapAt_others hM6 k7 hne5
                clear k7
                go_wp2_with fail
                go_roundw
                case rel => exact ⟨pos + n, pos + 1, _, by go_num, .inr h7, hit7, (hbw5.trans b6).trans b7, by omega, by omega, hlen, .inr ⟨_, rfl, hM7⟩, HN⟩
                case measure =>
                  simp only [World.iterPos, hit7, hit]
                  omega
              · clear hSv
                have hI4 := hI2; have hit4 := hit2; have hbw4 := hbw2; have hsz4 := hsz2; have hM4 := hM2
                have hE4 := hE.low hbw4 (Nat.le_of_eq hbk)
                clear hI2 hit2 hbw2 hM2 hsz2
                go_wp2_with fail
                refine (escape_any _ 8 _ _ hes hE4 hM4).mono ?_
                rintro e w5 ⟨rfl, b5⟩
                rw [HES.out, escV]
                have hI5 := IsB_kept hI4 b5
                have hit5 := iter_kept hit4 b5
                have hbw5 := hbw4.trans (b5.mono hsz4)
                have hsz5 := Nat.le_trans hsz4 b5.size
                have hM5 := hM4.below b5 hM4.lt
                have hne5 := MapAt_ne hM5 hI5
                go_wp2_with fail
                refine (Tryz.writeString b b _ _ _ hI5 (by rw [Lib.byteCells_length, ByteArray.size_extract]; omega) hsz5).mono ?_
                rintro e w6 ⟨rfl, h6, b6, k6⟩
                rw [ext_cells, ← Lib.byteCells_append] at h6
                have hsz6 := Nat.le_trans hsz5 b6.size
                have hit6 := k6.iter hit5 (by omega)
                have hM6 := MapAt_others hM5 k6 hne5
                clear k6
                go_wp2_with fail
                refine (Tryz.writeRune b b _ _ (by omega) (by omega) _ (.inr h6) (by rw [Lib.byteCells_length, List.length_append, List.length_take]; omega) hsz6).mono ?_
                rintro e w7 ⟨rfl, h7, b7, k7⟩
                rw [← Lib.byteCells_encodeRune, ← Lib.byteCells_append] at h7
                have hit7 := k7.iter hit6 (by omega)
                have hM7 := MapAt_others hM6 k7 hne5
                clear k7
                go_wp2_with fail
                go_roundw
                case rel => exact ⟨pos + n, pos + 1, _, by go_num, .inr h7, hit7, (hbw5.trans b6).trans b7, by omega, by omega, hlen, .inr ⟨_, rfl, hM7⟩, HN⟩
                case measure =>
                  simp only [World.iterPos, hit7, hit]
                  omega
          have hq92 : ((s[pos].toNat : Int) == 92) = false := by rw [beq_eq_false_iff_ne]; omega
          by_cases h32 : s[pos].toNat < 32
          · have HN : Hid (R = ([], pos, 1)) := Lib.hid (HQ.out.bad hfp (by rw [hbp]; exact h34) (by rw [tk, if_neg (by rw [hbp]; exact h92), if_pos (.inl (by rw [hbp]; exact h32))]))
            clear HQ hne hbp hdl
            go_wp2_with fail
            all_goals go_ret3
            all_goals exact ⟨by rw [HN.out]; rfl, by first | exact hbw2 | (rw [hbk]; exact hbw2)⟩
          · have hrn := runeN_one (l := s.data.toList.drop pos) (by omega)
            have HN : Hid (Ui R s.data.toList out frm (pos + 1)) := Lib.hid (HQ.out.plain hfp hne (by rw [hbp]; exact h34) (by rw [hbp]; exact h92) (by omega) hrn (by decide))
            have HS : Hid (∀ w, Calls Tryz.prog 282 #[.int .i32 (s[pos].toNat : Nat), .string (s.extract pos s.size)] w fun e w' => e = .returned (.bool false) ∧ w = w') := Lib.hid (by
              intro w
              have h := stray_any s[pos].toNat (s.extract pos s.size) w (by rw [ext_end]; exact hne) (by rw [ext_end, hdl])
              rw [ext_end, hrn] at h
              exact h)
            clear HQ hne hbp hdl hrn
            go_wp2_with (go_at_call 282; refine (HS.out _).mono ?_; rintro e w4 ⟨rfl, rfl⟩)
            go_roundw
            case rel => exact ⟨frm, pos + 1, out, rfl, hI2, hit2, hbw2, by omega, hfl, hol, hSv2, HN⟩
            case measure =>
              simp only [World.iterPos, hit2, hit]
              omega
        · have hfp : frm ≤ pos := by
            rcases Nat.lt_or_ge pos frm with h1 | h1
            · have := (HQ.out.1 h1).2.2 pos (Nat.le_refl _) h1
              rw [← Nat.add_zero pos, ← bt_drop, hbp] at this
              omega
            · exact h1
          have hnsk : ¬ (pos : Int) < (frm : Int) := by omega
          have hdh := (dec_high hne (by rw [hbp]; omega)).1
          have hwd := dec_width _ hne
          rw [List.length_drop, size_toList] at hwd
          have hdg := dec_good (l := s.data.toList.drop pos)
          have hstr : ∀ w, Calls Tryz.prog 282 #[.int .i32 ((Utf8.decode s pos).1 : Nat), .string (s.extract pos s.size)] w fun e w' => e = .returned (.bool (decide (runeN (s.data.toList.drop pos) = 0))) ∧ w = w' := by
            intro w
            have h := stray_any (Utf8.decode s pos).1 (s.extract pos s.size) w (by rw [ext_end]; exact hne) (by rw [ext_end, dec_at])
            rw [ext_end] at h
            exact h
          rw [dec_at] at hnx hstr
          have hrl := Lib.decodeL_rune (s.data.toList.drop pos)
          generalize hD : Lib.decodeL (s.data.toList.drop pos) = Dc at hnx hdh hwd hstr hdg hrl
          obtain ⟨r, n⟩ := Dc
          simp only at hnx hdh hwd hstr hdg hrl
          have HS := Lib.hid hstr
          have hI2 := hI.iterAt hit (pos + n)
          have hit2 := Lib.iterAt_heap wr (b + 1) s pos (pos + n) hit
          have hbw2 := Lib.below_iterAt hbw (k := b + 1) (by omega) s (pos + n)
          have hSv2 := hSv.iter hit (pos + n)
          obtain ⟨hn1, hn2⟩ := hwd
          have hq34 : ((r : Int) == 34) = false := by rw [beq_eq_false_iff_ne]; omega
          have hq92 : ((r : Int) == 92) = false := by rw [beq_eq_false_iff_ne]; omega
          have hq32 : ¬ (r : Int) < 32 := by omega
          by_cases h0 : runeN (s.data.toList.drop pos) = 0
          · have HN : Hid (R = ([], pos, 1)) := Lib.hid (HQ.out.bad hfp (by rw [hbp]; omega) (by rw [tk, if_neg (by rw [hbp]; omega), if_pos (.inr h0)]))
            have HD : Hid (decide (runeN (s.data.toList.drop pos) = 0) = true) := Lib.hid (decide_eq_true h0)
            clear HQ hne hbp hdh hstr hdg hD h0 hlo hrl
            go_wp2_with (go_at_call 282; refine (HS.out _).mono ?_; rintro e w4 ⟨rfl, rfl⟩; rw [HD.out])
            all_goals go_ret3
            all_goals exact ⟨by rw [HN.out]; rfl, by first | exact hbw2 | (rw [hbk]; exact hbw2)⟩
          · have HN : Hid (Ui R s.data.toList out frm (pos + n)) := Lib.hid (HQ.out.plain hfp hne (by rw [hbp]; omega) (by rw [hbp]; omega) (by rw [hbp]; omega) (hdg h0).symm (by omega))
            have HD : Hid (decide (runeN (s.data.toList.drop pos) = 0) = false) := Lib.hid (decide_eq_false h0)
            clear HQ hne hbp hdh hstr hdg hD h0 hlo hrl
            go_wp2_with (go_at_call 282; refine (HS.out _).mono ?_; rintro e w4 ⟨rfl, rfl⟩; rw [HD.out])
            go_roundw
            case rel => exact ⟨frm, pos + n, out, rfl, hI2, hit2, hbw2, by omega, hfl, hol, hSv2, HN⟩
            case measure =>
              simp only [World.iterPos, hit2, hit]
              omega
      · have hnx : ∀ ty, (Instr.next (.pointer (some ⟨b + 1, 0, none⟩)) true ty).run Tryz.prog wr = _ := fun ty => Lib.run_next_end_at wr (b + 1) s pos ty hit hp
        have HN : Hid (R = ([], s.size, 1)) := Lib.hid (by
          rw [HQ.out.over (by rw [size_toList]; omega), show pos = s.size by omega])
        clear HQ
        go_wp2_with fail
        all_goals go_ret3
        all_goals exact ⟨by rw [HN.out]; rfl, by first | exact hbw | (rw [hbk]; exact hbw)⟩
  · have HP : Hid (Lib.hasPrefix s.data.toList [34] = false) := Lib.hid (by rw [pre34, decide_eq_false h34])
    have HF : Hid (unqs s.data.toList = ([], 0, 1)) := Lib.hid (by rw [unqs, if_neg h34])
    clear h34
    go_enter Tryz.func244, Tryz.ntmps244
    go_wp2_with (go_at_call 209; refine (Tryz.strings_HasPrefix _ _ _).mono ?_; rintro e w1 ⟨rfl, rfl⟩; rw [b34, HP.out])
    all_goals go_ret3
    all_goals exact ⟨by rw [HF.out]; rfl, hB⟩
end Go.Proofs.YtdgcdemihalefaaGreatDoor
namespace Go.Proofs.YtdgcdemihalefaaGreatDoor
open Go.RowKit Np Rw Vp Up Qp Pw
theorem isW_all {l : List UInt8} (h0 : l ≠ []) (h : ∀ j, j < l.length → okAt l j = true) : isW l = true := by
  have h1 : okAt l l.length = false := by rw [okAt, List.getElem?_eq_none (Nat.le_refl _)]
  have h2 := wrd_of (Nat.le_refl _) h h1
  unfold isW
  rw [h2, List.take_length]
  simp [h0]
theorem isW_bad {l : List UInt8} {k : Nat} (hk : k < l.length) (h : ∀ j, j < k → okAt l j = true) (h1 : okAt l k = false) : isW l = false := by
  have h2 := wrd_of (Nat.le_of_lt hk) h h1
  unfold isW
  rw [h2]
  have : l.take k ≠ l := by
    intro e
    have := congrArg List.length e
    rw [List.length_take] at this
    omega
  simp [this]
set_option maxRecDepth 100000 in
set_option maxHeartbeats 4000000 in
theorem refWordP_any (s : ByteArray) (w : World) (hs : s.size ≤ maxLen) : Calls Tryz.prog 66 #[.string s] w fun e w' => e = .returned (.bool (isW s.data.toList)) ∧ w' = w := by
  unfold maxLen at hs
  have HX : Hid (∀ k, (h : k < s.size) → okAt s.data.toList k = (isL s[k] || (decide (0 < k) && isF s[k]))) := Lib.hid fun k h => by
    have : s.data.toList[k]? = some s[k] := by
      rw [List.getElem?_eq_getElem (by rw [size_toList]; exact h)]; rfl
    rw [okAt, this]
  have HBAD : Hid (∀ k, k < s.size → (∀ j, j < k → okAt s.data.toList j = true) → okAt s.data.toList k = false → isW s.data.toList = false) := Lib.hid fun k hk h0 h1 => isW_bad (by rw [size_toList]; exact hk) h0 h1
  have HALL : Hid (0 < s.size → (∀ j, j < s.size → okAt s.data.toList j = true) → isW s.data.toList = true) := Lib.hid fun h0 h1 => isW_all (by intro e; have := congrArg List.length e; rw [size_toList, List.length_nil] at this; omega) (by rw [size_toList]; exact h1)
  have HEMP : Hid (s.size = 0 → isW s.data.toList = false) := Lib.hid fun h0 => by
    have : s.data.toList = [] := List.eq_nil_of_length_eq_zero (by rw [size_toList]; exact h0)
    rw [this]; rfl
  generalize isW s.data.toList = R at *
  go_enter Tryz.func66, Tryz.ntmps66
  go_wp2_with fail
  go_loopw [3] (fun av wr => ∃ k : Nat, k ≤ s.size ∧ av = .int .i64 k ∧ Hid (∀ j, j < k → okAt s.data.toList j = true) ∧ wr = w) (fun av _ => s.size - (intOf av).toNat)
  case atStart => exact ⟨0, Nat.zero_le _, rfl, Lib.hid (by intro j hj; omega), rfl⟩
  case round =>
    obtain ⟨k, hk, rfl, HA, rfl⟩ := hrel
    by_cases hlt : k < s.size
    · have HO := Lib.hid (HX.out k hlt)
      have hc := s[k].toNat_lt
      have HLd : Hid (isL s[k] = (decide (97 ≤ s[k].toNat ∧ s[k].toNat ≤ 122) || decide (65 ≤ s[k].toNat ∧ s[k].toNat ≤ 90) || decide (s[k].toNat = 95))) := Lib.hid rfl
      have HFd : Hid (isF s[k] = decide (48 ≤ s[k].toNat ∧ s[k].toNat ≤ 57)) := Lib.hid rfl
      have HGOOD : Hid (okAt s.data.toList k = true → ∀ j, j < k + 1 → okAt s.data.toList j = true) := Lib.hid fun h j hj => by
        by_cases hjk : j < k
        · exact HA.out j hjk
        · obtain rfl : j = k := by omega
          exact h
      have HB2 := Lib.hid (fun h => HBAD.out k hlt HA.out h)
      have HNUM : Hid ((97 ≤ s[k].toNat ∧ s[k].toNat ≤ 122 ∨ 65 ≤ s[k].toNat ∧ s[k].toNat ≤ 90 ∨ s[k].toNat = 95 ∨ 0 < k ∧ 48 ≤ s[k].toNat ∧ s[k].toNat ≤ 57) ↔ okAt s.data.toList k = true) := Lib.hid (by
        rw [HO.out, HLd.out, HFd.out]
        simp only [Bool.or_eq_true, Bool.and_eq_true, decide_eq_true_eq]
        omega)
      clear HO HLd HFd HX
      by_cases hnum : 97 ≤ s[k].toNat ∧ s[k].toNat ≤ 122 ∨ 65 ≤ s[k].toNat ∧ s[k].toNat ≤ 90 ∨ s[k].toNat = 95 ∨ 0 < k ∧ 48 ≤ s[k].toNat ∧ s[k].toNat ≤ 57
      · have HK := Lib.hid (HGOOD.out (HNUM.out.1 hnum))
        clear HNUM HGOOD HB2 HBAD HALL HEMP HA
        by_cases h0 : k = 0
        · subst h0
          go_wp2_with fail
          all_goals first
            | (refine ⟨⟨1, by omega, rfl, HK, by first | trivial | rfl⟩, ?_⟩; simp [intOf]; omega)
            | (exfalso; clear HK; simp at *; omega)
        · have hk0 : ((k : Int) == 0) = false := by simpa using h0
          go_wp2_with fail
          all_goals first
            | (refine ⟨⟨k + 1, by omega, by go_num, HK, by first | trivial | rfl⟩, ?_⟩; simp [intOf]; omega)
            | (exfalso; clear HK; simp at *; omega)
      · have HN := Lib.hid (HB2.out (by
          cases h : okAt s.data.toList k with
          | false => rfl
          | true => exact absurd (HNUM.out.2 h) hnum))
        clear HNUM HGOOD HB2 HBAD HALL HEMP HA
        by_cases h0 : k = 0
        · subst h0
          go_wp2_with fail
          all_goals first
            | (go_ret; exact ⟨ret_bool HN.out.symm, rfl⟩)
            | (exfalso; clear HN; simp at *; omega)
        · have hk0 : ((k : Int) == 0) = false := by simpa using h0
          go_wp2_with fail
          all_goals first
            | (go_ret; exact ⟨ret_bool HN.out.symm, rfl⟩)
            | (exfalso; clear HN; simp at *; omega)
    · obtain rfl : k = s.size := by omega
      by_cases h0 : s.size = 0
      · have HE := Lib.hid (HEMP.out h0)
        have hz : s.toList = [] := by rw [ByteArray.toList_eq]; exact List.eq_nil_of_length_eq_zero (by rw [size_toList]; exact h0)
        have hz2 : s.toList.isEmpty = true := by rw [hz]; rfl
        go_wp2_with fail
        all_goals go_ret
        all_goals exact ⟨ret_bool (by rw [HE.out]), rfl⟩
      · have HE := Lib.hid (HALL.out (by omega) HA.out)
        have hz2 : s.toList.isEmpty = false := by
          rw [ByteArray.toList_eq, List.isEmpty_eq_false_iff]
          intro e
          have := congrArg List.length e
          rw [size_toList, List.length_nil] at this
          omega
        go_wp2_with fail
        all_goals go_ret
        all_goals exact ⟨ret_bool (by rw [HE.out]), rfl⟩
end Go.Proofs.YtdgcdemihalefaaGreatDoor
namespace Go.Proofs.YtdgcdemihalefaaGreatDoor
namespace Pw
open Go.RowKit Np Rw Vp Up Qp
theorem unqs_good (l : List UInt8) (h : (unqs l).2.2 = 0) : vld (unqs l).1 = true ∧ (unqs l).2.1 ≤ l.length ∧ bt l 0 = 34 := by
  unfold unqs at h ⊢
  split
  · rename_i h34
    rw [if_pos h34] at h
    cases hR : unq [] (l.drop 1) 1 with
    | mk x r =>
      obtain ⟨n, e⟩ := r
      rw [hR] at h
      simp only at h
      subst h
      obtain ⟨y, y1, y2, y3, -, y5⟩ := unq_good _ [] (l.drop 1) 1 n x (Nat.le_refl _) hR
      rw [List.nil_append] at y1
      subst y1
      rw [List.length_drop] at y5
      have : 0 < l.length := ne_of_bt (l := l) (k := 0) (by omega)
      exact ⟨y2, by simp only; omega, h34⟩
  · rename_i h34
    rw [if_neg h34] at h
    simp at h
theorem vld_low {l : List UInt8} (h : ∀ c ∈ l, c.toNat < 128) : vld l = true := by
  have := Lib.validD_ascii l.length l (fun b hb => h b (List.mem_of_mem_take hb))
  rw [List.drop_length] at this
  exact this.trans rfl
end Pw
end Go.Proofs.YtdgcdemihalefaaGreatDoor
namespace Go.Proofs.YtdgcdemihalefaaGreatDoor
namespace Pw
open Go.RowKit Np Rw Vp Up Qp
def valD (d : List UInt8) : Nat := d.foldl (fun n c => n * 10 + (c.toNat - 48)) 0
def figD (r : List UInt8) : List UInt8 := (r.take 7).takeWhile isF
def figR (r : List UInt8) : Option (Nat × Nat) := if figD r = [] ∨ ((figD r).head? = some 48 ∧ 1 < (figD r).length) ∨ 1000000 < valD (figD r) then none else some (valD (figD r), (figD r).length)
def partR (r : List UInt8) : Option (St × Nat) := match figR r with
  | none => none
  | some x => if r[x.2]? = some 93 then some (⟨true, [], x.1⟩, x.2 + 1) else none
def fieldR (r : List UInt8) : Option (St × Nat) :=
  if wrd r ≠ [] then some (⟨false, wrd r, 0⟩, (wrd r).length)
  else if (unqs r).2.2 = 0 ∧ isW (unqs r).1 = false ∧ quo (unqs r).1 = r.take (unqs r).2.1 then some (⟨false, (unqs r).1, 0⟩, (unqs r).2.1) else none
def stepR (l : List UInt8) (first : Bool) : Option (St × Nat) := match l with
  | [] => none
  | c :: r =>
    if c = 46 then match fieldR r with
      | some x => some (x.1, x.2 + 1)
      | none => if first then match r with
          | [] => none
          | d :: r' => if d = 91 then (partR r').map fun x => (x.1, x.2 + 2) else none
        else none
    else if first then none else if c = 91 then (partR r).map fun x => (x.1, x.2 + 1) else none
theorem valD_snoc (d : List UInt8) (c : UInt8) : valD (d ++ [c]) = valD d * 10 + (c.toNat - 48) := by simp [valD, List.foldl_append]
theorem isF_iff {c : UInt8} : isF c = true ↔ 48 ≤ c.toNat ∧ c.toNat ≤ 57 := by simp [isF]
theorem u8_of {c : UInt8} {n : Nat} (h : c.toNat = n) : UInt8.ofNat n = c := by subst h; simp
theorem dec_val : ∀ (n : Nat) (d : List UInt8), d.length = n → (∀ c ∈ d, isF c = true) → d ≠ [] → ¬ (d.head? = some 48 ∧ 1 < d.length) → Lib.decDigits (valD d) = d := by
  intro n
  induction n with
  | zero => intro d hl _ hne; exact absurd (List.eq_nil_of_length_eq_zero hl) hne
  | succ n ih =>
    intro d hl hf hne h0
    obtain ⟨d', c, rfl⟩ : ∃ d' c, d = d' ++ [c] := ⟨d.dropLast, d.getLast hne, (List.dropLast_concat_getLast hne).symm⟩
    have hc := isF_iff.1 (hf c (by simp))
    rw [valD_snoc]
    cases d' with
    | nil =>
      have : valD [] = 0 := rfl
      rw [this, Nat.zero_mul, Nat.zero_add, Lib.decDigits_one (by omega)]
      rw [u8_of (c := c) (by omega)]; rfl
    | cons a r =>
      have ha : ¬ a = 48 := fun e => h0 ⟨by rw [e]; rfl, by simp⟩
      have h1 := ih (a :: r) (by simpa using hl) (fun x hx => hf x (by simp at hx ⊢; rcases hx with h | h <;> simp [h])) (by simp) (fun h => ha (by simpa using h.1))
      have h2 : 1 ≤ valD (a :: r) := by
        rcases Nat.eq_zero_or_pos (valD (a :: r)) with h | h
        · rw [h, Lib.decDigits_one (by omega)] at h1
          injection h1 with h3 _
          exact absurd h3.symm ha
        · exact h
      rw [Lib.decDigits, dif_neg (by omega), show (valD (a :: r) * 10 + (c.toNat - 48)) / 10 = valD (a :: r) by omega, h1, show 48 + (valD (a :: r) * 10 + (c.toNat - 48)) % 10 = c.toNat by omega, u8_of rfl]
theorem val_dec : ∀ n : Nat, valD (Lib.decDigits n) = n := by
  intro n
  induction n using Nat.strongRecOn with
  | _ n ih =>
    by_cases hn : n < 10
    · rw [Lib.decDigits_one hn]
      simp [valD]; omega
    · rw [Lib.decDigits, dif_neg hn, valD_snoc, ih (n / 10) (by omega)]
      simp; omega
theorem dec_len {n : Nat} (h : n ≤ 1000000) : (Lib.decDigits n).length ≤ 7 := by
  rw [Lib.decDigits_length]
  have h1 := Lib.nDigits_pos n
  rcases Nat.eq_zero_or_pos n with h0 | h0
  · subst h0; rw [Lib.nDigits_small (by omega)]; omega
  · by_cases h7 : Lib.nDigits n ≤ 7
    · exact h7
    · exfalso
      have h8 : ∀ (k m : Nat), k + 1 ≤ Lib.nDigits m → 1 ≤ m → 10 ^ k ≤ m := by
        intro k
        induction k with
        | zero => intro m _ hm; simpa using hm
        | succ k ih =>
          intro m hk hm
          by_cases hm10 : m < 10
          · rw [Lib.nDigits_small hm10] at hk; omega
          · rw [Lib.nDigits_big hm10] at hk
            have := ih (m / 10) (by omega) (by omega)
            rw [Nat.pow_succ]; omega
      have := h8 7 n (by omega) h0
      omega
theorem dec_head {n : Nat} : ¬ ((Lib.decDigits n).head? = some 48 ∧ 1 < (Lib.decDigits n).length) := by
  intro ⟨h1, h2⟩
  have key : ∀ m : Nat, 1 ≤ m → (Lib.decDigits m).head? ≠ some 48 := by
    intro m
    induction m using Nat.strongRecOn with
    | _ m ih =>
      intro hm
      by_cases h10 : m < 10
      · rw [Lib.decDigits_one h10]
        intro h
        simp at h
        have := congrArg UInt8.toNat h
        simp at this; omega
      · have h3 := ih (m / 10) (by omega) (by omega)
        have h4 := (dec_fig (m / 10)).1
        rw [Lib.decDigits, dif_neg h10]
        cases hd : Lib.decDigits (m / 10) with
        | nil => exact absurd hd h4
        | cons a r => rw [hd] at h3; simpa using h3
  rcases Nat.eq_zero_or_pos n with h0 | h0
  · subst h0; rw [Lib.decDigits_one (by omega)] at h2; simp at h2
  · exact key n h0 h1
theorem figD_of {d t : List UInt8} (hd : ∀ c ∈ d, isF c = true) (hl : d.length ≤ 7) (ht : t = [] ∨ ∃ c r, t = c :: r ∧ isF c = false) : figD (d ++ t) = d := by
  unfold figD
  rw [List.take_append, List.take_of_length_le hl, List.takeWhile_append_of_pos hd]
  rcases ht with rfl | ⟨c, r, rfl, hc⟩
  · simp
  · cases h : 7 - d.length with
    | zero => simp
    | succ k => rw [List.take_succ_cons, List.takeWhile_cons, hc]; simp
theorem figD_pre (r : List UInt8) : (∃ t, r = figD r ++ t) ∧ (∀ c ∈ figD r, isF c = true) ∧ (figD r).length ≤ 7 := by
  unfold figD
  refine ⟨?_, ?_, ?_⟩
  · refine ⟨(r.take 7).dropWhile isF ++ r.drop 7, ?_⟩
    rw [← List.append_assoc, List.takeWhile_append_dropWhile, List.take_append_drop]
  · exact List.all_eq_true.1 List.all_takeWhile
  · have := (List.takeWhile_sublist isF (l := r.take 7)).length_le
    simp at this ⊢; omega
theorem part_eq (r : List UInt8) : partR r = if rightS (gss (91 :: r)) && Lib.hasPrefix (91 :: r) (stT (gss (91 :: r))) then some (gss (91 :: r), (stT (gss (91 :: r))).length - 1) else none := by
  have hg : gss (91 :: r) = ⟨true, [], atoiN (Lib.cut r [93]).1⟩ := by
    unfold gss
    rw [if_pos (show Lib.hasPrefix (91 :: r) [91] = true from pre_iff.2 ⟨r, rfl⟩), show Lib.trimPrefix (91 :: r) [91] = r from trim_of [91] r]
  cases hR : partR r with
  | some x =>
    obtain ⟨g, k⟩ := x
    unfold partR at hR
    split at hR
    · cases hR
    · rename_i y hy
      split at hR
      · rename_i h93
        obtain ⟨n, m⟩ := y
        injection hR with hR
        injection hR with e1 e2
        simp only at h93 e1 e2
        subst e1 e2
        unfold figR at hy
        split at hy
        · cases hy
        · rename_i hcond
          injection hy with hy
          injection hy with e3 e4
          rw [not_or, not_or] at hcond
          obtain ⟨c1, c2, c3⟩ := hcond
          obtain ⟨⟨t, ht⟩, hf, hl⟩ := figD_pre r
          have hd := dec_val _ (figD r) rfl hf c1 c2
          have ht2 : ∃ u, t = 93 :: u := by
            have h93' : (figD r ++ t)[(figD r).length]? = some 93 := by rw [← ht, e4]; exact h93
            rw [List.getElem?_append_right (Nat.le_refl _), Nat.sub_self] at h93'
            cases t with
            | nil => simp at h93'
            | cons a u => simp at h93'; exact ⟨u, by rw [h93']⟩
          obtain ⟨u, rfl⟩ := ht2
          have hcut : (Lib.cut r [93]).1 = figD r := by
            have h5 := cut_fig (figD r) u (fun c hc => by have := isF_iff.1 (hf c hc); omega)
            rwa [← ht] at h5
          have hn : n ≤ 1000000 := by omega
          have hit : Lib.itoa (n : Int) = figD r := by rw [itoa_nat (by omega), Int.toNat_natCast, ← e3, hd]
          have hat : atoiN (figD r) = n := by rw [← hit, atoi_itoa (by omega) (by omega)]
          rw [hg, hcut, hat]
          have hst : stT ⟨true, [], (n : Int)⟩ = 91 :: (figD r ++ [93]) := by rw [stT, if_pos rfl, hit]
          have hr : rightS ⟨true, [], (n : Int)⟩ = true := by unfold rightS; simp; omega
          have hp : Lib.hasPrefix (91 :: r) (stT ⟨true, [], (n : Int)⟩) = true := by
            rw [hst]
            refine pre_iff.2 ⟨u, ?_⟩
            conv => lhs; rw [ht]
            simp
          rw [hr, hp, hst, if_pos (by rfl)]
          congr 2
          simp; omega
      · cases hR
  | none =>
    by_cases hc : (rightS (gss (91 :: r)) && Lib.hasPrefix (91 :: r) (stT (gss (91 :: r)))) = true
    · exfalso
      rw [Bool.and_eq_true] at hc
      obtain ⟨h1, h2⟩ := hc
      rw [hg] at h1 h2
      generalize atoiN (Lib.cut r [93]).1 = n at h1 h2
      unfold rightS at h1
      simp only [if_true, Bool.and_eq_true, decide_eq_true_eq] at h1
      obtain ⟨⟨-, h3⟩, h4⟩ := h1
      obtain ⟨t, ht⟩ := pre_iff.1 h2
      rw [stT, if_pos rfl, itoa_nat h3] at ht
      have hr : r = Lib.decDigits n.toNat ++ 93 :: t := by simpa using ht
      have hf : figD r = Lib.decDigits n.toNat := by
        rw [hr]
        exact figD_of (fun c hc => isF_iff.2 ((dec_fig _).2 c hc)) (dec_len (by omega)) (.inr ⟨93, t, rfl, by decide⟩)
      have hfr : figR r = some (n.toNat, (Lib.decDigits n.toNat).length) := by
        unfold figR
        rw [hf, val_dec, if_neg]
        rintro (h | h | h)
        · exact (dec_fig _).1 h
        · exact dec_head h
        · omega
      unfold partR at hR
      rw [hfr] at hR
      simp only at hR
      rw [if_pos (by rw [hr, List.getElem?_append_right (Nat.le_refl _), Nat.sub_self]; rfl)] at hR
      cases hR
    · rw [if_neg hc]
theorem wrd_isW {r : List UInt8} (h : wrd r ≠ []) : isW (wrd r) = true := by
  unfold isW
  rw [Bool.and_eq_true, decide_eq_true_eq, decide_eq_true_eq]
  refine ⟨h, ?_⟩
  cases r with
  | nil => simp [wrd] at h
  | cons c r =>
    rw [wrd] at h ⊢
    by_cases hc : isL c = true
    · rw [if_pos hc, wrd, if_pos hc]
      congr 1
      have := takeWhile_len isLF (List.takeWhile isLF r) _ (Nat.le_refl _) (fun j hj x hx => List.all_eq_true.1 (List.all_takeWhile (p := isLF) (l := r)) x (List.mem_of_getElem? hx)) (Or.inl rfl)
      rw [this, List.take_length]
    · rw [if_neg hc] at h; exact absurd rfl h
theorem unqs_first {r : List UInt8} (h : (unqs r).2.2 = 0) : ∃ t, r = 34 :: t := by
  obtain ⟨-, -, h3⟩ := unqs_good r h
  cases r with
  | nil => simp [bt] at h3
  | cons c t => exact ⟨t, by rw [← u8_of (c := c) (n := 34) (by simpa [bt] using h3)]; rfl⟩
theorem wrd_mark (t : List UInt8) : wrd (34 :: t) = [] := by rw [wrd, if_neg (by decide)]
theorem wrd_pre (r : List UInt8) : ∃ u, r = wrd r ++ u := by
  cases r with
  | nil => exact ⟨[], rfl⟩
  | cons c r =>
    rw [wrd]
    split
    · exact ⟨r.dropWhile isLF, by rw [List.cons_append, List.takeWhile_append_dropWhile]⟩
    · exact ⟨c :: r, rfl⟩
theorem field_eq (r : List UInt8) (h91 : Lib.hasPrefix (46 :: r) [91] = false) : fieldR r = if rightS (gss (46 :: r)) && Lib.hasPrefix (46 :: r) (stT (gss (46 :: r))) then some (gss (46 :: r), (stT (gss (46 :: r))).length - 1) else none := by
  have hg : gss (46 :: r) = if (unqs r).2.2 = 0 then ⟨false, (unqs r).1, 0⟩ else ⟨false, wrd r, 0⟩ := by
    unfold gss
    rw [h91, show Lib.trimPrefix (46 :: r) [46] = r from trim_of [46] r]
    rfl
  unfold fieldR
  by_cases hu : (unqs r).2.2 = 0
  · rw [if_pos hu] at hg
    rw [hg]
    obtain ⟨hv, hn, -⟩ := unqs_good r hu
    obtain ⟨t, ht⟩ := unqs_first hu
    have hw : wrd r = [] := by rw [ht, wrd_mark]
    rw [if_neg (by rw [hw]; simp)]
    have hr : rightS ⟨false, (unqs r).1, 0⟩ = true := by unfold rightS; simp [hv]
    rw [hr, Bool.true_and]
    by_cases hW : isW (unqs r).1 = true
    · rw [if_neg (by rw [hW]; simp), if_neg]
      intro h
      obtain ⟨u, hu2⟩ := pre_iff.1 h
      obtain ⟨c, a, ha, hc⟩ := isW_first hW
      rw [stT, if_neg (by simp), if_pos hW, ha, ht] at hu2
      simp at hu2
      exact (isL_ne hc).1 (by rw [← hu2.1]; rfl)
    · have hW' : isW (unqs r).1 = false := by simpa using hW
      have hst : stT ⟨false, (unqs r).1, 0⟩ = 46 :: quo (unqs r).1 := by rw [stT, if_neg (by simp), if_neg hW]
      rw [hst]
      by_cases hq : quo (unqs r).1 = r.take (unqs r).2.1
      · rw [if_pos ⟨hu, hW', hq⟩, if_pos]
        · have h5 := congrArg List.length hq
          rw [List.length_take, Nat.min_eq_left hn] at h5
          rw [List.length_cons, Nat.add_sub_cancel, h5]
        · refine pre_iff.2 ⟨r.drop (unqs r).2.1, ?_⟩
          rw [List.cons_append, hq, List.take_append_drop]
      · rw [if_neg (fun h => hq h.2.2), if_neg]
        intro h
        obtain ⟨u, hu2⟩ := pre_iff.1 h
        have hr2 : r = quo (unqs r).1 ++ u := by simpa using hu2
        have hb := quo_back (unqs r).1 u hv
        rw [← hr2] at hb
        apply hq
        have hlen : (unqs r).2.1 = (quo (unqs r).1).length := by rw [hb]
        rw [hlen]
        have key : ∀ (z u r : List UInt8), r = z ++ u → z = r.take z.length := by rintro z u r rfl; simp
        exact key _ u r hr2
  · rw [if_neg hu] at hg
    rw [hg]
    by_cases hw : wrd r = []
    · rw [if_neg (by rw [hw]; simp), if_neg (fun h => hu h.1), if_neg]
      intro h
      rw [Bool.and_eq_true] at h
      obtain ⟨u, hu2⟩ := pre_iff.1 h.2
      rw [hw] at hu2
      have hst : stT ⟨false, [], 0⟩ = 46 :: quo [] := by rw [stT, if_neg (by simp), if_neg (by decide)]
      rw [hst] at hu2
      have hr2 : r = quo [] ++ u := by simpa using hu2
      apply hu
      rw [hr2, quo_back [] u (vld_low (by simp))]
    · rw [if_pos hw]
      have hW := wrd_isW hw
      have hr : rightS ⟨false, wrd r, 0⟩ = true := by unfold rightS; simp [vld_low (wrd_low r)]
      have hst : stT ⟨false, wrd r, 0⟩ = 46 :: wrd r := by rw [stT, if_neg (by simp), if_pos hW]
      have hp : Lib.hasPrefix (46 :: r) (46 :: wrd r) = true := by
        obtain ⟨u, hu⟩ := wrd_pre r
        exact pre_iff.2 ⟨u, by rw [List.cons_append, ← hu]⟩
      rw [hr, hst, hp]
      simp
theorem step_eq (l : List UInt8) (first : Bool) : stepR l first = bgn l first := by
  cases l with
  | nil =>
    cases first with
    | true => rfl
    | false =>
      unfold bgn ahd
      simp only [Bool.false_and, Bool.false_eq_true, if_false, List.drop_nil]
      rw [if_neg]; · rfl
      intro h
      rw [Bool.and_eq_true] at h
      have h1 : (stT (gss [])).length ≤ 0 := pre_len h.2
      have h2 := stT_pos (gss [])
      omega
  | cons c r =>
    by_cases hc : c = 46
    · subst hc
      unfold stepR
      simp only
      rw [if_pos trivial]
      have h46 : Lib.hasPrefix (46 :: r) [46] = true := pre_iff.2 ⟨r, rfl⟩
      have h91 : Lib.hasPrefix (46 :: r) [91] = false := by simp [Lib.hasPrefix, List.isPrefixOf]
      have hF := field_eq r h91
      have hst : ∀ g, 1 ≤ (stT g).length := stT_pos
      by_cases h2 : first = true ∧ Lib.hasPrefix (46 :: r) [46, 91] = true
      · obtain ⟨rfl, h2⟩ := h2
        obtain ⟨t, ht⟩ := pre_iff.1 h2
        have hr : r = 91 :: t := by simpa using ht
        subst hr
        have hfn : fieldR (91 :: t) = none := by
          unfold fieldR
          rw [if_neg (by rw [wrd, if_neg (by decide)]; simp), if_neg]
          intro h
          obtain ⟨u, hu⟩ := unqs_first h.1
          cases hu
        rw [hfn]
        simp only [if_true]
        rw [part_eq]
        unfold bgn
        have ha : ahd (46 :: 91 :: t) true = 1 := by unfold ahd; rw [h2]; rfl
        rw [ha, h2]
        simp only [Bool.not_true, Bool.and_false, Bool.false_and, Bool.false_eq_true, if_false, List.drop_succ_cons, List.drop_zero]
        split
        · simp only [Option.map_some]
          have := hst (gss (91 :: t))
          congr 2; omega
        · rfl
      · have ha : ahd (46 :: r) first = 0 := by
          unfold ahd
          rw [if_neg]
          rw [Bool.and_eq_true]; exact h2
        have hbg : bgn (46 :: r) first = if rightS (gss (46 :: r)) && Lib.hasPrefix (46 :: r) (stT (gss (46 :: r))) then some (gss (46 :: r), 0 + (stT (gss (46 :: r))).length) else none := by
          unfold bgn
          rw [ha, h46]
          simp only [Bool.not_true, Bool.and_false, Bool.false_eq_true, if_false, List.drop_zero]
        rw [hbg, hF]
        have hp := hst (gss (46 :: r))
        split
        · rename_i x hx
          split at hx
          · rename_i hcond
            injection hx with hx
            subst hx
            rw [if_pos hcond]
            simp only
            congr 2; omega
          · cases hx
        · rename_i hx
          split at hx
          · cases hx
          · rename_i hcond
            rw [if_neg hcond]
            cases first with
            | false => rfl
            | true =>
              simp only [if_true]
              cases r with
              | nil => rfl
              | cons d r' =>
                simp only
                rw [if_neg]
                intro hd
                apply h2
                exact ⟨rfl, pre_iff.2 ⟨r', by rw [hd]; rfl⟩⟩
    · unfold stepR
      simp only
      rw [if_neg hc]
      have h46 : Lib.hasPrefix (c :: r) [46] = false := by simp [Lib.hasPrefix, List.isPrefixOf]; exact fun h => hc h.symm
      have h462 : Lib.hasPrefix (c :: r) [46, 91] = false := by simp [Lib.hasPrefix, List.isPrefixOf]; intro h; exact absurd h.symm hc
      cases first with
      | true =>
        unfold bgn
        rw [h46, h462]; rfl
      | false =>
        have hbg : bgn (c :: r) false = if rightS (gss (c :: r)) && Lib.hasPrefix (c :: r) (stT (gss (c :: r))) then some (gss (c :: r), 0 + (stT (gss (c :: r))).length) else none := rfl
        rw [hbg]
        simp only [Bool.false_eq_true, if_false]
        have hp := stT_pos (gss (c :: r))
        by_cases h91 : c = 91
        · subst h91
          rw [if_pos rfl, part_eq]
          split
          · simp only [Option.map_some]
            congr 2; omega
          · rfl
        · rw [if_neg h91, if_neg]
          intro h
          rw [Bool.and_eq_true] at h
          obtain ⟨d, t, hd, -, h5, h6⟩ := stT_head (gss (c :: r))
          obtain ⟨u, hu⟩ := pre_iff.1 h.2
          rw [hd] at hu
          have hcd : c = d := by simpa using congrArg List.head? hu
          cases hpt : (gss (c :: r)).part with
          | true => exact h91 (by rw [hcd]; exact h5 hpt)
          | false => exact hc (by rw [hcd]; exact h6 hpt)
end Pw
end Go.Proofs.YtdgcdemihalefaaGreatDoor
namespace Go.Proofs.YtdgcdemihalefaaGreatDoor
namespace Pw
open Go.RowKit Np Rw Vp Up Qp
def bgsF : Nat → List St → List UInt8 → Nat → List St × Nat
  | 0, acc, _, i => (acc, i)
  | f + 1, acc, l, i => if acc.length < 20 then match stepR (l.drop i) (acc.length == 0) with
      | none => (acc, i)
      | some x => bgsF f (acc ++ [x.1]) l (i + x.2)
    else (acc, i)
def endR (l : List UInt8) (x : List St × Nat) : List St × Nat × Int := if x.1 = [] then ([], 0, 1) else if x.2 < l.length then ([], x.2, 1) else (x.1, 0, 0)
theorem read_ends : ∀ (f : Nat) (acc : List St) (l : List UInt8) (i : Nat), i ≤ l.length → (i = l.length → acc = []) → l.length < i + f → (i = 0 ↔ acc = []) → acc.length ≤ 20 → Pw.readF f acc l i = endR l (bgsF f acc l i)
  | 0, acc, l, i, hi, _, hf, _, _ => by omega
  | f + 1, acc, l, i, hi, hne, hf, h0, h20 => by
    rw [Pw.readF, bgsF]
    have hfst : (i == 0) = (acc.length == 0) := by
      rw [Bool.eq_iff_iff, beq_iff_eq, beq_iff_eq, h0]
      exact ⟨fun h => by rw [h]; rfl, fun h => List.eq_nil_of_length_eq_zero h⟩
    rw [hfst, ← step_eq]
    cases hs : stepR (l.drop i) (acc.length == 0) with
    | none =>
      simp only
      have hE : endR l (acc, i) = ([], i, 1) := by
        unfold endR
        by_cases ha : acc = []
        · rw [if_pos ha, h0.2 ha]
        · rw [if_neg ha, if_pos]
          rcases Nat.lt_or_ge i l.length with h | h
          · exact h
          · exact absurd (hne (by omega)) ha
      split <;> exact hE.symm
    | some x =>
      simp only
      have hl := bgn_len (g := x.1) (n := x.2) (by rw [← step_eq]; exact hs)
      rw [List.length_drop] at hl
      by_cases ha : acc.length = 20
      · rw [if_pos ha, if_neg (by omega)]
        unfold endR
        have hna : acc ≠ [] := by intro e; rw [e] at ha; simp at ha
        rw [if_neg hna, if_pos (by simp only; omega)]
      · rw [if_neg ha, if_pos (show acc.length < 20 by omega)]
        by_cases he : i + x.2 = l.length
        · rw [if_pos he]
          have hb : bgsF f (acc ++ [x.1]) l (i + x.2) = (acc ++ [x.1], i + x.2) := by
            cases f with
            | zero => rfl
            | succ f =>
              rw [bgsF]
              have : l.drop (i + x.2) = [] := List.drop_of_length_le (by omega)
              rw [this]
              have hn : stepR [] ((acc ++ [x.1]).length == 0) = none := rfl
              rw [hn]
              simp
          rw [hb]
          unfold endR
          rw [if_neg (by simp), if_neg (by simp only; omega)]
        · rw [if_neg he]
          exact read_ends f (acc ++ [x.1]) l (i + x.2) (by omega) (fun h => absurd h he) (by omega) ⟨fun h => by omega, fun h => by simp at h⟩ (by simp; omega)
theorem readR_eq (l : List UInt8) (h : l ≠ [46]) : readP l = endR l (bgsF (l.length + 1) [] l 0) := by
  unfold readP
  rw [if_neg h]
  exact read_ends _ _ _ _ (Nat.zero_le _) (fun _ => rfl) (by omega) ⟨fun _ => rfl, fun _ => rfl⟩ (by simp)
end Pw
end Go.Proofs.YtdgcdemihalefaaGreatDoor
namespace Go.Proofs.YtdgcdemihalefaaGreatDoor
open Go.RowKit Np Rw Vp Pw Fw
def shortT (t : Tm) : Bool := decide (t.s.length ≤ 100) && decide (t.name.length ≤ 100) && decide (t.c.s.length ≤ 100)
def shrtF (m : Nat) (l : List Tm) : Bool := decide (l.length ≤ m) && l.all shortT
structure HeldT (t : Tm) : Prop where
  nm : t.name.length ≤ maxLen
  s : t.s.length ≤ maxLen
  cn : t.c.name.length ≤ maxLen
  cs : t.c.s.length ≤ maxLen
  m : t.many ≤ 9223372036854775807
  cm : t.c.many ≤ 9223372036854775807
  n0 : -9223372036854775808 ≤ t.n
  n1 : t.n ≤ 9223372036854775807
def HeldF (l : List Tm) : Prop := ∀ t ∈ l, HeldT t
end Go.Proofs.YtdgcdemihalefaaGreatDoor
