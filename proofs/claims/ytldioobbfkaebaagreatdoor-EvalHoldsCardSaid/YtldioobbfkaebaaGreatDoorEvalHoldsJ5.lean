/-
  Joined: QEsc2, QQuote, QuoP2, NumPlain2.
-/
import Derived.Test.YtldioobbfkaebaaGreatDoorEvalHoldsJ4
import Derived.Test.YtldioobbfkaebaaGreatDoorEvalHoldsJ3
import Derived.Test.YtldioobbfkaebaaGreatDoorEvalHoldsJ1
set_option maxHeartbeats 8000000
set_option maxRecDepth 100000
namespace Go.Proofs.YtldioobbfkaebaaGreatDoor
section
open Go.RowKit Go.Maps Np Up Qp
def escV : Option (Nat × Nat) → Value
 | some x => .tuple #[.int .i32 x.1, .int .i64 x.2]
 | none => .tuple #[.int .i32 0, .int .i64 0]
theorem blF_sh (c : Nat) : blF (c : Int) = (sh c).map fun x : Nat => (x : Int) := by
 by_cases h0 : c = 34
 ·subst h0; rfl
 by_cases h1 : c = 92
 ·subst h1; rfl
 by_cases h2 : c = 47
 ·subst h2; rfl
 by_cases h3 : c = 98
 ·subst h3; rfl
 by_cases h4 : c = 102
 ·subst h4; rfl
 by_cases h5 : c = 110
 ·subst h5; rfl
 by_cases h6 : c = 114
 ·subst h6; rfl
 by_cases h7 : c = 116
 ·subst h7; rfl
 have k0 : ¬ (c : Int) = 34 := by omega
 have k1 : ¬ (c : Int) = 92 := by omega
 have k2 : ¬ (c : Int) = 47 := by omega
 have k3 : ¬ (c : Int) = 98 := by omega
 have k4 : ¬ (c : Int) = 102 := by omega
 have k5 : ¬ (c : Int) = 110 := by omega
 have k6 : ¬ (c : Int) = 114 := by omega
 have k7 : ¬ (c : Int) = 116 := by omega
 rw [blF, sh, if_neg k0, if_neg k1, if_neg k2, if_neg k3, if_neg k4, if_neg k5, if_neg k6, if_neg k7, if_neg h0, if_neg h1, if_neg h2, if_neg h3, if_neg h4, if_neg h5, if_neg h6, if_neg h7]
 rfl
theorem i32_wf {x : Int} (h0 : -2147483648 ≤ x) (h1 : x ≤ 2147483647) : (Lit.int .i32 x).wf = true := by
 simp only [Lit.wf, IntKind.min, IntKind.max, IntKind.signed, IntKind.bits, Bool.and_eq_true, decide_eq_true_eq, if_true]
 omega
theorem Vw.hit {D : DataW Unit} {f : Int → Option Int} (h : Vw D f) {r v : Int} (hf : f r = some v) {c : Int} (hat : D.atKey (key r) (.lit (.int .i32 0)) = .lit (.int .i32 c)) : c = v := by
 have h2 := (h.2 r).2 v hf
 rw [hat] at h2
 injection h2 with h2
 injection h2
theorem escape_any (b n : Nat) (s : ByteArray) (w : World) (hs : s.size ≤ 1073741824) (hE : Er w) (hM : MapAt w b n blF) :
  Calls Tryz.prog 218 #[.map (some b), .string s] w fun e w' => e = .returned (escV (es s.data.toList)) ∧ Below w.heap.size w w' := by
 have hB : Below w.heap.size w w := Below.refl _ _
 obtain ⟨D, hown, hV⟩ := hM
 by_cases h2 : 2 ≤ s.size
 ·have hb1 : bt s.data.toList 1 = s[1].toNat := bt_at s 1 (by omega)
  have hln : ¬ s.data.toList.length < 2 := by rw [size_toList]; omega
  have hwf : (Lit.int .i32 (s[1].toNat : Int)).wf = true := i32_wf (by omega) (by have := s[1].toNat_lt; omega)
  have hc256 := s[1].toNat_lt
  have hw32 : wrap32 (s[1].toNat : Int) = (s[1].toNat : Int) := by unfold wrap32; omega
  have hbl := blF_sh s[1].toNat
  have hhas := (hV.2 (s[1].toNat : Int)).1
  cases hsh : sh s[1].toNat with
  | some x =>
   have HE : Hid (es s.data.toList = some (x, 2)) := Lib.hid (by rw [es, if_neg hln, hb1, hsh])
   rw [hsh] at hbl
   rw [hbl] at hhas
   have HH : Hid (has D (key (s[1].toNat : Int)) = true) := Lib.hid hhas
   have HV := Lib.hid hV
   have HBL := Lib.hid hbl
   clear hb1 hln hsh hbl hhas hV
   go_enter Tryz.func218, Tryz.ntmps218
   go_wp2_with (first
    | (at_lookup; refine wpList_lookup_own_ok_int _ rfl _ _ 226 rfl 21 21 .i32 lawI Tryz.underlying226 Tryz.underlying21 (zeroI _) b n D rfl hown _ _ rfl (keyOf_int_mk Tryz.underlying21 hwf) ?_; intro c hat hwc; rw [HH.out]; obtain rfl := HV.out.hit HBL.out hat; clear hat hwc)
    | go_in)
   all_goals go_ret2
   all_goals exact ⟨by rw [HE.out]; rfl, hB⟩
  | none =>
   have HES : Hid (es s.data.toList = match un s.data.toList with
    | none => none
    | some a => if a < 55296 ∨ 57344 ≤ a then some (a, 6) else
     match un (s.data.toList.drop 6) with
     | none => none
     | some b => if a < 56320 ∧ 56320 ≤ b ∧ b < 57344 then some (pr a b, 12) else none) := Lib.hid (by rw [es, if_neg hln, hb1, hsh]; rfl)
   rw [hsh] at hbl
   rw [hbl] at hhas
   have HH : Hid (has D (key (s[1].toNat : Int)) = false) := Lib.hid hhas
   clear hb1 hln hsh hbl hhas hV
   cases hu : un s.data.toList with
   | none =>
    have HE2 : Hid (es s.data.toList = none) := Lib.hid (by rw [HES.out, hu])
    have HU := Lib.hid hu
    clear hu HES
    go_enter Tryz.func218, Tryz.ntmps218
    go_wp2_with (first
     | (at_lookup; refine wpList_lookup_own_ok_int _ rfl _ _ 226 rfl 21 21 .i32 lawI Tryz.underlying226 Tryz.underlying21 (zeroI _) b n D rfl hown _ _ rfl (keyOf_int_mk Tryz.underlying21 hwf) ?_; intro c hat hwc; rw [HH.out]; clear hat hwc)
     | (go_at_call 244; refine (number_any s _ hs hE).mono ?_; rintro e w1 ⟨rfl, hb⟩; rw [HU.out, numV])
     | go_in)
    all_goals go_ret2
    all_goals exact ⟨by rw [HE2.out]; rfl, hb⟩
   | some a =>
    obtain ⟨u1, u2, -, -, -⟩ := un_some hu
    rw [size_toList] at u1
    have HES1 := HES.out
    rw [hu] at HES1
    obtain ⟨x, hx⟩ : ∃ x : Int, x = (a : Int) := ⟨_, rfl⟩
    have HU : Hid (numV (un s.data.toList) = .tuple #[.int .i32 x, .bool true]) := Lib.hid (by rw [hu, hx]; rfl)
    have hx0 : 0 ≤ x := by omega
    have hx1 : x < 65536 := by omega
    have HD6 : Hid ((s.extract 6 s.size).data.toList = s.data.toList.drop 6) := Lib.hid (by
     have h := Lib.extract_toList s 6 s.size
     rw [ByteArray.toList_eq] at h
     rw [h, List.take_of_length_le (by simp)])
    have hs6 : (s.extract 6 s.size).size ≤ 1073741824 := by rw [ByteArray.size_extract]; omega
    clear hu HES
    by_cases hr : a < 55296 ∨ 57344 ≤ a
    ·have HE2 : Hid (es s.data.toList = some (a, 6)) := Lib.hid (HES1.trans (if_pos hr))
     have hsur : (decide (x < 55296) || decide ((57344 : Int) ≤ x)) = true := by
      rw [Bool.or_eq_true, decide_eq_true_eq, decide_eq_true_eq]; omega
     have HX := Lib.hid hx
     clear HES1 hr hx u2
     go_enter Tryz.func218, Tryz.ntmps218
     go_wp2_with (first
      | (at_lookup; refine wpList_lookup_own_ok_int _ rfl _ _ 226 rfl 21 21 .i32 lawI Tryz.underlying226 Tryz.underlying21 (zeroI _) b n D rfl hown _ _ rfl (keyOf_int_mk Tryz.underlying21 hwf) ?_; intro c hat hwc; rw [HH.out]; clear hat hwc)
      | (go_at_call 244; refine (number_any s _ hs hE).mono ?_; rintro e w1 ⟨rfl, hb⟩; rw [HU.out])
      | go_in)
     all_goals go_ret2
     all_goals exact ⟨by rw [HE2.out, HX.out]; rfl, hb⟩
    ·have HER := HES1.trans (if_neg hr)
     have hsur : (decide (x < 55296) || decide ((57344 : Int) ≤ x)) = false := by
      rw [Bool.or_eq_false_iff, decide_eq_false_iff_not, decide_eq_false_iff_not]; omega
     have hx2 : 55296 ≤ x := by omega
     have hx3 : x < 57344 := by omega
     cases hu2 : un (s.data.toList.drop 6) with
     | none =>
      have HE2 : Hid (es s.data.toList = none) := Lib.hid (by rw [HER, hu2])
      have HU2 : Hid (numV (un (s.extract 6 s.size).data.toList) = .tuple #[.int .i32 0, .bool false]) := Lib.hid (by rw [HD6.out, hu2]; rfl)
      clear HES1 HER hr hx u2 hu2 HD6
      go_enter Tryz.func218, Tryz.ntmps218
      go_wp2_with (at_lookup; refine wpList_lookup_own_ok_int _ rfl _ _ 226 rfl 21 21 .i32 lawI Tryz.underlying226 Tryz.underlying21 (zeroI _) b n D rfl hown _ _ rfl (keyOf_int_mk Tryz.underlying21 hwf) ?_; intro c hat hwc; rw [HH.out]; clear hat hwc)
      refine (number_any s _ hs hE).mono ?_
      rintro e w1 ⟨rfl, hb⟩
      rw [HU.out]
      go_wp2_with fail
      refine (number_any _ _ hs6 (hE.below hb)).mono ?_
      rintro e w2 ⟨rfl, hb2⟩
      rw [HU2.out]
      go_wp2_with fail
      all_goals go_ret2
      all_goals exact ⟨by rw [HE2.out]; rfl, hb.trans (hb2.mono hb.size)⟩
     | some y0 =>
      obtain ⟨v1, v2, -, -, -⟩ := un_some hu2
      have HE3 := HER
      rw [hu2] at HE3
      obtain ⟨y, hy⟩ : ∃ y : Int, y = (y0 : Int) := ⟨_, rfl⟩
      have HU2 : Hid (numV (un (s.extract 6 s.size).data.toList) = .tuple #[.int .i32 y, .bool true]) := Lib.hid (by rw [HD6.out, hu2, hy]; rfl)
      have hy0 : 0 ≤ y := by omega
      have hy1 : y < 65536 := by omega
      clear HD6
      by_cases hok : a < 56320 ∧ 56320 ≤ y0 ∧ y0 < 57344
      ·have HE2 : Hid (es s.data.toList = some (pr a y0, 12)) := Lib.hid (HE3.trans (if_pos hok))
       have HXA : Hid (((pr a y0 : Nat) : Int) = 65536 + (x - 55296) * 1024 + y - 56320) := Lib.hid (by unfold pr; omega)
       have o1 : x < 56320 := by omega
       have o2 : 56320 ≤ y := by omega
       have o3 : y < 57344 := by omega
       clear HES1 HER hr hx u2 hu2 HE3 hok hy v2
       go_enter Tryz.func218, Tryz.ntmps218
       go_wp2_with (at_lookup; refine wpList_lookup_own_ok_int _ rfl _ _ 226 rfl 21 21 .i32 lawI Tryz.underlying226 Tryz.underlying21 (zeroI _) b n D rfl hown _ _ rfl (keyOf_int_mk Tryz.underlying21 hwf) ?_; intro c hat hwc; rw [HH.out]; clear hat hwc)
       refine (number_any s _ hs hE).mono ?_
       rintro e w1 ⟨rfl, hb⟩
       rw [HU.out]
       go_wp2_with fail
       refine (number_any _ _ hs6 (hE.below hb)).mono ?_
       rintro e w2 ⟨rfl, hb2⟩
       rw [HU2.out]
       go_wp2_with fail
       all_goals go_ret2
       all_goals (refine ⟨?_, hb.trans (hb2.mono hb.size)⟩)
       all_goals (rw [HE2.out])
       all_goals (show _ = Ending.returned (.tuple #[.int .i32 (pr a y0 : Nat), .int .i64 12]))
       all_goals (rw [HXA.out])
       all_goals rfl
      ·have HE2 : Hid (es s.data.toList = none) := Lib.hid (HE3.trans (if_neg hok))
       have hor : (56320 ≤ x ∨ y < 56320) ∨ 57344 ≤ y := by omega
       have HOR := Lib.hid hor
       clear HES1 HER hr hx u2 hu2 HE3 hok hy v2 hor
       go_enter Tryz.func218, Tryz.ntmps218
       go_wp2_with (at_lookup; refine wpList_lookup_own_ok_int _ rfl _ _ 226 rfl 21 21 .i32 lawI Tryz.underlying226 Tryz.underlying21 (zeroI _) b n D rfl hown _ _ rfl (keyOf_int_mk Tryz.underlying21 hwf) ?_; intro c hat hwc; rw [HH.out]; clear hat hwc)
       refine (number_any s _ hs hE).mono ?_
       rintro e w1 ⟨rfl, hb⟩
       rw [HU.out]
       go_wp2_with fail
       refine (number_any _ _ hs6 (hE.below hb)).mono ?_
       rintro e w2 ⟨rfl, hb2⟩
       rw [HU2.out]
       go_wp2_with fail
       all_goals go_ret2
       all_goals first
        | exact ⟨by rw [HE2.out]; rfl, hb.trans (hb2.mono hb.size)⟩
        | (exfalso; have := HOR.out; go_light; simp at *; omega)
 ·have HE : Hid (es s.data.toList = none) := Lib.hid (by rw [es, if_pos (by rw [size_toList]; omega)])
  go_enter Tryz.func218, Tryz.ntmps218
  go_wp2
  all_goals go_ret2
  all_goals exact ⟨by rw [HE.out]; rfl, hB⟩
end
section
open Go.RowKit Go.Maps Np Up Qp
abbrev IsB (B b : Nat) (l : List UInt8) (w : World) : Prop := Lib.IsBuilderF 225 5 B b (Lib.byteCells l) w
theorem dec_low {l : List UInt8} (h : bt l 0 < 128) : Lib.decodeL l = (bt l 0, 1) := by rw [decode_eq, if_pos h]
theorem dec_high {l : List UInt8} (hl : l ≠ []) (h : 128 ≤ bt l 0) : 128 ≤ (Lib.decodeL l).1 ∧ ∀ j, j < (Lib.decodeL l).2 → 128 ≤ bt l j := by
 refine ⟨?_, fun j hj => ?_⟩
 ·have hp : 0 < (ByteArray.mk l.toArray).size := by rw [mk_size]; exact List.length_pos_iff.2 hl
  have h1 := (decode_high ⟨l.toArray⟩ 0 hp (by have := bt_at ⟨l.toArray⟩ 0 hp; rw [mk_data] at this; omega)).1
  exact h1
 ·rcases decode_rune l with ⟨h0, h1⟩ | ⟨h0, h1, _⟩
  ·rw [h1] at hj
   rw [show j = 0 by simp at hj; exact hj]
   exact h
  ·rw [h1] at hj
   exact runeN_high h j hj
theorem wrs_append (a b : List UInt8) : wrs (a ++ b) = wrs a ++ wrs b := by simp [wrs]
theorem wrs_high : ∀ {l : List UInt8}, (∀ c ∈ l, 128 ≤ c.toNat) → wrs l = l
 | [], _ => rfl
 | c :: r, h => by
  have e : wrs (c :: r) = wr c ++ wrs r := by simp [wrs]
  rw [e, wrs_high (fun x hx => h x (by simp [hx])), wr_plain (by have := h c (by simp); omega) (by have := h c (by simp); omega) (by have := h c (by simp); omega)]
  rfl
theorem take_high {l : List UInt8} {n : Nat} (h : ∀ j, j < n → 128 ≤ bt l j) : ∀ c ∈ l.take n, 128 ≤ c.toNat := by
 intro c hc
 obtain ⟨j, hj, rfl⟩ := List.getElem_of_mem hc
 rw [List.length_take] at hj
 have := h j (by omega)
 rw [bt, List.getD_eq_getElem?_getD, List.getElem?_eq_getElem (by omega)] at this
 simpa using this
def qF : Int → Option Int := era letF 47
theorem qF_some {c : UInt8} {v : Int} (h : qF c.toNat = some v) : 0 ≤ v ∧ v ≤ 127 ∧ wr c = [92, v.toNat.toUInt8] := by
 unfold qF era letF at h
 unfold wr
 repeat' split at h
 all_goals (first | (cases h; done) | (injection h with h; subst h; refine ⟨by omega, by omega, ?_⟩))
 all_goals (first
  | (rw [if_pos (by omega)]; rfl)
  | (rw [if_neg (by omega), if_pos (by omega)]; rfl)
  | (rw [if_neg (by omega), if_neg (by omega), if_pos (by omega)]; rfl)
  | (rw [if_neg (by omega), if_neg (by omega), if_neg (by omega), if_pos (by omega)]; rfl)
  | (rw [if_neg (by omega), if_neg (by omega), if_neg (by omega), if_neg (by omega), if_pos (by omega)]; rfl)
  | (rw [if_neg (by omega), if_neg (by omega), if_neg (by omega), if_neg (by omega), if_neg (by omega), if_pos (by omega)]; rfl)
  | (rw [if_neg (by omega), if_neg (by omega), if_neg (by omega), if_neg (by omega), if_neg (by omega), if_neg (by omega), if_pos (by omega)]; rfl))
theorem qF_none {c : Nat} (h : qF c = none) : c ≠ 34 ∧ c ≠ 92 ∧ c ≠ 8 ∧ c ≠ 12 ∧ c ≠ 10 ∧ c ≠ 13 ∧ c ≠ 9 := by
 refine ⟨?_, ?_, ?_, ?_, ?_, ?_, ?_⟩ <;> (rintro rfl; revert h; decide)
theorem qF_high {r : Int} (h : 128 ≤ r) : qF r = none := by
 unfold qF era letF
 repeat' split
 all_goals first | rfl | omega
theorem wr_low {c : UInt8} (h : qF c.toNat = none) (hl : c.toNat < 32) : wr c = [92, 117, 48, 48, hx (c.toNat / 16), hx (c.toNat % 16)] := by
 obtain ⟨h0, h1, h2, h3, h4, h5, h6⟩ := qF_none h
 unfold wr
 rw [if_neg h0, if_neg h1, if_neg h2, if_neg h3, if_neg h4, if_neg h5, if_neg h6, if_pos hl]
def Qi (l out : List UInt8) (frm pos : Nat) : Prop := frm ≤ pos ∧ out = 34 :: wrs (l.take frm) ∧ wrs ((l.drop frm).take (pos - frm)) = (l.drop frm).take (pos - frm)
theorem cut_take (l : List UInt8) {a b : Nat} (h : a ≤ b) : l.take b = l.take a ++ (l.drop a).take (b - a) := by
 rw [← List.take_add]; congr 1; omega
theorem Qi.more {l out : List UInt8} {frm pos n : Nat} (h : Qi l out frm pos) (hn : wrs ((l.drop pos).take n) = (l.drop pos).take n) : Qi l out frm (pos + n) := by
 obtain ⟨h1, h2, h3⟩ := h
 refine ⟨by omega, h2, ?_⟩
 have e : (l.drop frm).take (pos + n - frm) = (l.drop frm).take (pos - frm) ++ (l.drop pos).take n := by
  rw [show pos + n - frm = (pos - frm) + n by omega, List.take_add, List.drop_drop, show frm + (pos - frm) = pos by omega]
 rw [e, wrs_append, h3, hn]
theorem Qi.esc {l out : List UInt8} {frm pos : Nat} (h : Qi l out frm pos) (hp : pos < l.length) : Qi l (out ++ (l.drop frm).take (pos - frm) ++ wr l[pos]) (pos + 1) (pos + 1) := by
 obtain ⟨h1, h2, h3⟩ := h
 refine ⟨Nat.le_refl _, ?_, by rw [Nat.sub_self]; rfl⟩
 rw [List.take_succ_eq_append_getElem hp, wrs_append, cut_take l h1, wrs_append, h3, h2]
 simp [wrs]
theorem Qi.done {l out : List UInt8} {frm pos : Nat} (h : Qi l out frm pos) (hp : l.length ≤ pos) : out ++ l.drop frm ++ [34] = quo l := by
 obtain ⟨h1, h2, h3⟩ := h
 have e : (l.drop frm).take (pos - frm) = l.drop frm := List.take_of_length_le (by rw [List.length_drop]; omega)
 rw [e] at h3
 have e2 : wrs l = wrs (l.take frm) ++ l.drop frm := by
  conv => lhs; rw [← List.take_append_drop frm l]
  rw [wrs_append, h3]
 rw [quo, e2, h2]
 simp
theorem Qi.len {l out : List UInt8} {frm pos : Nat} (h : Qi l out frm pos) : out.length ≤ 1 + 6 * frm := by
 rw [h.2.1, List.length_cons]
 have := (wrs_len (l.take frm)).2
 rw [List.length_take] at this
 omega
theorem BuilderAtF_kept {T e : TypeId} {B b : Nat} {p : Value} {bs : List Value} {w w' : World} (h : Lib.BuilderAtF T e B b p bs w) (hb : Below w.heap.size w w') : Lib.BuilderAtF T e B b p bs w' := by
 obtain ⟨hB, v, hbk, hown, hne⟩ := h
 have hlt : ∀ {k : Nat} {o : Obj}, w.heap[k]? = some o → w'.heap[k]? = some o := by
  intro k o hk
  exact (hb.block k (Array.getElem?_eq_some_iff.1 hk).1).trans hk
 refine ⟨hB, v, hlt hbk, ⟨hown.1, ?_⟩, hne⟩
 rcases hown.2 with hn | ⟨g, cap, cur, fz, hv, hbg, hg, rest⟩
 ·exact .inl hn
 ·exact .inr ⟨g, cap, cur, fz, hv, hbg, hlt hg, rest⟩
theorem IsB_kept {B b : Nat} {l : List UInt8} {w w' : World} (h : IsB B b l w) (hb : Below w.heap.size w w') : IsB B b l w' :=
 h.elim (fun x => .inl (BuilderAtF_kept x hb)) (fun x => .inr (BuilderAtF_kept x hb))
theorem iter_kept {k : Nat} {s : ByteArray} {pos : Nat} {w w' : World} (h : w.heap[k]? = some (.stringIter s pos)) (hb : Below w.heap.size w w') : w'.heap[k]? = some (.stringIter s pos) :=
 (hb.block k (Array.getElem?_eq_some_iff.1 h).1).trans h
theorem IsB_lt {B b : Nat} {l : List UInt8} {w : World} (h : IsB B b l w) : b < w.heap.size := by
 rcases h with ⟨_, v, hbk, _⟩ | ⟨_, v, hbk, _⟩ <;> exact (Array.getElem?_eq_some_iff.1 hbk).1
theorem ext_cells (s : ByteArray) (i j : Nat) : Lib.strCells (s.extract i j) = Lib.byteCells ((s.data.toList.drop i).take (j - i)) := by
 have h := Lib.extract_toList s i j
 rw [ByteArray.toList_eq] at h
 rw [Lib.strCells_eq, h]
theorem byteCells_one (n : Nat) (h : n < 256) : Lib.byteCells [n.toUInt8] = [.int .u8 n] := by
 simp [Lib.byteCells, Nat.mod_eq_of_lt h]
theorem rune_cells {v : Int} (h0 : 0 ≤ v) (h1 : v ≤ 127) : Lib.runeCells v = Lib.byteCells [v.toNat.toUInt8] := by
 rw [byteCells_one _ (by omega), Lib.runeCells, Lib.encodeRuneZ_one h0 h1]
 simp [Int.toNat_of_nonneg h0]
theorem quote_any (s : ByteArray) (w : World) (hs : s.size ≤ 1073741824) :
  Calls Tryz.prog 194 #[.string s] w fun e w' => e = .returned (.string ⟨(quo s.data.toList).toArray⟩) ∧ Below w.heap.size w w' := by
 go_enter Tryz.func194, Tryz.ntmps194
 go_wp2_with fail
 refine (letters_any _).mono ?_
 rintro e w1 ⟨rfl, ⟨D0, hM, hV⟩, hb1⟩
 go_wp2_with (at_delete; refine wpList_delete_own _ rfl _ _ 226 21 rfl 21 lawI Tryz.underlying226 _ w.heap.size 8 D0 rfl hM _ _ rfl (keyOf_int_mk Tryz.underlying21 (by decide)) ?_; intro w2 hM2 hturn)
 have hb2 : Below w.heap.size w w2 := hb1.grown hturn.grown hb1.size (fun j hj => by cases hj; exact Nat.le_refl _)
 have hV2 : Vw (D0.del (key 47)) qF := hV.del 47
 have hmb := hM2.lt
 clear hV hM hb1 hturn
 generalize D0.del (key 47) = D at hM2 hV2
 have hwb := hb2.size
 generalize hm : w.heap.size = m at *
 generalize hbk : w2.heap.size = b at *
 have hMB : ∀ W, Below b w2 W → W.ownsMap Tryz.prog 21 (plainElem Tryz.prog 21) m 8 D := by
  intro W hW
  obtain ⟨es, clock, h1, h2⟩ := hM2
  exact ⟨es, clock, (hW.block m hmb).trans h1, h2⟩
 have hfresh : IsB b b [] (w2.alloc (.cells #[.pointer none, .slice none 0 0] 225)) := by
  have := Lib.IsBuilderF.of (Lib.fresh_isBuilder 225 5 w2)
  rw [hbk] at this
  exact this
 have hba : Below b w2 (w2.alloc (.cells #[.pointer none, .slice none 0 0] 225)) := (Below.refl _ _).alloc (by omega) _
 refine (Tryz.writeByte b b _ 34 _ hfresh (by rw [Lib.byteCells_length]; decide) (by simp; omega)).mono ?_
 rintro e w3 ⟨rfl, hq1, hb3, hk3⟩
 have hI3 : IsB b b [34] w3 := .inr hq1
 have hB3 : Below b w2 w3 := hba.trans hb3
 have hs3 : b < w3.heap.size := by have := hb3.size; simp at this; omega
 clear hq1 hb3 hk3 hba hfresh
 go_wp2
 generalize hK : w3.heap.size = K at *
 go_loopw [5] (fun u wr => ∃ (frm pos : Nat) (out : List UInt8), u = .int .i64 frm ∧ IsB b b out wr ∧ wr.heap[K]? = some (.stringIter s pos) ∧ Below b w2 wr ∧ pos ≤ s.size ∧ frm ≤ pos ∧ out.length ≤ 1 + 6 * frm ∧ Hid (Qi s.data.toList out frm pos)) (fun _ wr => s.size - wr.iterPos K)
 case atStart =>
  refine ⟨0, 0, [34], rfl, hI3.alloc _, ?_, hB3.alloc (by omega) _, by omega, by omega, by simp, Lib.hid ⟨by omega, rfl, rfl⟩⟩
  have := World.iter_heap w3 s 0
  rw [hK] at this
  simpa using this
 case round =>
  obtain ⟨frm, pos, out, rfl, hI, hit, hbw, hpl, hfp, hol, HQ⟩ := hrel
  have hIlt := IsB_lt hI
  by_cases hp : pos < s.size
  ·have hnx : ∀ ty, (Instr.next (.pointer (some ⟨K, 0, none⟩)) true ty).run Tryz.prog wr = _ := fun ty => Lib.run_next_any_at wr K s pos ty hit hp
   have hne := drop_ne s pos hp
   have hbp : bt (s.data.toList.drop pos) 0 = s[pos].toNat := by
    have := bt_at' s pos 0 (by omega); simpa using this
   by_cases hlo : s[pos].toNat < 128
   ·have hdl := dec_low (l := s.data.toList.drop pos) (by omega)
    rw [hbp] at hdl
    rw [dec_at, hdl] at hnx
    simp only at hnx
    have hI2 := hI.iterAt hit (pos + 1)
    have hit2 := Lib.iterAt_heap wr K s pos (pos + 1) hit
    have hbw2 := Lib.below_iterAt hbw (k := K) (by omega) s (pos + 1)
    have hsz2 : b ≤ (wr.iterAt K s (pos + 1)).heap.size := by rw [Lib.iterAt_size]; omega
    have hM3 := hMB _ hbw2
    have hwf : (Lit.int .i32 (s[pos].toNat : Int)).wf = true := i32_wf (by omega) (by omega)
    have hhas := (hV2.2 (s[pos].toNat : Int)).1
    have hgp : s.data.toList[pos]'(by rw [size_toList]; exact hp) = s[pos] := rfl
    clear hne hbp hdl
    cases hq : qF (s[pos].toNat : Int) with
    | some v =>
     obtain ⟨v0, v1, hwr⟩ := qF_some hq
     rw [hq] at hhas
     have HH : Hid (has D (key (s[pos].toNat : Int)) = true) := Lib.hid hhas
     have HV := Lib.hid hV2
     have HBL := Lib.hid hq
     have HN : Hid (Qi s.data.toList (out ++ (s.data.toList.drop frm).take (pos - frm) ++ [92, v.toNat.toUInt8]) (pos + 1) (pos + 1)) := Lib.hid (by
      have := HQ.out.esc (by rw [size_toList]; exact hp)
      rw [hgp, hwr] at this
      exact this)
     have hln := HN.out.len
     clear hhas hq hwr HQ hgp
     go_wp2_with ((at_lookup; refine wpList_lookup_own_ok_int _ rfl _ _ 226 rfl 21 21 .i32 lawI Tryz.underlying226 Tryz.underlying21 (zeroI _) m 8 D rfl hM3 _ _ rfl (keyOf_int_mk Tryz.underlying21 hwf) ?_; intro c hat hwc; rw [HH.out]; obtain rfl := (HV.out.hit HBL.out hat).symm; clear hat hwc))
     refine (Tryz.writeString b b _ _ _ hI2 (by rw [Lib.byteCells_length, ByteArray.size_extract]; omega) hsz2).mono ?_
     rintro e w4 ⟨rfl, h4, b4, k4⟩
     rw [ext_cells, ← Lib.byteCells_append] at h4
     have hsz4 := Nat.le_trans hsz2 b4.size
     have hit4 := k4.iter hit2 (by omega)
     clear k4
     go_wp2_with fail
     refine (Tryz.writeByte b b _ 92 _ (.inr h4) (by rw [Lib.byteCells_length, List.length_append, List.length_take]; omega) hsz4).mono ?_
     rintro e w5 ⟨rfl, h5, b5, k5⟩
     have hsz5 := Nat.le_trans hsz4 b5.size
     have hit5 := k5.iter hit4 (by omega)
     rw [show ([.int .u8 92] : List Value) = Lib.byteCells [92] from rfl, ← Lib.byteCells_append] at h5
     clear k5
     go_wp2_with fail
     refine (Tryz.writeRune b b _ _ (by omega) (by omega) _ (.inr h5) (by rw [Lib.byteCells_length, List.length_append, List.length_append, List.length_take, List.length_singleton]; omega) hsz5).mono ?_
     rintro e w6 ⟨rfl, h6, b6, k6⟩
     have hit6 := k6.iter hit5 (by omega)
     rw [rune_cells v0 v1, ← Lib.byteCells_append] at h6
     clear k6
     go_wp2_with fail
     go_roundw
     case rel =>
      refine ⟨pos + 1, pos + 1, _, by go_num, .inr ?_, hit6, ((hbw2.trans b4).trans b5).trans b6, by omega, Nat.le_refl _, hln, HN⟩
      have e : out ++ (s.data.toList.drop frm).take (pos - frm) ++ [92, v.toNat.toUInt8] = out ++ (s.data.toList.drop frm).take (pos - frm) ++ [92] ++ [v.toNat.toUInt8] := by simp
      rw [e]
      exact h6
     case measure =>
      simp only [World.iterPos, hit6, hit]
      omega
    | none =>
     rw [hq] at hhas
     have HH : Hid (has D (key (s[pos].toNat : Int)) = false) := Lib.hid hhas
     by_cases h32 : s[pos].toNat < 32
     ·have hwr := wr_low hq h32
      have HN : Hid (Qi s.data.toList (out ++ (s.data.toList.drop frm).take (pos - frm) ++ [92, 117, 48, 48, hx (s[pos].toNat / 16), hx (s[pos].toNat % 16)]) (pos + 1) (pos + 1)) := Lib.hid (by
       have := HQ.out.esc (by rw [size_toList]; exact hp)
       rw [hgp, hwr] at this
       exact this)
      have hln := HN.out.len
      clear hhas hq hwr HQ hgp
      go_wp2_with ((at_lookup; refine wpList_lookup_own_ok_int _ rfl _ _ 226 rfl 21 21 .i32 lawI Tryz.underlying226 Tryz.underlying21 (zeroI _) m 8 D rfl hM3 _ _ rfl (keyOf_int_mk Tryz.underlying21 hwf) ?_; intro c hat hwc; rw [HH.out]; clear hat hwc))
      refine (Tryz.writeString b b _ _ _ hI2 (by rw [Lib.byteCells_length, ByteArray.size_extract]; omega) hsz2).mono ?_
      rintro e w4 ⟨rfl, h4, b4, k4⟩
      rw [ext_cells, ← Lib.byteCells_append] at h4
      have hsz4 := Nat.le_trans hsz2 b4.size
      have hit4 := k4.iter hit2 (by omega)
      clear k4
      go_wp2_with fail
      refine (long_any _ _ h32).mono ?_
      rintro e w5 ⟨rfl, b5⟩
      have hI5 := IsB_kept (.inr h4) b5
      have hit5 := iter_kept hit4 b5
      have hb5 := (hbw2.trans b4).trans (b5.mono hsz4)
      have hsz5 := Nat.le_trans hsz4 b5.size
      go_wp2_with fail
      refine (Tryz.writeString b b _ _ _ hI5 (by rw [Lib.byteCells_length, List.length_append, List.length_take, mk_size]; simp; omega) hsz5).mono ?_
      rintro e w6 ⟨rfl, h6, b6, k6⟩
      have hit6 := k6.iter hit5 (by omega)
      rw [Lib.strCells_eq, mk_data, ← Lib.byteCells_append] at h6
      clear k6
      go_wp2_with fail
      go_roundw
      case rel =>
       exact ⟨pos + 1, pos + 1, _, by go_num, .inr h6, hit6, hb5.trans b6, by omega, Nat.le_refl _, hln, HN⟩
      case measure =>
       simp only [World.iterPos, hit6, hit]
       omega
     ·have hge : (32 : Int) ≤ (s[pos].toNat : Int) := by omega
      have HN : Hid (Qi s.data.toList out frm (pos + 1)) := Lib.hid (HQ.out.more (by
       rw [List.drop_eq_getElem_cons (by rw [size_toList]; exact hp), hgp]
       obtain ⟨n0, n1, -⟩ := qF_none hq
       show wrs [s[pos]] = [s[pos]]
       simp only [wrs, List.flatMap_cons, List.flatMap_nil, List.append_nil]
       exact wr_plain n0 n1 (by omega)))
      clear hhas hq HQ hgp h32
      go_wp2_with ((at_lookup; refine wpList_lookup_own_ok_int _ rfl _ _ 226 rfl 21 21 .i32 lawI Tryz.underlying226 Tryz.underlying21 (zeroI _) m 8 D rfl hM3 _ _ rfl (keyOf_int_mk Tryz.underlying21 hwf) ?_; intro c hat hwc; rw [HH.out]; clear hat hwc))
      go_roundw
      case rel =>
       exact ⟨frm, pos + 1, out, rfl, hI2, hit2, hbw2, by omega, by omega, hol, HN⟩
      case measure =>
       simp only [World.iterPos, hit2, hit]
       omega
   ·have hdh := dec_high hne (by rw [hbp]; omega)
    have hwd := dec_width _ hne
    rw [List.length_drop, size_toList] at hwd
    rw [dec_at] at hnx
    generalize hD : Lib.decodeL (s.data.toList.drop pos) = Dc at hnx hdh hwd
    obtain ⟨r, n⟩ := Dc
    simp only at hnx hdh hwd
    have hrl : r ≤ 1114111 := by have := Lib.decodeL_rune (s.data.toList.drop pos); rw [hD] at this; exact this
    have hI2 := hI.iterAt hit (pos + n)
    have hit2 := Lib.iterAt_heap wr K s pos (pos + n) hit
    have hbw2 := Lib.below_iterAt hbw (k := K) (by omega) s (pos + n)
    have hM3 := hMB _ hbw2
    have hwf : (Lit.int .i32 (r : Int)).wf = true := i32_wf (by omega) (by omega)
    have hhas := (hV2.2 (r : Int)).1
    rw [qF_high (by omega)] at hhas
    have HH : Hid (has D (key (r : Int)) = false) := Lib.hid hhas
    have hge : (32 : Int) ≤ (r : Int) := by omega
    have HN : Hid (Qi s.data.toList out frm (pos + n)) := Lib.hid (HQ.out.more (wrs_high (take_high hdh.2)))
    obtain ⟨hn1, hn2⟩ := hwd
    clear hdh hhas hne hbp hlo hD HQ hrl
    go_wp2_with ((at_lookup; refine wpList_lookup_own_ok_int _ rfl _ _ 226 rfl 21 21 .i32 lawI Tryz.underlying226 Tryz.underlying21 (zeroI _) m 8 D rfl hM3 _ _ rfl (keyOf_int_mk Tryz.underlying21 hwf) ?_; intro c hat hwc; rw [HH.out]; clear hat hwc))
    go_roundw
    case rel =>
     exact ⟨frm, pos + n, out, rfl, hI2, hit2, hbw2, by omega, by omega, hol, HN⟩
    case measure =>
     simp only [World.iterPos, hit2, hit]
     omega
  ·have hnx : ∀ ty, (Instr.next (.pointer (some ⟨K, 0, none⟩)) true ty).run Tryz.prog wr = _ := fun ty => Lib.run_next_end_at wr K s pos ty hit hp
   have HN : Hid (out ++ s.data.toList.drop frm ++ [34] = quo s.data.toList) := Lib.hid (HQ.out.done (by rw [size_toList]; omega))
   have hszr : b ≤ wr.heap.size := by omega
   clear HQ
   go_wp2_with fail
   refine (Tryz.writeString b b _ _ _ hI (by rw [Lib.byteCells_length, ByteArray.size_extract]; omega) hszr).mono ?_
   rintro e w4 ⟨rfl, h4, b4, k4⟩
   rw [Lib.strCells_eq, ext_end, ← Lib.byteCells_append] at h4
   have hsz4 := Nat.le_trans hszr b4.size
   clear k4
   go_wp2_with fail
   refine (Tryz.writeByte b b _ 34 _ (.inr h4) (by rw [Lib.byteCells_length, List.length_append, List.length_drop, size_toList]; omega) hsz4).mono ?_
   rintro e w5 ⟨rfl, h5, b5, k5⟩
   have hsz5 := Nat.le_trans hsz4 b5.size
   rw [show ([.int .u8 34] : List Value) = Lib.byteCells [34] from rfl, ← Lib.byteCells_append, HN.out] at h5
   clear k5
   go_wp2_with fail
   refine (Tryz.Builder_String_any_k b b _ _ (.inr h5) hsz5).mono ?_
   rintro e w6 ⟨rfl, _, b6, _⟩
   go_wp2_with fail
   go_ret
   exact ⟨rfl, by rw [hm]; exact hb2.trans ((((hbw.trans b4).trans b5).trans b6).mono hwb)⟩
end
section
namespace Qp
open Go.RowKit Np Up
theorem valid_append : ∀ (n : Nat) (a b : List UInt8), a.length ≤ n → Lib.validD a = true → Lib.validD (a ++ b) = Lib.validD b
 | 0, a, b, hn, _ => by
  have : a = [] := List.eq_nil_of_length_eq_zero (by omega)
  subst this
  rfl
 | n + 1, a, b, hn, ha => by
  by_cases hl : a = []
  ·subst hl; rfl
  have hp : 0 < a.length := List.length_pos_iff.2 hl
  have hs := valid_step a hl
  rw [ha] at hs
  by_cases h0 : runeN a = 0
  ·rw [if_pos h0] at hs; cases hs
  rw [if_neg h0] at hs
  have hle := runeN_le a hl
  rw [valid_step (a ++ b) (by simp [hl]), runeN_append b hl h0, if_neg h0, List.drop_append_of_le_length hle]
  exact valid_append n _ b (by rw [List.length_drop]; omega) hs.symm
theorem valid_app {a : List UInt8} (b : List UInt8) (h : Lib.validD a = true) : Lib.validD (a ++ b) = Lib.validD b := valid_append _ a b (Nat.le_refl _) h
theorem valid_take {l : List UInt8} (hl : l ≠ []) (h : runeN l ≠ 0) : Lib.validD (l.take (runeN l)) = true := by
 have hle := runeN_le l hl
 have hne : l.take (runeN l) ≠ [] := by
  intro e
  have := congrArg List.length e
  rw [List.length_take, List.length_nil] at this
  omega
 rw [valid_step _ hne, runeN_take h, if_neg h, List.drop_of_length_le (by rw [List.length_take]; omega)]
 rfl
theorem u8_nat {x : Nat} (h : x < 256) : x.toUInt8.toNat = x := by simp [Nat.mod_eq_of_lt h]
theorem enc_one {n : Nat} (h : n < 128) : Lib.encodeRune (n : Int) = [n.toUInt8] := by
 rw [Lib.encodeRune, Lib.encodeRuneZ_one (by omega) (by omega)]; rfl
theorem enc_two {n : Nat} (h : 128 ≤ n) (h1 : n < 2048) : Lib.encodeRune (n : Int) = [(192 + n / 64).toUInt8, (128 + n % 64).toUInt8] := by
 rw [Lib.encodeRune, Lib.encodeRuneZ_two (by omega) (by omega)]; rfl
theorem enc_three {n : Nat} (h : 2048 ≤ n) (h1 : n < 65536) (hr : n < 55296 ∨ 57344 ≤ n) : Lib.encodeRune (n : Int) = [(224 + n / 4096).toUInt8, (128 + n / 64 % 64).toUInt8, (128 + n % 64).toUInt8] := by
 rw [Lib.encodeRune, Lib.encodeRuneZ_three (by omega)]; rfl
theorem enc_four {n : Nat} (h : 65536 ≤ n) (h1 : n ≤ 1114111) : Lib.encodeRune (n : Int) = [(240 + n / 262144).toUInt8, (128 + n / 4096 % 64).toUInt8, (128 + n / 64 % 64).toUInt8, (128 + n % 64).toUInt8] := by
 rw [Lib.encodeRune, Lib.encodeRuneZ_four (by omega) (by omega)]; rfl
theorem ct_of {l : List UInt8} {k : Nat} (h : k < l.length) (h0 : 128 ≤ bt l k) (h1 : bt l k < 192) : ct l k = true := by
 rw [ct_iff]; exact ⟨h, by omega⟩
theorem enc_rune {n : Nat} (h : ru n) : runeN (Lib.encodeRune (n : Int)) = (Lib.encodeRune (n : Int)).length := by
 unfold ru at h
 by_cases c1 : n < 128
 ·rw [enc_one c1]
  exact runeN_one (by rw [bt_cons, u8_nat (by omega)]; omega)
 by_cases c2 : n < 2048
 ·rw [enc_two (by omega) c2]
  have e0 : bt [(192 + n / 64).toUInt8, (128 + n % 64).toUInt8] 0 = 192 + n / 64 := by rw [bt_cons, u8_nat (by omega)]
  have e1 : bt [(192 + n / 64).toUInt8, (128 + n % 64).toUInt8] 1 = 128 + n % 64 := by rw [bt_succ, bt_cons, u8_nat (by omega)]
  exact runeN_two (by omega) (by omega) (ct_of (by simp) (by omega) (by omega))
 by_cases c3 : n < 65536
 ·rw [enc_three (by omega) c3 (by omega)]
  generalize hl : [(224 + n / 4096).toUInt8, (128 + n / 64 % 64).toUInt8, (128 + n % 64).toUInt8] = l
  have e0 : bt l 0 = 224 + n / 4096 := by rw [← hl, bt_cons, u8_nat (by omega)]
  have e1 : bt l 1 = 128 + n / 64 % 64 := by rw [← hl, bt_succ, bt_cons, u8_nat (by omega)]
  have e2 : bt l 2 = 128 + n % 64 := by rw [← hl, bt_succ, bt_succ, bt_cons, u8_nat (by omega)]
  have el : l.length = 3 := by rw [← hl]; rfl
  rw [el]
  exact runeN_three (by omega) (by omega) (ct_of (by omega) (by omega) (by omega)) (ct_of (by omega) (by omega) (by omega)) (by omega)
 ·rw [enc_four (by omega) (by omega)]
  generalize hl : [(240 + n / 262144).toUInt8, (128 + n / 4096 % 64).toUInt8, (128 + n / 64 % 64).toUInt8, (128 + n % 64).toUInt8] = l
  have e0 : bt l 0 = 240 + n / 262144 := by rw [← hl, bt_cons, u8_nat (by omega)]
  have e1 : bt l 1 = 128 + n / 4096 % 64 := by rw [← hl, bt_succ, bt_cons, u8_nat (by omega)]
  have e2 : bt l 2 = 128 + n / 64 % 64 := by rw [← hl, bt_succ, bt_succ, bt_cons, u8_nat (by omega)]
  have e3 : bt l 3 = 128 + n % 64 := by rw [← hl, bt_succ, bt_succ, bt_succ, bt_cons, u8_nat (by omega)]
  have el : l.length = 4 := by rw [← hl]; rfl
  rw [el]
  exact runeN_four (by omega) (by omega) (ct_of (by omega) (by omega) (by omega)) (ct_of (by omega) (by omega) (by omega)) (ct_of (by omega) (by omega) (by omega)) (by omega)
theorem enc_ne (r : Int) : Lib.encodeRune r ≠ [] := by
 intro e
 have h := congrArg List.length e
 rw [Lib.encodeRune, List.length_map, List.length_nil] at h
 have := (Lib.encodeRuneZ_length r).1
 omega
theorem enc_valid {n : Nat} (h : ru n) : Lib.validD (Lib.encodeRune (n : Int)) = true := by
 have h1 := enc_rune h
 have h2 := List.length_pos_iff.2 (enc_ne (n : Int))
 rw [valid_step _ (enc_ne _), if_neg (by omega), h1, List.drop_of_length_le (Nat.le_refl _)]
 rfl
theorem enc_high {n : Nat} (h : ru n) (h1 : 128 ≤ n) : wrs (Lib.encodeRune (n : Int)) = Lib.encodeRune (n : Int) := by
 have hr := enc_rune h
 have hb : 128 ≤ bt (Lib.encodeRune (n : Int)) 0 := by
  rcases Nat.lt_or_ge (bt (Lib.encodeRune (n : Int)) 0) 128 with hb | hb
  ·exfalso
   have h3 := runeN_one hb
   rw [hr] at h3
   unfold ru at h
   by_cases c2 : n < 2048
   ·rw [enc_two h1 c2] at h3; cases h3
   by_cases c3 : n < 65536
   ·rw [enc_three (by omega) c3 (by omega)] at h3; cases h3
   ·rw [enc_four (by omega) (by omega)] at h3; cases h3
  ·exact hb
 apply wrs_high
 have h4 := take_high (fun j hj => runeN_high hb j hj)
 rw [hr, List.take_length] at h4
 exact h4
theorem enc_max (r : Int) : (Lib.encodeRune r).length ≤ 4 := by
 rw [Lib.encodeRune, List.length_map]
 exact (Lib.encodeRuneZ_length r).2
theorem sh_wrs {c x : Nat} (h : sh c = some x) : (wrs (Lib.encodeRune (x : Int))).length ≤ 2 := by
 unfold sh at h
 repeat' split at h
 all_goals first
  | (cases h; done)
  | (injection h with h; subst h; decide +kernel)
theorem tk_good {l p : List UInt8} {m : Nat} (hl : l ≠ []) (hb : bt l 0 ≠ 34) (h : tk l = some (p, m)) : Lib.validD p = true ∧ p.length ≤ m ∧ (wrs p).length ≤ m := by
 unfold tk at h
 split at h
 ·cases he : es l with
  | none => rw [he] at h; cases h
  | some x =>
   obtain ⟨r, k⟩ := x
   rw [he] at h
   simp at h
   obtain ⟨h1, h2⟩ := h
   subst h1 h2
   obtain ⟨_, hr, hk, _⟩ := es_some he
   have hv := enc_valid hr
   rcases hk with ⟨rfl, hs⟩ | ⟨rfl, hs⟩ | ⟨rfl, hs⟩
   ·have h3 := sh_wrs hs
    have h4 := (wrs_len (Lib.encodeRune (r : Int))).1
    exact ⟨hv, by omega, h3⟩
   ·by_cases c : r < 128
    ·rw [enc_one c]
     have h5 := (wrs_len [r.toUInt8]).2
     exact ⟨by rw [← enc_one c]; exact hv, by simp, by simpa using h5⟩
    ·have h4 := enc_max (r : Int)
     exact ⟨hv, by omega, by rw [enc_high hr (by omega)]; omega⟩
   ·have h4 := enc_max (r : Int)
    exact ⟨hv, by omega, by rw [enc_high hr (by omega)]; omega⟩
 ·rename_i h92
  split at h
  ·cases h
  ·rename_i h32
   injection h with h
   injection h with e1 e2
   subst e1
   have hn : runeN l ≠ 0 := fun e => h32 (.inr e)
   have hv := valid_take hl hn
   subst e2
   have hlen : (l.take (runeN l)).length ≤ runeN l := by rw [List.length_take]; omega
   refine ⟨hv, hlen, ?_⟩
   by_cases c : bt l 0 < 128
   ·have h1 := runeN_one c
    obtain ⟨a, t, rfl⟩ : ∃ a t, l = a :: t := by
     cases l with
     | nil => exact absurd rfl hl
     | cons a t => exact ⟨a, t, rfl⟩
    rw [bt_cons] at c hb h92 h32
    have h5 : wrs [a] = [a] := by
     simp only [wrs, List.flatMap_cons, List.flatMap_nil, List.append_nil]
     exact wr_plain hb h92 (by omega)
    rw [h1]
    show (wrs [a]).length ≤ 1
    rw [h5]
    simp
   ·rw [wrs_high (take_high (fun j hj => runeN_high (by omega) j hj))]
    exact hlen
theorem unq_good : ∀ (f : Nat) (out l : List UInt8) (i n : Nat) (x : List UInt8), l.length ≤ f → unq out l i = (x, n, 0) →
  ∃ y, x = out ++ y ∧ Lib.validD y = true ∧ y.length + 1 + i ≤ n ∧ (wrs y).length + 1 + i ≤ n ∧ n ≤ i + l.length
 | 0, out, l, i, n, x, hf, h => by
  have : l = [] := List.eq_nil_of_length_eq_zero (by omega)
  subst this
  rw [unq_nil] at h
  injection h with _ h
  injection h with _ h
  cases h
 | f + 1, out, l, i, n, x, hf, h => by
  by_cases hl : l = []
  ·subst hl
   rw [unq_nil] at h
   injection h with _ h
   injection h with _ h
   cases h
  have hp : 0 < l.length := List.length_pos_iff.2 hl
  by_cases hb : bt l 0 = 34
  ·rw [unq_mark _ _ hb] at h
   injection h with h1 h
   injection h with h2 _
   subst h1 h2
   exact ⟨[], by simp, rfl, by simp; omega, by simp [wrs]; omega, by omega⟩
  cases ht : tk l with
  | none =>
   rw [unq_bad _ _ hb ht] at h
   injection h with _ h
   injection h with _ h
   cases h
  | some q =>
   obtain ⟨p, m⟩ := q
   rw [unq_step _ _ hl hb ht] at h
   obtain ⟨hm1, hm2⟩ := tk_some hl ht
   obtain ⟨g1, g2, g3⟩ := tk_good hl hb ht
   obtain ⟨y, y1, y2, y3, y4, y5⟩ := unq_good f _ _ _ _ _ (by rw [List.length_drop]; omega) h
   rw [List.length_drop] at y5
   refine ⟨p ++ y, by rw [y1, List.append_assoc], by rw [valid_app y g1]; exact y2, by rw [List.length_append]; omega, by rw [wrs_append, List.length_append]; omega, by omega⟩
theorem wr_all : ∀ c : Fin 128, tk (wr (UInt8.ofNat c.val)) = some ([UInt8.ofNat c.val], (wr (UInt8.ofNat c.val)).length) ∧ bt (wr (UInt8.ofNat c.val)) 0 ≠ 34 := by decide +kernel
theorem tk_wr {c : UInt8} (h : c.toNat < 128) (t : List UInt8) : tk (wr c ++ t) = some ([c], (wr c).length) ∧ bt (wr c ++ t) 0 ≠ 34 := by
 have h1 := wr_all ⟨c.toNat, h⟩
 simp only [UInt8.ofNat_toNat] at h1
 have hp := (wr_len c).1
 exact ⟨tk_append t (List.length_pos_iff.1 hp) h1.1, by rw [bt_append t hp]; exact h1.2⟩
theorem unq_quo : ∀ (f : Nat) (s out t : List UInt8) (i : Nat), s.length ≤ f → Lib.validD s = true → unq out (wrs s ++ 34 :: t) i = (out ++ s, i + (wrs s).length + 1, 0)
 | 0, s, out, t, i, hf, hv => by
  have : s = [] := List.eq_nil_of_length_eq_zero (by omega)
  subst this
  show unq out (34 :: t) i = _
  rw [unq_mark _ _ (by rw [bt_cons]; decide)]
  simp [wrs]
 | f + 1, s, out, t, i, hf, hv => by
  by_cases hl : s = []
  ·subst hl
   show unq out (34 :: t) i = _
   rw [unq_mark _ _ (by rw [bt_cons]; decide)]
   simp [wrs]
  have hp : 0 < s.length := List.length_pos_iff.2 hl
  have hs := valid_step s hl
  rw [hv] at hs
  by_cases h0 : runeN s = 0
  ·rw [if_pos h0] at hs; cases hs
  rw [if_neg h0] at hs
  have hle := runeN_le s hl
  by_cases c : bt s 0 < 128
  ·obtain ⟨a, r, rfl⟩ : ∃ a r, s = a :: r := by
    cases s with
    | nil => exact absurd rfl hl
    | cons a r => exact ⟨a, r, rfl⟩
   rw [runeN_one c] at hs
   rw [bt_cons] at c
   obtain ⟨h1, h2⟩ := tk_wr c (wrs r ++ 34 :: t)
   have e : wrs (a :: r) = wr a ++ wrs r := by simp [wrs]
   have hw := (wr_len a).1
   rw [e, List.append_assoc, unq_step _ _ (by intro h; have := congrArg List.length h; rw [List.length_append, List.length_nil] at this; omega) h2 h1, List.drop_left]
   rw [unq_quo f r (out ++ [a]) t _ (by simpa using hf) hs.symm]
   simp
   omega
  ·have e : wrs s = s.take (runeN s) ++ wrs (s.drop (runeN s)) := by
    conv => lhs; rw [← List.take_append_drop (runeN s) s]
    rw [wrs_append, wrs_high (take_high (fun j hj => runeN_high (by omega) j hj))]
   have hlen : (s.take (runeN s)).length = runeN s := by rw [List.length_take]; omega
   have hb0 : bt (s.take (runeN s)) 0 = bt s 0 := bt_take (by omega)
   have hne : s.take (runeN s) ≠ [] := List.length_pos_iff.1 (by omega)
   have ht : tk (s.take (runeN s)) = some (s.take (runeN s), runeN s) := by
    rw [tk, if_neg (by omega), runeN_take h0, if_neg (by omega), List.take_take, Nat.min_self]
   rw [e, List.append_assoc, unq_step _ _ (by simp [hne]) (by rw [bt_append _ (by omega), hb0]; omega) (tk_append _ hne ht)]
   rw [List.drop_append_of_le_length (by omega), List.drop_of_length_le (by omega), List.nil_append]
   rw [unq_quo f _ (out ++ s.take (runeN s)) t _ (by rw [List.length_drop]; omega) hs.symm]
   rw [List.append_assoc, List.take_append_drop, List.length_append, hlen]
   congr 2
   omega
theorem quo_len (s : List UInt8) : (quo s).length = (wrs s).length + 2 := by simp [quo]
theorem quo_back (s t : List UInt8) (h : Lib.validD s = true) : unqs (quo s ++ t) = (s, (quo s).length, 0) := by
 have e : quo s ++ t = 34 :: (wrs s ++ 34 :: t) := by simp [quo]
 have hb : bt (34 :: (wrs s ++ 34 :: t)) 0 = 34 := rfl
 rw [e, unqs, if_pos hb, List.drop_one, List.tail_cons, unq_quo _ s [] t 1 (Nat.le_refl _) h, quo_len, List.nil_append]
 congr 2
 omega
end Qp
end
section
namespace Np
open Go.RowKit
def worth (l : List UInt8) : Nat := l.foldl (fun n c => 10 * n + (c.toNat - 48)) 0
theorem figs_at {l : List UInt8} {k : Nat} (h : figs l = true) (hk : k < l.length) : fig l[k] = true := by
 rw [figs, List.all_eq_true] at h
 exact h _ (List.getElem_mem hk)
def stands (l : List UInt8) (i : Nat) (c : UInt8) : Bool := l[i]? == some c
def run (l : List UInt8) (i : Nat) : List UInt8 := (l.drop i).takeWhile fig
def i0F (l : List UInt8) : Nat := if stands l 0 45 = true then 1 else 0
def wholeF (l : List UInt8) : List UInt8 := if stands l (i0F l) 48 = true then [] else run l (i0F l)
def i1F (l : List UInt8) : Nat := if stands l (i0F l) 48 = true then i0F l + 1 else i0F l + (run l (i0F l)).length
def bad1 (l : List UInt8) : Bool := !stands l (i0F l) 48 && (run l (i0F l)).isEmpty
def partF (l : List UInt8) : List UInt8 := if stands l (i1F l) 46 = true then run l (i1F l + 1) else []
def i3F (l : List UInt8) : Nat := if stands l (i1F l) 46 = true then i1F l + 1 + (run l (i1F l + 1)).length else i1F l
def bad2 (l : List UInt8) : Bool := stands l (i1F l) 46 && (run l (i1F l + 1)).isEmpty
def exF (l : List UInt8) : Bool := stands l (i3F l) 101 || stands l (i3F l) 69
def plusF (l : List UInt8) : Bool := stands l (i3F l + 1) 43
def lessF (l : List UInt8) : Bool := stands l (i3F l + 1) 45
def downF (l : List UInt8) : Bool := exF l && !plusF l && lessF l
def i5F (l : List UInt8) : Nat := if exF l = true then (if (plusF l || lessF l) = true then i3F l + 2 else i3F l + 1) else i3F l
def powF (l : List UInt8) : List UInt8 := if exF l = true then run l (i5F l) else []
def i6F (l : List UInt8) : Nat := i5F l + (powF l).length
def bad3 (l : List UInt8) : Bool := exF l && (powF l).isEmpty
structure Wr where
 neg : Bool
 whole : List UInt8
 part : List UInt8
 down : Bool
 power : List UInt8
def wr0 : Wr := ⟨false, [], [], false, []⟩
def scanF (l : List UInt8) : Wr × Nat × Bool :=
 if bad1 l = true then (wr0, i0F l, false) else if bad2 l = true then (wr0, i1F l + 1, false) else if bad3 l = true then (wr0, i5F l, false)
 else (⟨stands l 0 45, wholeF l, partF l, downF l, powF l⟩, i6F l, i6F l == l.length)
end Np
end
end Go.Proofs.YtldioobbfkaebaaGreatDoor
