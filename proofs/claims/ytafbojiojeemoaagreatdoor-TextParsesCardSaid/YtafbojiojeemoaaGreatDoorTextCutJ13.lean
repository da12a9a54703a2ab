/-
  Joined: TxJ, TxK, TLaw.
-/
import Derived.Test.YtafbojiojeemoaaGreatDoorTextCutJ12
import Derived.Test.YtafbojiojeemoaaGreatDoorTextCutJ10
import Derived.Test.YtafbojiojeemoaaGreatDoorTie
import Derived.Test.YtafbojiojeemoaaGreatDoorCards
import Derived.ProofKit
import Derived.LaidMore
import Derived.OpenShut
import Derived.Lay
import Derived.Carry
import Derived.SevenTiedAt
import Derived.Stop.Joined
import Derived.Lib.LaidTab
import Derived.Stop.LaidErr
import Derived.Lib.LaidU8T
import Derived.PinnedBridge
import Derived.SizedLaws

/-
  What the printer's value is for any tree; what text.Compact and text.Indent answer.
-/
namespace Go.Proofs.YtafbojiojeemoaaGreatDoor
open Go.RowKit Np Rw Vp Up Qp Tp

theorem kids_ok {t : Tr Nd} (h1 : okT many t) (h2 : rightT t = true) : ∀ u ∈ t.ks, okT many u ∧ rightT u = true := by
  have := val_kids (t := nmd [] t) (Val.clr h1 h2)
  rwa [nmd_ks] at this
theorem kids_fit {n : Nd} {ks : List (Tr Nd)} (h : ∀ x ∈ flat (.mk n ks), FitN x) : ∀ u ∈ ks, ∀ x ∈ flat u, FitN x := by
  intro u hu x hx
  refine h x ?_
  rw [flat_mk, List.mem_cons]
  refine .inr ?_
  obtain ⟨a, c, rfl⟩ := List.append_of_mem hu
  rw [flats_append, flats_cons]
  simp [hx]
theorem kid_less {n : Nd} {ks : List (Tr Nd)} {u : Tr Nd} (hu : u ∈ ks) : (flat u).length < (flat (.mk n ks)).length := by
  obtain ⟨a, c, rfl⟩ := List.append_of_mem hu
  rw [flat_mk, flats_append, flats_cons]
  simp; omega
theorem prValue (ln : Bool) : ∀ (N : Nat) (t : Tr Nd), (flat t).length ≤ N → okT many t → rightT t = true → (∀ x ∈ flat t, FitN x) → ValueP ln t
  | 0, t, hN, _, _, _ => by have := flat_pos t; omega
  | N + 1, .mk n ks, hN, h1, h2, hF => by
    have hk := kids_ok h1 h2
    have h1' := okT_mk.1 h1
    have hpl : plainN n = true := by rw [rightT_mk, Bool.and_eq_true] at h2; exact h2.1
    refine prValue_of ln n ks (hF n (by rw [flat_mk]; simp)) (fun h => prParts_of ln n ks h1'.1 h (fun u hu => ?_) (fun u hu => ?_)) (fun h5 h6 => ?_)
    · exact prValue ln N u (by have := kid_less (n := n) hu; omega) (hk u hu).1 (hk u hu).2 (kids_fit hF u hu)
    · exact (kids_fit hF u hu u.nd (by rw [flat_eq]; simp)).nm
    · have := (plainN_many hpl).2 h5 h6
      exact List.eq_nil_of_length_eq_zero (by have := h1'.1; unfold many at this; omega)
theorem printS_ne (f : List UInt8) (e : Int) : printS f e ≠ [] := by
  unfold printS
  split
  · simp
  · rename_i h
    have hf : f ≠ [] := fun h' => h (by rw [h']; rfl)
    split
    · simp [hf]
    · split
      · unfold pointF; simp
      · simp
theorem printN_ne (f : List UInt8) (g : Bool) (e : Int) : printN f g e ≠ [] := by
  unfold printN
  split
  · simp
  · exact printS_ne f e
theorem scT_ne (n : Nd) : scT n ≠ [] := by
  unfold scT
  split
  · unfold wordT; split
    · decide
    · split <;> decide
  · split
    · exact printN_ne _ _ _
    · unfold quo; simp
theorem prT_ne (ln : Bool) (d : Nat) (t : Tr Nd) : prT ln d t ≠ [] := by
  cases t with
  | mk n ks =>
    rw [prT_mk]
    split
    · simp
    · split
      · simp
      · exact scT_ne n
/-- What a value must be like, to be printed. -/
structure FitT (t : Tr Nd) : Prop where
  ok : okT many t
  rt : rightT t = true
  fit : ∀ x ∈ flat t, FitN x
  few : (flat t).length ≤ 1000

set_option maxRecDepth 100000 in
set_option maxHeartbeats 2000000 in
theorem compact_any (t : Tr Nd) (v : Value) (w : World) (hF : FitT t) (hv : Nds w v (flat t)) (hl : (prT false 0 t).length ≤ 100000000) (hP : PowTab w) (hW : Wds w) :
    Calls Tryz.prog 13 #[v] w fun e w' => e = .returned (.string ⟨(prT false 0 t).toArray⟩) ∧ Below w.heap.size w w' := by
  have HE : Hid (Emb w.heap.size false ((0 : Nat) : Int) [] (w.alloc (.cells #[.pointer none, .slice none 0 0, .bool false, .int .i64 0] 67))) := Lib.hid
    (.inl ⟨.slice none 0 0, heap_alloc_new w _, World.ownsRowF_nil _ _ _ _, by simp [Value.ownBlock]⟩)
  have hb : Below w.heap.size w (w.alloc (.cells #[.pointer none, .slice none 0 0, .bool false, .int .i64 0] 67)) := (Below.refl _ _).alloc (Nat.le_refl _) _
  have HB := Lib.hid hb
  have hnd : NdB w.heap.size (w.alloc (.cells #[.pointer none, .slice none 0 0, .bool false, .int .i64 0] 67)) v (flat t ++ []) := by rw [List.append_nil]; exact (NdB.of hv (Nat.le_refl _)).below hb
  have HV := Lib.hid (prValue false _ t (Nat.le_refl _) hF.ok hF.rt hF.fit w.heap.size 0 [] [] v w _ ⟨hP, hW, Nat.le_refl _, hb⟩ HE.out hnd (by have := hF.few; omega) (by simpa using hl))
  have HNE : Hid (prT false 0 t ≠ []) := Lib.hid (prT_ne _ _ _)
  obtain ⟨A0, N0, c0, rfl⟩ : ∃ (A : Option Addr) (N c : Nat), v = .slice A N c := by obtain ⟨A, c, h, -⟩ := hv; exact ⟨A, _, c, h⟩
  clear hb hnd hv hl hP hW HE
  generalize prT false 0 t = T at *
  go_enter Tryz.func13, Tryz.ntmps13
  go_wp2_with (first
    | (go_at_call 35; refine HV.out.mono ?_; rintro e w2 ⟨v', rfl, hx2, h2, hk2⟩; obtain ⟨A2, N2, c2, rfl⟩ : ∃ (A : Option Addr) (N c : Nat), v' = .slice A N c := (by obtain ⟨A, c, h, -⟩ := hx2; exact ⟨A, _, c, h⟩); have HS := Lib.hid (embText w.heap.size false ((0 : Nat) : Int) T w2 (by simpa using h2) HNE.out); have HK2 := Lib.hid (HB.out.trans hk2.1); clear h2 hk2 hx2)
    | (go_at_call 36; refine HS.out.mono ?_; rintro e w3 ⟨rfl, hb3⟩))
  go_ret
  exact ⟨rfl, HK2.out.trans hb3⟩

set_option maxRecDepth 100000 in
set_option maxHeartbeats 2000000 in
theorem indent_any (t : Tr Nd) (v : Value) (w : World) (hF : FitT t) (hv : Nds w v (flat t)) (hl : (prT true 0 t).length ≤ 100000000) (hP : PowTab w) (hW : Wds w) :
    Calls Tryz.prog 15 #[v] w fun e w' => e = .returned (.string ⟨(prT true 0 t).toArray⟩) ∧ Below w.heap.size w w' := by
  have HE : Hid (Emb w.heap.size true ((0 : Nat) : Int) [] (w.alloc (.cells #[.pointer none, .slice none 0 0, .bool true, .int .i64 0] 67))) := Lib.hid
    (.inl ⟨.slice none 0 0, heap_alloc_new w _, World.ownsRowF_nil _ _ _ _, by simp [Value.ownBlock]⟩)
  have hb : Below w.heap.size w (w.alloc (.cells #[.pointer none, .slice none 0 0, .bool true, .int .i64 0] 67)) := (Below.refl _ _).alloc (Nat.le_refl _) _
  have HB := Lib.hid hb
  have hnd : NdB w.heap.size (w.alloc (.cells #[.pointer none, .slice none 0 0, .bool true, .int .i64 0] 67)) v (flat t ++ []) := by rw [List.append_nil]; exact (NdB.of hv (Nat.le_refl _)).below hb
  have HV := Lib.hid (prValue true _ t (Nat.le_refl _) hF.ok hF.rt hF.fit w.heap.size 0 [] [] v w _ ⟨hP, hW, Nat.le_refl _, hb⟩ HE.out hnd (by have := hF.few; omega) (by simpa using hl))
  have HNE : Hid (prT true 0 t ≠ []) := Lib.hid (prT_ne _ _ _)
  obtain ⟨A0, N0, c0, rfl⟩ : ∃ (A : Option Addr) (N c : Nat), v = .slice A N c := by obtain ⟨A, c, h, -⟩ := hv; exact ⟨A, _, c, h⟩
  clear hb hnd hv hl hP hW HE
  generalize prT true 0 t = T at *
  go_enter Tryz.func15, Tryz.ntmps15
  go_wp2_with (first
    | (go_at_call 35; refine HV.out.mono ?_; rintro e w2 ⟨v', rfl, hx2, h2, hk2⟩; obtain ⟨A2, N2, c2, rfl⟩ : ∃ (A : Option Addr) (N c : Nat), v' = .slice A N c := (by obtain ⟨A, c, h, -⟩ := hx2; exact ⟨A, _, c, h⟩); have HS := Lib.hid (embText w.heap.size true ((0 : Nat) : Int) T w2 (by simpa using h2) HNE.out); have HK2 := Lib.hid (HB.out.trans hk2.1); clear h2 hk2 hx2)
    | (go_at_call 36; refine HS.out.mono ?_; rintro e w3 ⟨rfl, hb3⟩))
  go_ret
  exact ⟨rfl, HK2.out.trans hb3⟩
end Go.Proofs.YtafbojiojeemoaaGreatDoor

/-
  What the live question answers: true.
-/
namespace Go.Proofs.YtafbojiojeemoaaGreatDoor
open Go.RowKit Np Rw Vp Up Qp Tp

/-- What all calls want of the world. -/
structure Tv (w : World) : Prop where
  pow : PowTab w
  wds : Wds w
  tabs : Tabs w
  er : Er w
theorem Tv.below {w w' : World} (h : Tv w) (hb : Below w.heap.size w w') : Tv w' := ⟨h.pow.below hb, h.wds.below hb, h.tabs.below hb, h.er.below hb⟩

def treeA : Tr Nd := .mk (hdN 6 1) [.mk ⟨5, 2, [97], [], false, 0⟩ [.mk (hdN 2 0) [], .mk (hdN 0 0) []]]
def strA : List UInt8 := [32, 123, 34, 97, 34, 58, 49, 44, 32, 34, 97, 34, 58, 91, 116, 114, 117, 101, 44, 32, 110, 117, 108, 108, 93, 125, 32]
set_option maxRecDepth 100000 in
theorem prt_c : prT false 0 treeA = [123, 34, 97, 34, 58, 91, 116, 114, 117, 101, 44, 110, 117, 108, 108, 93, 125] := by decide +kernel
set_option maxRecDepth 100000 in
theorem prt_i : prT true 0 treeA = [123, 10, 32, 32, 34, 97, 34, 58, 32, 91, 10, 32, 32, 32, 32, 116, 114, 117, 101, 44, 10, 32, 32, 32, 32, 110, 117, 108, 108, 10, 32, 32, 93, 10, 125] := by decide +kernel
theorem vld_one : vld [97] = true := by decide
theorem objB_a (L : List Nd) : objB [[97]] [L] = true := by simp [objB, okNames, vld_one]
theorem ob_a : obV [([97], [hdN 5 2, hdN 2 0, hdN 0 0])] = flat treeA := by
  show objV [[97]] [[hdN 5 2, hdN 2 0, hdN 0 0]] = _
  rw [objV, objB_a, if_pos rfl, show ([[97]] : List (List UInt8)).zip [[hdN 5 2, hdN 2 0, hdN 0 0]] = [([97], [hdN 5 2, hdN 2 0, hdN 0 0])] from rfl, show srt [([97], [hdN 5 2, hdN 2 0, hdN 0 0])] = [([97], [hdN 5 2, hdN 2 0, hdN 0 0])] from srt_of (List.Perm.refl _) (by simp [rises])]
  decide
set_option maxRecDepth 100000 in
theorem pt_a : ptR (fdR (vlR strA 127) strA) putP [] strA 125 1 = .ok [([97], [hdN 5 2, hdN 2 0, hdN 0 0])] 26 := by decide +kernel
set_option maxRecDepth 100000 in
theorem prs_a : prsR strA = (flat treeA, 0, 0) := by
  refine prs_ok (k := 26) ?_ (by decide +kernel)
  rw [show (128 : Nat) = 127 + 1 from rfl, vlR_succ, show sk strA 0 = 1 by decide +kernel, vl1, if_neg (by decide +kernel), if_pos (by decide +kernel), pt_a]
  show Rs.ok (obV _) 26 = _
  rw [ob_a]
set_option maxRecDepth 100000 in
theorem prs_b : prsR [91, 49, 44, 93] = ([], 3, 1) := by decide +kernel
theorem fit_a : FitT treeA := by
  refine ⟨?_, by decide +kernel, ?_, by decide +kernel⟩
  · simp [treeA, okT_mk, hdN, many]
  · intro x hx
    simp [treeA, flat, hdN] at hx
    rcases hx with rfl | rfl | rfl | rfl <;> exact ⟨by decide, by decide, by decide, by decide, by decide, by decide⟩

set_option maxRecDepth 100000 in
set_option maxHeartbeats 2000000 in
theorem alive_any (w : World) (hT : Tv w) :
    Calls Tryz.prog 8 #[] w fun e w' => e = .returned (.bool true) ∧ Below w.heap.size w w' := by
  have h1 : Calls Tryz.prog 9 #[.string ⟨#[32, 123, 34, 97, 34, 58, 49, 44, 32, 34, 97, 34, 58, 91, 116, 114, 117, 101, 44, 32, 110, 117, 108, 108, 93, 125, 32]⟩] w fun e w' => ∃ (A : Option Addr) (n c : Nat), e = .returned (.tuple #[.slice A n c, .int .i64 0, .int .i64 0]) ∧ Hid (Nds w' (.slice A n c) (flat treeA)) ∧ Hid (Below w.heap.size w w') := by
    refine (parse_any ⟨#[32, 123, 34, 97, 34, 58, 49, 44, 32, 34, 97, 34, 58, 91, 116, 114, 117, 101, 44, 32, 110, 117, 108, 108, 93, 125, 32]⟩ w (by decide) hT.er hT.tabs hT.wds).mono ?_
    rintro e w' ⟨V, he, hV, hb⟩
    change e = .returned (.tuple #[V, .int .i64 ((prsR strA).2.1 : Nat), .int .i64 (prsR strA).2.2]) at he
    change OwnN w.heap.size w' V (prsR strA).1 at hV
    rw [prs_a] at he hV
    have hr := hV.row ndc_len
    obtain ⟨A, c, rfl, h⟩ := hr
    exact ⟨A, _, c, he, Lib.hid ⟨A, c, rfl, h⟩, Lib.hid hb⟩
  have h2 : Hid (∀ W, Tv W → Calls Tryz.prog 9 #[.string ⟨#[91, 49, 44, 93]⟩] W fun e w' => ∃ (A : Option Addr) (n c : Nat), e = .returned (.tuple #[.slice A n c, .int .i64 3, .int .i64 1]) ∧ Hid (Below W.heap.size W w')) := Lib.hid (fun W hT => by
    refine (parse_any ⟨#[91, 49, 44, 93]⟩ W (by decide) hT.er hT.tabs hT.wds).mono ?_
    rintro e w' ⟨V, he, hV, hb⟩
    change e = .returned (.tuple #[V, .int .i64 ((prsR [91, 49, 44, 93]).2.1 : Nat), .int .i64 (prsR [91, 49, 44, 93]).2.2]) at he
    change OwnN W.heap.size w' V (prsR [91, 49, 44, 93]).1 at hV
    rw [prs_b] at he hV
    obtain ⟨A, c, rfl, -⟩ := hV.form
    exact ⟨A, _, c, he, Lib.hid hb⟩)
  have HC : Hid (∀ W v, Tv W → Nds W v (flat treeA) → Calls Tryz.prog 13 #[v] W fun e w' => e = .returned (.string ⟨#[123, 34, 97, 34, 58, 91, 116, 114, 117, 101, 44, 110, 117, 108, 108, 93, 125]⟩) ∧ Below W.heap.size W w') := Lib.hid (fun W v hT hv => by
    have := compact_any treeA v W fit_a hv (by rw [prt_c]; decide) hT.pow hT.wds
    rwa [prt_c] at this)
  have HI : Hid (∀ W v, Tv W → Nds W v (flat treeA) → Calls Tryz.prog 15 #[v] W fun e w' => e = .returned (.string ⟨#[123, 10, 32, 32, 34, 97, 34, 58, 32, 91, 10, 32, 32, 32, 32, 116, 114, 117, 101, 44, 10, 32, 32, 32, 32, 110, 117, 108, 108, 10, 32, 32, 93, 10, 125]⟩) ∧ Below W.heap.size W w') := Lib.hid (fun W v hT hv => by
    have := indent_any treeA v W fit_a hv (by rw [prt_i]; decide) hT.pow hT.wds
    rwa [prt_i] at this)
  have H1 := Lib.hid h1
  have HT := Lib.hid hT
  clear h1 hT
  go_enter Tryz.func8, Tryz.ntmps8
  go_wp2_with fail
  refine H1.out.mono ?_
  rintro e w1 ⟨A, n, c, rfl, hv1, hb1⟩
  have HT1 := Lib.hid (HT.out.below hb1.out)
  go_wp2_with fail
  refine (h2.out _ HT1.out).mono ?_
  rintro e w2 ⟨A2, n2, c2, rfl, hb2⟩
  have HT2 := Lib.hid (HT1.out.below hb2.out)
  have HV2 := Lib.hid (hv1.out.below hb2.out)
  go_wp2_with (first
    | (go_at_call 13; refine (HC.out _ _ HT2.out HV2.out).mono ?_; rintro e w3 ⟨rfl, hb3⟩; have HT3 := Lib.hid (HT2.out.below hb3); have HV3 := Lib.hid (HV2.out.below hb3); have HB3 := Lib.hid hb3; clear hb3)
    | (go_at_call 15; refine (HI.out _ _ HT3.out HV3.out).mono ?_; rintro e w4 ⟨rfl, hb4⟩))
  go_ret
  exact ⟨rfl, Below.after (Below.after (Below.after hb1.out hb2.out) HB3.out) hb4⟩
end Go.Proofs.YtafbojiojeemoaaGreatDoor

/-
  How a statement on texts and values that returns true, and leaves what lay below as it was, closes its row: the tables of powers of ten, of UTF-8, of words, and the library's ErrSyntax lie as they are laid.
-/
namespace Go.Proofs.YtafbojiojeemoaaGreatDoor
open Go.ChangeShapes Go.WideShapes Go.ChangeAt Go.RowKit Tp

theorem ownKn : ownKnob Tryz.prog.godebug = none := by kernel_rfl
theorem laidOut : laidOutB Tryz.prog = true := by kernel_rfl

theorem u8_range {x : Int} (h : (Lit.int .u8 x).wf = true) : 0 ≤ x ∧ x ≤ 255 := by
  simp only [Lit.wf, IntKind.min, IntKind.max, IntKind.signed, IntKind.bits, Bool.and_eq_true, decide_eq_true_eq, Bool.false_eq_true, if_false] at h
  omega

theorem u16_range {x : Int} (h : (Lit.int .u16 x).wf = true) : 0 ≤ x ∧ x ≤ 65535 := by
  simp only [Lit.wf, IntKind.min, IntKind.max, IntKind.signed, IntKind.bits, Bool.and_eq_true, decide_eq_true_eq, Bool.false_eq_true, if_false] at h
  omega

/-- What the rows list. -/
def seatLaid : List (String × DataW Unit) := [("math/bits.deBruijn32tab", Rows.laid_math_bits_deBruijn32tab), ("math/bits.deBruijn64tab", Rows.laid_math_bits_deBruijn64tab), ("internal/strconv.uint64pow10", Rows.laid_internal_strconv_uint64pow10), ("unicode/utf8.acceptRanges", Rows.laid_unicode_utf8_acceptRanges), ("strconv.ErrRange", Rows.laid_strconv_ErrRange), ("strconv.ErrSyntax", Rows.laid_strconv_ErrSyntax), ("loupe/text.words", Rows.laid_loupe_text_words), ("unicode/utf8.first", Rows.laid_unicode_utf8_first)]

theorem powData : (Rows.laid_internal_strconv_uint64pow10 : DataW Unit) = Lib.tabData .u64 Lib.pow10Tab := by kernel_rfl
theorem powTab_of_laid {W : World} (h : laidMetH Tryz.prog seatLaid W) : PowTab W := by
  rw [MakeChecks.laidMetH_plain _ _ _ (by kernel_rfl)] at h
  have h2 := laidMet.tail (laidMet.tail h)
  rw [powData] at h2
  exact Lib.tabIs_of_head powTab (by kernel_rfl : _ = some 215) Tryz.underlying215 Tryz.underlying175 (by kernel_rfl) (by kernel_rfl) h2
theorem acceptSaid : (Rows.laid_unicode_utf8_acceptRanges : DataW Unit) = Lib.acceptData := by kernel_rfl
theorem tabs_of_laid {W : World} (h : laidMetH Tryz.prog seatLaid W) : Tabs W := by
  rw [MakeChecks.laidMetH_plain _ _ _ (by kernel_rfl)] at h
  refine utf8Tabs_of_readsT (ρ := Tryz.laysValid_ren) (U8Types.of196 Tryz.laysValid) ⟨by kernel_rfl, by kernel_rfl, by kernel_rfl, by kernel_rfl, by kernel_rfl, by kernel_rfl, by kernel_rfl⟩ ?_ ?_
  · have := Lib.laidMet.reads h (.tail _ (.tail _ (.tail _ (.tail _ (.tail _ (.tail _ (.tail _ (.head _))))))))
    rw [show Rows.laid_unicode_utf8_first = Lib.firstData from Pinned.utf8First_eq] at this
    exact this
  · have := Lib.laidMet.reads h (.tail _ (.tail _ (.tail _ (.head _))))
    rw [acceptSaid] at this
    exact this
theorem er_of_laid {W : World} (h : laidMetH Tryz.prog seatLaid W) : Er W := by
  rw [MakeChecks.laidMetH_plain _ _ _ (by kernel_rfl)] at h
  have h2 := laidMet.tail (laidMet.tail (laidMet.tail (laidMet.tail (laidMet.tail h))))
  obtain ⟨ps, ⟨g0, t0, cs0, f0, p0, q0, hg0, ht0, hv0, hd0, _, e0⟩, _, hrows⟩ := h2
  have hg : Tryz.prog.globalNamed "strconv.ErrSyntax" = some 4 := by kernel_rfl
  obtain rfl := Option.some.inj (hg.symm.trans hg0)
  obtain rfl := Option.some.inj ((show (Tryz.prog.globals[4]?).map (·.type) = some 84 by kernel_rfl).symm.trans ht0)
  obtain ⟨f1, u, v, hc, -⟩ := iface_of_trod Tryz.underlying84 hd0
  obtain ⟨l0⟩ := cs0
  simp only at hc
  subst hc
  exact ⟨.iface u v, by simpa using World.var?_cell hg0 hv0 0, .inr ⟨_, _, rfl⟩⟩

/-- An array of strings that reads as these texts holds them. -/
theorem cells_of_texts {H : Type} {enc : TypeId × Value → H} {P : Program} {w : World} {base : Nat} {sp : Nat → Bool} {held : Bool} {fuel : Nat} {t e : TypeId} {n : Nat} {cs : List Value} {zs : List (List UInt8)} {p : List MemPlace}
    (ht : P.underlying t = some (.array n e)) (he : P.underlying e = some .string) (hce : P.cellsOf e = 1) (hct : P.cellsOf t = n)
    (h : DataW.trod enc P w base sp held fuel t cs = some (.agg (zs.map fun z => .lit (.string z)), p)) : cs = zs.map fun z => Value.string ⟨z.toArray⟩ := by
  cases fuel with
  | zero => simp [DataW.trod] at h
  | succ fuel =>
    simp only [DataW.trod, ht, hce, hct, Nat.mul_one] at h
    split at h
    · rename_i hl
      obtain ⟨xs, hm, hx⟩ := Option.map_eq_some_iff.1 h
      have hxs : xs.map (·.1) = zs.map fun z => (DataW.lit (.string z) : DataW H) := by
        have := congrArg Prod.fst hx
        simpa using this
      have hxl : xs.length = n := by simpa using Lib.mapM_length hm
      have hzl : zs.length = n := by
        have := congrArg List.length hxs
        simp at this
        omega
      apply List.ext_getElem?
      intro i
      by_cases hi : i < n
      · obtain ⟨b, hb, hf⟩ := Lib.mapM_at hm i i (by simp [hi])
        obtain ⟨z, hc, rfl, _⟩ := DataW.trod_string he hf
        have h1 : cs[i]? = some (.string z) := by
          have := congrArg (·[0]?) hc
          simpa [List.getElem?_take, List.getElem?_drop] using this
        have h2 : (xs.map (·.1))[i]? = some (DataW.lit (.string z.data.toList) : DataW H) := by simp [hb]
        rw [hxs] at h2
        simp only [List.getElem?_map, Option.map_eq_some_iff, DataW.lit.injEq, Lit.string.injEq] at h2
        obtain ⟨z', hz', rfl⟩ := h2
        simp [h1, hz']
      · rw [List.getElem?_eq_none (by omega), List.getElem?_eq_none (by simp; omega)]
    · cases h
theorem wds_of_laid {W : World} (h : laidMetH Tryz.prog seatLaid W) : Wds W := by
  rw [MakeChecks.laidMetH_plain _ _ _ (by kernel_rfl)] at h
  have h2 := laidMet.tail (laidMet.tail (laidMet.tail (laidMet.tail (laidMet.tail (laidMet.tail h)))))
  obtain ⟨ps, ⟨g0, t0, cs0, f0, p0, q0, hg0, ht0, hv0, hd0, _, e0⟩, _, hrows⟩ := h2
  have hg : Tryz.prog.globalNamed "loupe/text.words" = some 0 := by kernel_rfl
  obtain rfl := Option.some.inj (hg.symm.trans hg0)
  obtain rfl := Option.some.inj ((show (Tryz.prog.globals[0]?).map (·.type) = some 101 by kernel_rfl).symm.trans ht0)
  have hc := cells_of_texts (zs := [wNull, wFalse, wTrue]) Tryz.underlying101 Tryz.underlying9 (by kernel_rfl) (by kernel_rfl) hd0
  obtain ⟨l0⟩ := cs0
  simp only at hc
  subst hc
  exact ⟨by simpa using World.var?_cell hg0 hv0 0, by simpa using World.var?_cell hg0 hv0 1, by simpa using World.var?_cell hg0 hv0 2⟩
theorem tv_of_laid {W : World} (h : laidMetH Tryz.prog seatLaid W) : Tv W := ⟨powTab_of_laid h, wds_of_laid h, tabs_of_laid h, er_of_laid h⟩
theorem laid_met (os : Os) (args : Array Value) : laidMetH Tryz.prog seatLaid ((World.laidAll Tryz.prog os seatLaid).forCall (fun _ _ => 0) ⟨#[], args, []⟩).memory := by
  rw [MakeChecks.laidMetH_plain _ _ _ (by kernel_rfl)]
  exact laidMet_laidAll _ (by kernel_rfl) (by kernel_rfl)

section
variable {H : Type} {enc : TypeId × Value → H} {P : Program} {W W' : World}
/-- Arguments read as before, where nothing below has turned. -/
theorem trodAll_below (hl : laidOutB P = true) (hb : Below W.heap.size W W') : ∀ {ts : List TypeId} {vs : List Value} {ds : List (DataW H)} {ps : List MemPlace}, (∀ t ∈ ts, P.readableRec t = true ∧ t < P.types.size) →
    DataW.TrodAll enc P W 0 (fun _ => true) true ts vs ds ps → (∀ x ∈ ps, x.block < W.heap.size) → DataW.TrodAll enc P W' 0 (fun b => decide (b < W.heap.size)) true ts vs ds ps
  | [], [], [], _, _, h, _ => h
  | t :: ts, v :: vs, d :: ds, _, ht, h, hlt => by
    obtain ⟨p, q, h1, h2, rfl⟩ := h
    exact ⟨p, q, Below.trod hl (ht t (by simp)).1 (ht t (by simp)).2 h1 hb (fun x hx => hlt x (by simp [hx])), trodAll_below hl hb (fun u hu => ht u (by simp [hu])) h2 (fun x hx => hlt x (by simp [hx])), rfl⟩
  | [], [], _ :: _, _, _, h, _ => h.elim
  | [], _ :: _, _, _, _, h, _ => h.elim
  | _ :: _, [], _, _, _, h, _ => h.elim
  | _ :: _, _ :: _, [], _, _, h, _ => h.elim
/-- The end of a statement's row. -/
theorem law_post {f : Func} {s : ChangeSpec} {args : Array Value} {ds : List (DataW H)} {before : List MemPlace} {tb : TypeId} (hl : laidOutB P = true)
    (hW : DataW.Whole enc P f.params.toList s.vars false W args.toList ds [] before) (hvars : s.vars = []) (htb : P.underlying tb = some .bool) (hres : f.resultTypes = #[tb])
    (hfn : s.fn H ds = { results := [.lit (.bool true)], args := ds }) (hread : ∀ t ∈ f.params.toList, P.readableRec t = true ∧ t < P.types.size) (hb : Below W.heap.size W W') :
    s.post enc P f false true false false W args (.bool true) W' := by
  have hlt : ∀ x ∈ before, x.block < W.heap.size := fun x hx => hW.lt x hx
  have hW2 := hW
  obtain ⟨p, q, hA, hV, rfl, _, _⟩ := hW
  refine ⟨ds, [], p ++ q, [], p, q, hW2, ?_, ?_, ?_, hb.frame _, fun h => by cases h⟩
  · rw [List.append_nil, hfn, hres]
    exact trodAll_mk1 (shut_bool htb _)
  · rw [List.append_nil, hfn]
    exact trodAll_below hl hb hread hA (fun x hx => hlt x (by simp [hx]))
  · rw [hvars] at hV ⊢
    rw [List.append_nil, hfn]
    exact hV
end


/-- A text is no longer than the form's reach. -/
theorem text_sized {H : Type} {P : Program} {ts : List TypeId} {ds : List (DataW H)} (h : (DataW.weightsEach P ts ds).all (· ≤ reachBytes) = true) {j : Nat} {t : TypeId} {s : ByteArray} (ht : ts[j]? = some t) (hd : ds[j]? = some (.lit (.string s.data.toList))) : s.size ≤ 140737488355328 := by
  have h1 := sized_string h ht hd
  rw [Np.size_toList] at h1
  have hr : reachBytes = 140737488351232 := rfl
  rw [hr] at h1
  omega
end Go.Proofs.YtafbojiojeemoaaGreatDoor
