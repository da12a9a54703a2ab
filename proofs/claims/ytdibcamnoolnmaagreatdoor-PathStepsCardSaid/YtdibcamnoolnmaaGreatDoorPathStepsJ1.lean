/-
  Joined: PaAl2, PaLw, PaLv, PathSteps, PWLaw, PWOpen, PathStepsCard.
-/
import Derived.Test.YtdibcamnoolnmaaGreatDoorPathSetsJ18
import Derived.Test.YtdibcamnoolnmaaGreatDoorPathSetsJ12
import Derived.Test.YtdibcamnoolnmaaGreatDoorRefW6
import Derived.Test.YtdibcamnoolnmaaGreatDoorTie
import Derived.Test.YtdibcamnoolnmaaGreatDoorCards
import Derived.ProofKit
import Derived.LaidMore
import Derived.OpenShut
import Derived.Lay
import Derived.Carry
import Derived.SevenTiedAt
import Derived.Stop.Joined
import Derived.Lib.LaidTab
import Derived.Stop.LaidErr
import Derived.Lib.LaidU8T
import Derived.PinnedBridge
import Derived.SizedLaws
import Derived.Test.YtdibcamnoolnmaaGreatDoorPathSetsJ9

/-
  The live question of path's laws: its walk.
-/
namespace Go.Proofs.YtdibcamnoolnmaaGreatDoor
open Go.RowKit Np Rw Vp Up Qp Pw

set_option maxRecDepth 100000 in
set_option maxHeartbeats 4000000 in
theorem palive_any (w : World) (hT : Pv w) : Calls Tryz.prog 31 #[] w fun e w' => e = .returned (.bool true) ∧ Below w.heap.size w w' := by
  have H1 : Hid (∀ W, Pv W → Calls Tryz.prog 32 #[.string ⟨#[46, 97, 91, 48, 93, 46, 34, 98, 32, 99, 34]⟩] W fun e w' => ∃ (A : Option Addr) (c : Nat), e = .returned (.tuple #[.slice A 3 c, .int .i64 0, .int .i64 0]) ∧ Hid (Sps w' (.slice A 3 c) pthA) ∧ Hid (Below W.heap.size W w')) := Lib.hid (fun W hW => by
    refine (pread_any ⟨#[46, 97, 91, 48, 93, 46, 34, 98, 32, 99, 34]⟩ W (by decide) hW).mono ?_
    rintro e w' ⟨A, n, c, he, hs, hb⟩
    change e = .returned (.tuple #[.slice A n c, .int .i64 ((readP txtA).2.1 : Nat), .int .i64 (readP txtA).2.2]) at he
    change Sps w' (.slice A n c) (readP txtA).1 at hs
    rw [read_A] at he hs
    obtain ⟨A', c', hv, -⟩ := id hs
    injection hv with _ e2 _
    change n = 3 at e2
    subst e2
    exact ⟨A, c, he, Lib.hid hs, Lib.hid hb⟩)
  have H2 : Hid (∀ W, Pv W → Calls Tryz.prog 32 #[.string ⟨#[46, 97, 46]⟩] W fun e w' => ∃ (A : Option Addr) (n c : Nat), e = .returned (.tuple #[.slice A n c, .int .i64 2, .int .i64 1]) ∧ Hid (Below W.heap.size W w')) := Lib.hid (fun W hW => by
    refine (pread_any ⟨#[46, 97, 46]⟩ W (by decide) hW).mono ?_
    rintro e w' ⟨A, n, c, he, hs, hb⟩
    change e = .returned (.tuple #[.slice A n c, .int .i64 ((readP [46, 97, 46]).2.1 : Nat), .int .i64 (readP [46, 97, 46]).2.2]) at he
    rw [read_B] at he
    exact ⟨A, n, c, he, Lib.hid hb⟩)
  have HT := Lib.hid hT
  clear hT
  go_enter Tryz.func31, Tryz.ntmps31
  go_wp2_with fail
  refine (H1.out _ HT.out).mono ?_
  rintro e w1 ⟨A1, c1, rfl, HP1, HB1⟩
  go_wp2_with fail
  refine (H2.out _ (HT.out.below HB1.out)).mono ?_
  rintro e w2 ⟨A2, n2, c2, rfl, hb2⟩
  have HP2 := Lib.hid (HP1.out.below hb2.out)
  have HB2 := Lib.hid (Below.after HB1.out hb2.out)
  clear hb2 HP1 HB1
  go_wp2_with fail
  have hone : Nds ((w2.alloc (.cells #[.int .i64 2, .int .i64 0, .string ⟨#[]⟩, .string ⟨#[]⟩, .bool false, .int .i64 0] 35)).alloc (.cells #[.int .i64 6, .int .i64 0, .string ⟨#[]⟩, .string ⟨#[]⟩, .bool false, .int .i64 0] 35)) (.slice (some ⟨w2.heap.size, 0, none⟩) 1 1) oneL := (row_one ndc_len w2 _ rfl _ _ trueN rfl : Nds _ _ oneL).below ((Below.refl _ _).alloc (Nat.le_refl _) _)
  have hobe : Nds ((w2.alloc (.cells #[.int .i64 2, .int .i64 0, .string ⟨#[]⟩, .string ⟨#[]⟩, .bool false, .int .i64 0] 35)).alloc (.cells #[.int .i64 6, .int .i64 0, .string ⟨#[]⟩, .string ⟨#[]⟩, .bool false, .int .i64 0] 35)) (.slice (some ⟨w2.heap.size + 1, 0, none⟩) 1 1) (flat obE) := row_one ndc_len _ _ (by simp) _ _ (hdN 6 0) rfl
  have hB3 : Below w2.heap.size w2 ((w2.alloc (.cells #[.int .i64 2, .int .i64 0, .string ⟨#[]⟩, .string ⟨#[]⟩, .bool false, .int .i64 0] 35)).alloc (.cells #[.int .i64 6, .int .i64 0, .string ⟨#[]⟩, .string ⟨#[]⟩, .bool false, .int .i64 0] 35)) := ((Below.refl _ _).alloc (Nat.le_refl _) _).alloc (by simp) _
  have hs3 : ((w2.alloc (.cells #[.int .i64 2, .int .i64 0, .string ⟨#[]⟩, .string ⟨#[]⟩, .bool false, .int .i64 0] 35)).alloc (.cells #[.int .i64 6, .int .i64 0, .string ⟨#[]⟩, .string ⟨#[]⟩, .bool false, .int .i64 0] 35)).heap.size = w2.heap.size + 1 + 1 := by simp
  generalize (w2.alloc (.cells #[.int .i64 2, .int .i64 0, .string ⟨#[]⟩, .string ⟨#[]⟩, .bool false, .int .i64 0] 35)).alloc (.cells #[.int .i64 6, .int .i64 0, .string ⟨#[]⟩, .string ⟨#[]⟩, .bool false, .int .i64 0] 35) = W3 at hone hobe hB3 hs3 ⊢
  have HS3 := Lib.hid hs3
  have HP3 := Lib.hid (HP2.out.below hB3)
  have HB3 := Lib.hid (Below.after HB2.out hB3)
  clear hs3 hB3 HP2 HB2
  generalize w2.heap.size = q2 at *
  have hL := refList_any _ [oneL, oneL] _ (vls_two W3 _ HS3.out 50 _ _ _ _ hone hone) (by decide) (by decide)
  rw [list_2] at hL
  refine hL.mono ?_
  rintro e w4 h4
  obtain ⟨A4, c4, rfl, hl4, hb4⟩ := h4.is (n := 3) rfl
  have hBa : Below W3.heap.size W3 w4 := ((Below.refl _ _).alloc (Nat.le_refl _) _).trans (hb4.mono (by simp))
  have HONE4 := Lib.hid (hone.below hBa)
  have HOBE4 := Lib.hid (hobe.below hBa)
  have HL4 := Lib.hid hl4
  have HP4 := Lib.hid (HP3.out.below hBa)
  have HB4 := Lib.hid (Below.after HB3.out hBa)
  clear hL hone hobe hl4 hb4 hBa h4 HP3 HB3 HS3
  go_wp2_with fail
  have hW := refWith_any _ _ obE twoT [97] w4 HOBE4.out (by rw [flat_two]; exact HL4.out) (by decide) (by rw [flat_two]; decide) obE_val rfl two_val vld_a (by decide) (by intro s hs; simp [obE] at hs)
  change Calls _ _ _ _ (OwnsN w4 (flat obG)) at hW
  rw [flat_G] at hW
  refine hW.mono ?_
  rintro e w5 h5
  obtain ⟨A5, c5, rfl, hl5, hb5⟩ := h5.is (n := 4) rfl
  have HONE5 := Lib.hid (HONE4.out.below hb5)
  have HV5 : Hid (Nds w5 (.slice A5 4 c5) (flat obG)) := Lib.hid (by rw [flat_G]; exact hl5)
  have HP5 := Lib.hid (HP4.out.below hb5)
  have HB5 := Lib.hid (Below.after HB4.out hb5)
  clear hW h5 hl5 hb5 HONE4 HOBE4 HL4 HP4 HB4
  go_wp2_with fail
  have hq5 : Below w5.heap.size w5 (w5.alloc (.cells #[.bool false, .string ⟨#[97]⟩, .int .i64 0, .bool true, .string ⟨#[]⟩, .int .i64 1] 63)) := (Below.refl _ _).alloc (Nat.le_refl _) _
  have hG := pget_any _ _ pthG obG _ (Row.lit spc_len w5 63 #[.bool false, .string ⟨#[97]⟩, .int .i64 0, .bool true, .string ⟨#[]⟩, .int .i64 1] pthG (by decide) rfl) (HV5.out.below hq5) obG_val.ok (by rw [flat_G]; decide) (by decide)
  rw [err_G, got_G] at hG
  refine hG.mono ?_
  rintro e w6 ⟨A6, n6, c6, rfl, hl6, hb6⟩
  have hBb := hq5.trans (hb6.mono (by simp))
  have HX6 := Lib.hid hl6
  have HONE6 := Lib.hid (HONE5.out.below hBb)
  have HV6 := Lib.hid (HV5.out.below hBb)
  have HP6 := Lib.hid (HP5.out.below hBb)
  have HB6 := Lib.hid (Below.after HB5.out hBb)
  clear hG hl6 hb6 hBb hq5 HONE5 HV5 HP5 HB5
  go_wp2_with fail
  have hq6 : Below w6.heap.size w6 (w6.alloc (.cells #[.bool false, .string ⟨#[97]⟩, .int .i64 0] 63)) := (Below.refl _ _).alloc (Nat.le_refl _) _
  have hS := pset_any _ _ _ pthS obG oneT _ (Row.lit spc_len w6 63 #[.bool false, .string ⟨#[97]⟩, .int .i64 0] pthS (by decide) rfl) (HV6.out.below hq6) (by rw [flat_one]; exact HONE6.out.below hq6) obG_val.ok (by rw [flat_G]; decide) (by rw [flat_one]; decide) (by decide)
  rw [err_S, put_S] at hS
  refine hS.mono ?_
  rintro e w7 ⟨A7, n7, c7, rfl, hl7, hb7⟩
  obtain rfl : n7 = 2 := by
    obtain ⟨B, d, hv, -⟩ := hl7
    injection hv
  have hBb := hq6.trans (hb7.mono (by simp))
  have HX7 := Lib.hid (HX6.out.below hBb)
  have HONE7 := Lib.hid (HONE6.out.below hBb)
  have HP7 := Lib.hid (HP6.out.below hBb)
  have HB7 := Lib.hid (Below.after HB6.out hBb)
  clear hS hl7 hb7 hBb hq6 HX6 HONE6 HV6 HP6 HB6
  go_wp2_with fail
  have hTx := ptext_any _ pthA w7 HP7.out (by decide) (by intro s hs; simp [pthA] at hs; rcases hs with rfl | rfl | rfl <;> decide) (by rw [text_A]; decide) (HT.out.below HB7.out).pow
  rw [text_A] at hTx
  refine hTx.mono ?_
  rintro e w8 ⟨rfl, hb8⟩
  have HX8 := Lib.hid (HX7.out.below hb8)
  have HONE8 := Lib.hid (HONE7.out.below hb8)
  have HP8 := Lib.hid (HP7.out.below hb8)
  have HB8 := Lib.hid (Below.after HB7.out hb8)
  clear hTx hb8 HX7 HONE7 HP7 HB7
  go_wp2_with fail
  have hSm := refSame_any _ _ _ _ w8 HX8.out HONE8.out
  rw [show decide (oneL = oneL) = true by simp] at hSm
  refine hSm.mono ?_
  rintro e w9 ⟨rfl, hb9⟩
  have HP9 := Lib.hid (HP8.out.below hb9)
  have HB9 := Lib.hid (Below.after HB8.out hb9)
  clear hSm hb9 HX8 HONE8 HP8 HB8
  go_wp2_with fail
  have hR := pright_any _ pthA w9 HP9.out (by decide) (by intro s hs; simp [pthA] at hs; unfold maxLen; rcases hs with rfl | rfl | rfl <;> simp) (HT.out.below HB9.out).tabs
  rw [right_A] at hR
  refine hR.mono ?_
  rintro e w10 ⟨rfl, hb10⟩
  have HP10 := Lib.hid (HP9.out.below hb10)
  have HB10 := Lib.hid (Below.after HB9.out hb10)
  clear hR hb10 HP9 HB9
  go_wp2_with fail
  have hq : Below w10.heap.size w10 (w10.alloc (.cells #[.bool false, .string ⟨#[98]⟩, .int .i64 0] 63)) := (Below.refl _ _).alloc (Nat.le_refl _) _
  have hA := papart_any _ _ pthA pthB _ (HP10.out.below hq) (Row.lit spc_len w10 63 #[.bool false, .string ⟨#[98]⟩, .int .i64 0] pthB (by decide) rfl) (by decide) (by decide)
  rw [apart_B] at hA
  refine hA.mono ?_
  rintro e w11 ⟨rfl, n11, rfl⟩
  have HB11 := Lib.hid (drewN_below (Below.after HB10.out hq) n11)
  clear hA hq HP10 HB10
  go_wp2_with fail
  go_ret
  exact ⟨rfl, HB11.out⟩
end Go.Proofs.YtdibcamnoolnmaaGreatDoor

/-
  What path's laws share: trees out of short values; how long a value is with something else there, and its texts; errors.
-/
namespace Go.Proofs.YtdibcamnoolnmaaGreatDoor
open Go.RowKit Np Rw Vp Up Qp Pw

/-- What a path's steps are, as they come. -/
def Stp (p : List St) : Prop := ∀ s ∈ p, s.name.length ≤ maxLen ∧ -9223372036854775808 ≤ s.n ∧ s.n ≤ 9223372036854775807
theorem Stp.nm {p : List St} (h : Stp p) : ∀ s ∈ p, s.name.length ≤ maxLen := fun s hs => (h s hs).1
theorem fewp_len {p : List St} (h : fewP p = true) : p.length ≤ 31 ∧ ∀ s ∈ p, s.name.length ≤ 100 := by
  unfold fewP at h
  rw [Bool.and_eq_true, decide_eq_true_eq, List.all_eq_true] at h
  exact ⟨h.1, fun s hs => by simpa [shortS] using h.2 s hs⟩
theorem rightp_all {p : List St} (h : rightP p = true) : p.all rightS = true ∧ p.length ≤ 20 := by
  unfold rightP at h
  rw [Bool.and_eq_true, decide_eq_true_eq] at h
  exact h
theorem err_cases : ∀ (p : List St) (t : Tr Nd), errP p t = 0 ∨ errP p t = 5 ∨ errP p t = 6
  | [], _ => .inl rfl
  | s :: p, t => by
    rw [errP]
    split
    · exact .inr (.inl rfl)
    · split
      · exact .inr (.inr rfl)
      · exact err_cases p _
theorem got_none {p : List St} {t : Tr Nd} (h : errP p t ≠ 0) : gotP p t = [] := by
  unfold gotP
  cases hs : subP p t with
  | none => rfl
  | some u => exact absurd ((errP_iff p t).2 (by rw [hs]; rfl)) h
theorem put_none {p : List St} {t x : Tr Nd} (h : errP p t ≠ 0) : putP p t x = [] := by unfold putP; rw [if_neg h]
theorem sub_some {p : List St} {t : Tr Nd} (h : errP p t = 0) : ∃ u, subP p t = some u := by
  have := (errP_iff p t).1 h
  exact Option.isSome_iff_exists.1 this
theorem row_of {w : World} {A : Option Addr} {n c : Nat} {l : List Nd} (h : Nds w (.slice A n c) l) : n = l.length := by
  obtain ⟨B, d, hv, -⟩ := h
  injection hv
theorem set_len {p : List St} {t u x : Tr Nd} (h : subP p t = some u) : (flat (setP p t x)).length ≤ (flat t).length + (flat x).length := by
  obtain ⟨pre, post, h1, -, h2⟩ := row_at p t u h
  rw [h2 x, h1]
  have : (flat (nmd u.nd.name x)).length = (flat x).length := by rw [nmd, flat_mk, flat_eq x]; simp
  simp only [List.length_append, this]
  omega
theorem short_nmd {nm : List UInt8} {x : Tr Nd} (hn : nm.length ≤ maxLen) (h : Short (flat x)) : Short (flat (nmd nm x)) := by
  intro n hn2
  rw [nmd, flat_mk] at hn2
  rcases List.mem_cons.1 hn2 with rfl | hn3
  · exact ⟨hn, (h x.nd (by rw [flat_eq]; simp)).2⟩
  · exact h n (by rw [flat_eq]; exact List.mem_cons_of_mem _ hn3)
theorem set_short {p : List St} {t u x : Tr Nd} (h : subP p t = some u) (ht : Short (flat t)) (hx : Short (flat x)) : Short (flat (setP p t x)) := by
  obtain ⟨pre, post, h1, -, h2⟩ := row_at p t u h
  rw [h2 x]
  rw [h1] at ht
  intro n hn
  rcases List.mem_append.1 hn with hn | hn
  · rcases List.mem_append.1 hn with hn | hn
    · exact ht n (by simp [hn])
    · exact short_nmd (ht u.nd (by rw [flat_eq]; simp)).1 hx n hn
  · exact ht n (by simp [hn])
theorem val_name {x : Tr Nd} (h : Val x) : nmd [] x = x := nmd_val h []
/-- What is got where something was set. -/
theorem got_set {p : List St} {t u x : Tr Nd} (h : subP p t = some u) (hx : Val x) : gotP p (setP p t x) = flat x := by
  unfold gotP
  rw [sub_set p t u x h]
  simp only
  rw [nmd_val hx]
theorem got_some {p : List St} {t u : Tr Nd} (h : subP p t = some u) : gotP p t = flat (nmd [] u) := by unfold gotP; rw [h]
theorem few_tr {l : List Nd} (h : few 60 l = true) : ∃ t : Tr Nd, Val t ∧ l = flat t ∧ (flat t).length ≤ 60 ∧ Short (flat t) := by
  rw [few, Bool.and_eq_true, Bool.and_eq_true, decide_eq_true_eq] at h
  obtain ⟨⟨h1, h2⟩, h3⟩ := h
  obtain ⟨t, ht, rfl⟩ := val_of_rightL h3
  exact ⟨t, ht, rfl, h1, few_short h2⟩
end Go.Proofs.YtdibcamnoolnmaaGreatDoor

/-
  Plain words for path's laws: how long texts are; what stands at two paths, one behind the other.
-/
namespace Go.Proofs.YtdibcamnoolnmaaGreatDoor
open Go.RowKit Np Rw Vp Up Qp Pw

theorem stt_mem {p : List St} {s : St} (h : s ∈ p) : (stT s).length ≤ (textP p).length := by
  unfold textP
  rw [List.length_append]
  have : (stT s).length ≤ (p.flatMap stT).length := by
    induction p with
    | nil => cases h
    | cons a p ih =>
      rw [List.flatMap_cons, List.length_append]
      rcases List.mem_cons.1 h with rfl | h
      · omega
      · have := ih h; omega
  omega
theorem wrs_ge : ∀ l : List UInt8, l.length ≤ (wrs l).length
  | [] => by simp
  | c :: r => by
    have h := wrs_ge r
    have h2 : 1 ≤ (wr c).length := by
      unfold wr
      repeat' split
      all_goals simp
    have : wrs (c :: r) = wr c ++ wrs r := by simp [wrs]
    rw [this, List.length_append, List.length_cons]
    omega
theorem name_len {s : St} (h : rightS s = true) : s.name.length ≤ (stT s).length ∧ 0 ≤ s.n ∧ s.n ≤ 1000000 := by
  unfold rightS at h
  unfold stT
  split at h
  · rename_i hp
    rw [if_pos hp]
    simp only [Bool.and_eq_true, decide_eq_true_eq] at h
    obtain ⟨⟨h1, h2⟩, h3⟩ := h
    exact ⟨by rw [h1]; simp, h2, h3⟩
  · rename_i hp
    rw [if_neg hp]
    simp only [Bool.and_eq_true, decide_eq_true_eq] at h
    refine ⟨?_, by omega, by omega⟩
    split
    · simp
    · have := wrs_ge s.name
      rw [List.length_cons, quo_len]; omega
/-- A right path's steps are as path's calls want them. -/
theorem right_steps {p : List St} {n : Nat} (h : rightP p = true) (ht : (textP p).length ≤ n) : ∀ s ∈ p, s.name.length ≤ n ∧ -9223372036854775808 ≤ s.n ∧ s.n ≤ 9223372036854775807 := fun s hs => by
  have h1 := name_len (List.all_eq_true.1 (rightp_all h).1 s hs)
  have h2 := stt_mem hs
  omega
theorem stt_len {s : St} (hn : s.name.length ≤ 100) (h0 : -9223372036854775808 ≤ s.n) (h1 : s.n ≤ 9223372036854775807) : (stT s).length ≤ 700 := by
  have hi := Lib.itoa_length_le s.n h0 h1
  have hw := wrs_le s.name
  unfold stT
  split
  · simp; omega
  · split
    · simp; omega
    · rw [List.length_cons, quo_len]; omega
theorem text_len {p : List St} (h : ∀ s ∈ p, (stT s).length ≤ 700) : (textP p).length ≤ 1 + 700 * p.length := by
  have h1 : (headT p).length ≤ 1 := by
    unfold headT; split
    · simp
    · split <;> simp
  have h2 : (p.flatMap stT).length ≤ 700 * p.length := by
    clear h1
    induction p with
    | nil => simp
    | cons a p ih =>
      have h3 := h a (by simp)
      have h4 := ih (fun s hs => h s (by simp [hs]))
      rw [List.flatMap_cons, List.length_append, List.length_cons]
      omega
  unfold textP
  rw [List.length_append]; omega
theorem text_short {p : List St} (hf : fewP p = true) (hs : Stp p) : (textP p).length ≤ 21701 := by
  obtain ⟨h1, h2⟩ := fewp_len hf
  have := text_len (p := p) (fun s h => stt_len (h2 s h) (hs s h).2.1 (hs s h).2.2)
  omega
theorem kid_nmd (s : St) (nm : List UInt8) (t : Tr Nd) : kid s (nmd nm t) = kid s t := rfl
theorem getD_eq {α : Type} {l : List α} {k : Nat} (h : k < l.length) (a b : α) : l.getD k a = l.getD k b := by
  simp [List.getD, List.getElem?_eq_getElem h]
theorem got_nmd : ∀ (q : List St) (t : Tr Nd), gotP q (nmd [] t) = gotP q t ∧ errP q (nmd [] t) = errP q t
  | [], t => ⟨rfl, rfl⟩
  | s :: q, t => by
    unfold gotP
    rw [subP, subP, errP, errP, kid_nmd]
    show (match (match kid s t with | none => none | some k => subP q ((nmd [] t).ks.getD k (nmd [] t))) with | none => [] | some u => flat (nmd [] u)) = _ ∧ (if t.nd.kind ≠ stKind s then 5 else match kid s t with | none => 6 | some k => errP q ((nmd [] t).ks.getD k (nmd [] t))) = _
    cases hk : kid s t with
    | none => exact ⟨rfl, rfl⟩
    | some k =>
      have hl := (kid_lt hk).1
      simp only
      rw [show (nmd [] t).ks.getD k (nmd [] t) = t.ks.getD k t from getD_eq hl _ _]
      exact ⟨rfl, rfl⟩
/-- What stands at two paths, one behind the other. -/
theorem got_append {p q : List St} {t u : Tr Nd} (h : subP p t = some u) : gotP (p ++ q) t = gotP q (nmd [] u) ∧ errP (p ++ q) t = errP q (nmd [] u) := by
  obtain ⟨h1, h2⟩ := got_nmd q u
  rw [h1, h2]
  refine ⟨?_, ?_⟩
  · unfold gotP
    rw [sub_append, h]; rfl
  · rw [err_append, if_pos ((errP_iff p t).2 (by rw [h]; rfl)), h]
theorem got_append_bad {p q : List St} {t : Tr Nd} (h : errP p t ≠ 0) : gotP (p ++ q) t = [] ∧ errP (p ++ q) t = errP p t := by
  have h2 : errP (p ++ q) t = errP p t := by rw [err_append, if_neg h]
  exact ⟨got_none (by rw [h2]; exact h), h2⟩
/-- A path's beginning, as it lies. -/
theorem sps_take {w : World} {A : Option Addr} {c : Nat} {l : List St} (h : Sps w (.slice A l.length c) l) (k : Nat) (hk : k ≤ l.length) : Sps w (.slice A k c) (l.take k) := by
  obtain ⟨A', c', hv, hc, hcm, hz, hx⟩ := h
  injection hv with e1 _ e3
  subst e1 e3
  have hl : (l.take k).length = k := by rw [List.length_take]; omega
  refine ⟨A, c, by rw [hl], by rw [hl]; omega, hcm, hz, fun h0 => ?_⟩
  rw [hl] at h0
  obtain ⟨g, o, hA, hg, hx⟩ := hx (by omega)
  refine ⟨g, o, hA, hg, fun j x hj => hx j x ?_⟩
  rw [List.getElem?_take] at hj
  split at hj
  · exact hj
  · cases hj
/-- Two values in an array, as they lie. -/
structure LcAt (w : World) (b : Nat) (x y : Value) : Prop where
  c0 : w.cell? ⟨b, 0, none⟩ = some x
  c1 : w.cell? ⟨b, 1, none⟩ = some y
  lt : b < w.heap.size
theorem LcAt.below {w w' : World} {b : Nat} {x y : Value} (h : LcAt w b x y) (hb : Below w.heap.size w w') : LcAt w' b x y :=
  ⟨(hb.cell (p := ⟨b, 0, none⟩) h.lt).trans h.c0, (hb.cell (p := ⟨b, 1, none⟩) h.lt).trans h.c1, Nat.lt_of_lt_of_le h.lt hb.size⟩
end Go.Proofs.YtdibcamnoolnmaaGreatDoor

/-
  The walk of the statement PathSteps: it returns true.
-/
namespace Go.Proofs.YtdibcamnoolnmaaGreatDoor
open Go.RowKit Np Rw Vp Up Qp Pw

set_option maxRecDepth 100000 in
set_option maxHeartbeats 16000000 in
theorem pathSteps_any (pv qv vv : Value) (p q : List St) (l0 : List Nd) (w : World) (hp : Sps w pv p) (hq : Sps w qv q) (hps : Stp p) (hqs : Stp q) (hvv : Nds w vv l0)
    (hT : Pv w) : Calls Tryz.prog 13 #[.agg #[pv, qv], vv] w fun e w' => e = .returned (.bool true) ∧ Below w.heap.size w w' := by
  have HT := Lib.hid hT
  have HAL := Lib.hid (fun (W : World) (hb : Below w.heap.size w W) => (palive_any W (HT.out.below hb)).mono fun (e : Ending) w' (h : e = .returned (.bool true) ∧ Below W.heap.size W w') => (⟨h.1, Below.after hb h.2⟩ : e = .returned (.bool true) ∧ Below w.heap.size w w'))
  have HPp := Lib.hid hp
  have HPq := Lib.hid hq
  have HSp := Lib.hid hps
  have HSq := Lib.hid hqs
  obtain ⟨PA, pc, rfl, -⟩ := hp
  obtain ⟨QA, qc, rfl, -⟩ := hq
  clear hps hqs
  have HVl0 := Lib.hid hvv
  obtain ⟨l0A, l0c, rfl, -⟩ := hvv
  clear hT
  go_enter Tryz.func13, Tryz.ntmps13
  go_upto_region 1 with fail
  go_quiet (fail)
  have HB0 : Hid (Below w.heap.size w ((w.alloc (.cells #[.slice PA p.length pc, .slice QA q.length qc] 48)).drewN nq)) := Lib.hid (drewN_below ((Below.refl _ _).alloc (Nat.le_refl _) _) _)
  generalize (w.alloc (.cells #[.slice PA p.length pc, .slice QA q.length qc] 48)).drewN nq = wz at *
  go_wp2_with fail
  refine (lawFew_any _ p _ (HPp.out.below HB0.out) HSp.out.nm).mono ?_
  rintro e wq ⟨rfl, rfl⟩
  cases hfp : fewP p with
  | false =>
    go_wp2_with fail
    refine (HAL.out _ HB0.out).mono ?_
    rintro e wa ⟨rfl, hba⟩
    go_wp2_with fail
    go_ret
    exact ⟨rfl, hba⟩
  | true =>
    go_wp2_with fail
    refine (lawFew_any _ q _ (HPq.out.below HB0.out) HSq.out.nm).mono ?_
    rintro e wq ⟨rfl, rfl⟩
    cases hfq : fewP q with
    | false =>
      go_wp2_with fail
      refine (HAL.out _ HB0.out).mono ?_
      rintro e wa ⟨rfl, hba⟩
      go_wp2_with fail
      go_ret
      exact ⟨rfl, hba⟩
    | true =>
      go_wp2_with fail
      refine (refRightP_any _ p _ (HPp.out.below HB0.out) HSp.out.nm).mono ?_
      rintro e wq ⟨rfl, rfl⟩
      cases hrp : rightP p with
      | false =>
        go_wp2_with fail
        refine (HAL.out _ HB0.out).mono ?_
        rintro e wa ⟨rfl, hba⟩
        go_wp2_with fail
        go_ret
        exact ⟨rfl, hba⟩
      | true =>
        go_wp2_with fail
        refine (refRightP_any _ q _ (HPq.out.below HB0.out) HSq.out.nm).mono ?_
        rintro e wq ⟨rfl, rfl⟩
        cases hrq : rightP q with
        | false =>
          go_wp2_with fail
          refine (HAL.out _ HB0.out).mono ?_
          rintro e wa ⟨rfl, hba⟩
          go_wp2_with fail
          go_ret
          exact ⟨rfl, hba⟩
        | true =>
          go_wp2_with fail
          refine (refFew_any _ l0 60 _ (HVl0.out.below HB0.out) (by decide)).mono ?_
          rintro e w5 ⟨rfl, hb5⟩
          have HB5 : Hid (Below w.heap.size w w5) := Lib.hid (Below.after HB0.out hb5)
          clear hb5
          cases hfl0 : few 60 l0 with
          | false =>
            go_wp2_with fail
            refine (HAL.out _ HB5.out).mono ?_
            rintro e wa ⟨rfl, hba⟩
            go_wp2_with fail
            go_ret
            exact ⟨rfl, hba⟩
          | true =>
            have hpl := (fewp_len hfp).1
            have hql := (fewp_len hfq).1
            by_cases hlong : 20 < p.length + q.length
            · go_wp2_with fail
              refine (HAL.out _ HB5.out).mono ?_
              rintro e wa ⟨rfl, hba⟩
              go_wp2_with fail
              go_ret
              exact ⟨rfl, hba⟩
            · obtain ⟨hpl, -⟩ := fewp_len hfp
              obtain ⟨hql, -⟩ := fewp_len hfq
              obtain ⟨hpa, hpl2⟩ := rightp_all hrp
              obtain ⟨hqa, hql2⟩ := rightp_all hrq
              obtain ⟨t, htv, rfl, htl, hts⟩ := few_tr hfl0
              have HTV := Lib.hid htv
              have HTL := Lib.hid htl
              have htp := text_short hfp HSp.out
              have htq := text_short hfq HSq.out
              have hTP : Hid (∀ W, Below w.heap.size w W → Calls Tryz.prog 37 #[.slice PA p.length pc] W fun e w' => e = .returned (.string ⟨(textP p).toArray⟩) ∧ Below W.heap.size W w') := Lib.hid (fun W hb => ptext_any _ p W (HPp.out.below hb) (by omega) (fun s hs => by have h1 := (fewp_len hfp).2 s hs; have h2 := HSp.out s hs; exact ⟨by omega, h2.2⟩) (by omega) (HT.out.below hb).pow)
              have hTQ : Hid (∀ W, Below w.heap.size w W → Calls Tryz.prog 37 #[.slice QA q.length qc] W fun e w' => e = .returned (.string ⟨(textP q).toArray⟩) ∧ Below W.heap.size W w') := Lib.hid (fun W hb => ptext_any _ q W (HPq.out.below hb) (by omega) (fun s hs => by have h1 := (fewp_len hfq).2 s hs; have h2 := HSq.out s hs; exact ⟨by omega, h2.2⟩) (by omega) (HT.out.below hb).pow)
              have HAS : Hid (∀ s ∈ p ++ q, s.name.length ≤ 1073741824 ∧ -9223372036854775808 ≤ s.n ∧ s.n ≤ 9223372036854775807) := Lib.hid (fun s hs => by
                rcases List.mem_append.1 hs with hs | hs
                · have h1 := (fewp_len hfp).2 s hs; have h2 := HSp.out s hs; exact ⟨by omega, h2.2⟩
                · have h1 := (fewp_len hfq).2 s hs; have h2 := HSq.out s hs; exact ⟨by omega, h2.2⟩)
              have HPL : Hid (p.length + q.length ≤ 20) := Lib.hid (by omega)
              clear hfl0 hfp hfq hrp hrq
              have HOE : Hid (∀ W, Below w.heap.size w W → Own spc 3 63 w.heap.size (W.alloc (.cells #[] 63)) (.slice (some ⟨W.heap.size, 0, none⟩) 0 0) []) := Lib.hid (fun W hb => by
                have := Own.lit (base := w.heap.size) (E := 63) spc_len W #[] [] hb.size (by simp) rfl
                simpa using this)
              go_wp2_with (at_builtin; refine wpList_append_row (base := w.heap.size) elStep rfl _ _ rfl rfl (HOE.out _ HB5.out) rfl ((HPp.out.below HB5.out).below ((Below.refl _ _).alloc (Nat.le_refl _) _)) ?_ ?_ ?_ ?_)
              · unfold maxLen; simp; omega
              · simp; omega
              · have := HB5.out.size; simp; omega
              · intro A6 c6 w6 hown6 hg6 hwh6
                have HO6 : Hid (Own spc 3 63 w.heap.size w6 (.slice A6 p.length c6) p) := Lib.hid hown6
                have HB6 : Hid (Below w.heap.size w w6) := Lib.hid ((HB5.out.alloc HB5.out.size _).trans ((HOE.out _ HB5.out).kept hg6 (by have := HB5.out.size; simp; omega)))
                clear hown6 hg6 hwh6
                go_wp2_with (at_builtin; refine wpList_append_row (base := w.heap.size) elStep rfl _ _ rfl rfl HO6.out rfl (HPq.out.below HB6.out) ?_ ?_ ?_ ?_)
                · unfold maxLen; omega
                · omega
                · exact HB6.out.size
                · intro A7 c7 w7 hown7 hg7 hwh7
                  have HX7 : Hid (Sps w7 (.slice A7 (p.length + q.length) c7) (p ++ q)) := Lib.hid (Own.row spc_len hown7)
                  have HB7 : Hid (Below w.heap.size w w7) := Lib.hid (HB6.out.trans (HO6.out.kept hg7 HB6.out.size))
                  clear hown7 hg7 hwh7 HO6 HB6
                  have HAL2 : Hid ((p ++ q).length ≤ 20) := Lib.hid (by rw [List.length_append]; exact HPL.out)
                  have hG1 := pget_any _ _ (p ++ q) t _ HX7.out (HVl0.out.below HB7.out) htv.ok (by omega) (by have := HAL2.out; omega)
                  by_cases he : errP p t = 0
                  · obtain ⟨u, hu⟩ := sub_some he
                    obtain ⟨ha1, ha2⟩ := got_append (q := q) hu
                    have huv := sub_val hu htv
                    have hul : (flat (nmd [] u)).length ≤ 60 := by
                      obtain ⟨pre, post, h1, -, -⟩ := row_at p t u hu
                      have := congrArg List.length h1
                      have h2 : (flat (nmd [] u)).length = (flat u).length := by rw [nmd, flat_mk, flat_eq u]; simp
                      simp at this; omega
                    have HUL := Lib.hid hul
                    have HUV := Lib.hid huv
                    have HGO := Lib.hid (got_some hu)
                    have HE := Lib.hid he
                    rw [ha1, ha2] at hG1
                    clear ha1 ha2 he hu huv hul htv hts hpa hqa
                    go_wp2_with fail
                    refine hG1.mono ?_
                    rintro e w8 ⟨A8, n8, c8, rfl, hl8, hb8⟩
                    obtain rfl := row_of hl8
                    have HN8 := Lib.hid hl8
                    have HX8 := Lib.hid (HX7.out.below hb8)
                    have HB8 := Lib.hid (Below.after HB7.out hb8)
                    clear hG1 hl8 hb8 HX7 HB7
                    go_wp2_with fail
                    have hG2 := pget_any _ _ p t _ (HPp.out.below HB8.out) (HVl0.out.below HB8.out) HTV.out.ok (by have := HTL.out; omega) (by omega)
                    rw [HE.out, HGO.out] at hG2
                    refine hG2.mono ?_
                    rintro e w9 ⟨A9, n9, c9, rfl, hl9, hb9⟩
                    obtain rfl := row_of hl9
                    have HU9 := Lib.hid hl9
                    have HN9 := Lib.hid (HN8.out.below hb9)
                    have HX9 := Lib.hid (HX8.out.below hb9)
                    have HB9 := Lib.hid (Below.after HB8.out hb9)
                    clear hG2 hl9 hb9 HN8 HX8 HB8
                    go_wp2_with fail
                    have hG3 := pget_any _ _ q (nmd [] u) _ (HPq.out.below HB9.out) HU9.out HUV.out.ok (by have := HUL.out; omega) (by omega)
                    refine hG3.mono ?_
                    rintro e w10 ⟨A10, n10, c10, rfl, hl10, hb10⟩
                    obtain rfl := row_of hl10
                    have HM10 := Lib.hid hl10
                    have HN10 := Lib.hid (HN9.out.below hb10)
                    have HX10 := Lib.hid (HX9.out.below hb10)
                    have HB10 := Lib.hid (Below.after HB9.out hb10)
                    clear hG3 hl10 hb10 HU9 HN9 HX9 HB9
                    generalize errP q (nmd [] u) = E at *
                    have hEE : (E == E) = true := by simp
                    go_wp2_with fail
                    have hE1 := refSame_any _ _ _ _ _ HN10.out HM10.out
                    rw [show decide (gotP q (nmd [] u) = gotP q (nmd [] u)) = true by simp] at hE1
                    refine hE1.mono ?_
                    rintro e w11 ⟨rfl, hb11⟩
                    have HX11 := Lib.hid (HX10.out.below hb11)
                    have HB11 := Lib.hid (Below.after HB10.out hb11)
                    clear hE1 hb11 HN10 HM10 HX10 HB10
                    go_wp2_with fail
                    refine (palive_any _ (HT.out.below HB11.out)).mono ?_
                    rintro e w12 ⟨rfl, hb12⟩
                    have HX12 := Lib.hid (HX11.out.below hb12)
                    have HB12 := Lib.hid (Below.after HB11.out hb12)
                    clear hb12 HX11 HB11
                    by_cases hp0 : p.length = 0
                    · have hp1 : ((p.length : Int) == 0) = true := by simp [hp0]
                      go_wp2_with fail
                      go_ret
                      exact ⟨rfl, HB12.out⟩
                    by_cases hq0 : q.length = 0
                    · have hp1 : ((p.length : Int) == 0) = false := by simpa using hp0
                      have hq1 : ((q.length : Int) == 0) = true := by simp [hq0]
                      go_wp2_with fail
                      go_ret
                      exact ⟨rfl, HB12.out⟩
                    have hp1 : ((p.length : Int) == 0) = false := by simpa using hp0
                    have hq1 : ((q.length : Int) == 0) = false := by simpa using hq0
                    have hqp : 0 < q.length := by omega
                    obtain ⟨gq, oq, cq, hvq, -, -, hgq, hxq⟩ := HPq.out.opened hqp
                    obtain ⟨z0, -, -⟩ := (hxq 0 _ (List.getElem?_eq_getElem hqp)).sp
                    injection hvq with hvq1 _ hvq2
                    subst hvq1 hvq2
                    rw [Nat.zero_mul, Nat.add_zero] at z0
                    have s0 := (HB12.out.cell (p := ⟨gq, oq, none⟩) hgq).trans z0
                    clear z0 hxq
                    cases hpart : q[0].part with
                    | true =>
                      rw [hpart] at s0
                      clear hpart
                      go_wp2_with fail
                      go_ret
                      exact ⟨rfl, HB12.out⟩
                    | false =>
                      have HTA : Hid (textP (p ++ q) = textP p ++ textP q) := Lib.hid (text_append (by intro h; rw [h] at hp0; exact hp0 rfl) (by intro h; rw [h] at hqp; simp at hqp) (by rw [List.head_eq_getElem]; exact hpart))
                      rw [hpart] at s0
                      clear hpart
                      have HTX : Hid (∀ W, Below w12.heap.size w12 W → Calls Tryz.prog 37 #[.slice A7 (p.length + q.length) c7] W fun e w' => e = .returned (.string ⟨(textP p ++ textP q).toArray⟩) ∧ Below W.heap.size W w') := Lib.hid (fun W hb => by
                        have h := ptext_any _ (p ++ q) W (HX12.out.below hb) (by have := HAL2.out; omega) HAS.out (by rw [HTA.out, List.length_append]; omega) ((HT.out.below HB12.out).below hb).pow
                        rwa [HTA.out] at h)
                      generalize textP p = tp at *
                      generalize textP q = tq at *
                      have hcat : (ByteArray.mk tp.toArray) ++ (ByteArray.mk tq.toArray) = ⟨(tp ++ tq).toArray⟩ := cat_two tp tq
                      go_wp2_with fail
                      refine (HTX.out _ (Below.refl _ _)).mono ?_
                      rintro e w13 ⟨rfl, hb13⟩
                      have HB13 := Lib.hid (Below.after HB12.out hb13)
                      clear hb13
                      go_wp2_with fail
                      refine (hTP.out _ HB13.out).mono ?_
                      rintro e w14 ⟨rfl, hb14⟩
                      have HB14 := Lib.hid (Below.after HB13.out hb14)
                      clear hb14
                      go_wp2_with fail
                      refine (hTQ.out _ HB14.out).mono ?_
                      rintro e w15 ⟨rfl, hb15⟩
                      have HB15 := Lib.hid (Below.after HB14.out hb15)
                      clear hb15
                      go_wp2_with fail
                      go_ret
                      exact ⟨rfl, HB15.out⟩
                  · obtain ⟨ha1, ha2⟩ := got_append_bad (q := q) he
                    obtain ⟨E, hE⟩ : ∃ E, errP p t = E := ⟨_, rfl⟩
                    have HGN := Lib.hid (got_none he)
                    rw [ha1, ha2, hE] at hG1
                    rw [hE] at he
                    have HE := Lib.hid hE
                    have hE0 : (!E == 0) = true := by simpa using he
                    have hE1 : (E == 0) = false := by simpa using he
                    have hEE : (E == E) = true := by simp
                    clear ha1 ha2 hE htv hts hpa hqa
                    go_wp2_with fail
                    refine hG1.mono ?_
                    rintro e w8 ⟨A8, n8, c8, rfl, hl8, hb8⟩
                    obtain rfl := row_of hl8
                    have HB8 := Lib.hid (Below.after HB7.out hb8)
                    clear hG1 hl8 hb8 HX7 HB7
                    go_wp2_with fail
                    have hG2 := pget_any _ _ p t _ (HPp.out.below HB8.out) (HVl0.out.below HB8.out) HTV.out.ok (by have := HTL.out; omega) (by omega)
                    rw [HE.out, HGN.out] at hG2
                    refine hG2.mono ?_
                    rintro e w9 ⟨A9, n9, c9, rfl, hl9, hb9⟩
                    have HB9 := Lib.hid (Below.after HB8.out hb9)
                    clear hG2 hl9 hb9 HB8
                    go_wp2_with fail
                    refine (HAL.out _ HB9.out).mono ?_
                    rintro e wa ⟨rfl, hba⟩
                    go_wp2_with fail
                    go_ret
                    exact ⟨rfl, hba⟩
end Go.Proofs.YtdibcamnoolnmaaGreatDoor

/-
  How a statement on paths that returns true, and leaves what lay below as it was, closes its row: the tables of powers of ten and of UTF-8, and the library's two errors lie as they are laid.
-/
namespace Go.Proofs.YtdibcamnoolnmaaGreatDoor
open Go.ChangeShapes Go.WideShapes Go.ChangeAt Go.RowKit

theorem ownKn : ownKnob Tryz.prog.godebug = none := by kernel_rfl
theorem laidOut : laidOutB Tryz.prog = true := by kernel_rfl

/-- What the rows list. -/
def seatLaid : List (String × DataW Unit) := [("math/bits.deBruijn32tab", Rows.laid_math_bits_deBruijn32tab), ("math/bits.deBruijn64tab", Rows.laid_math_bits_deBruijn64tab), ("internal/strconv.uint64pow10", Rows.laid_internal_strconv_uint64pow10), ("unicode/utf8.acceptRanges", Rows.laid_unicode_utf8_acceptRanges), ("strconv.ErrRange", Rows.laid_strconv_ErrRange), ("strconv.ErrSyntax", Rows.laid_strconv_ErrSyntax), ("unicode/utf8.first", Rows.laid_unicode_utf8_first)]

theorem powData : (Rows.laid_internal_strconv_uint64pow10 : DataW Unit) = Lib.tabData .u64 Lib.pow10Tab := by kernel_rfl
theorem powTab_of_laid {W : World} (h : laidMetH Tryz.prog seatLaid W) : PowTab W := by
  rw [MakeChecks.laidMetH_plain _ _ _ (by kernel_rfl)] at h
  have h2 := laidMet.tail (laidMet.tail h)
  rw [powData] at h2
  exact Lib.tabIs_of_head powTab (by kernel_rfl : _ = some 271) Tryz.underlying271 Tryz.underlying212 (by kernel_rfl) (by kernel_rfl) h2
theorem acceptSaid : (Rows.laid_unicode_utf8_acceptRanges : DataW Unit) = Lib.acceptData := by kernel_rfl
theorem tabs_of_laid {W : World} (h : laidMetH Tryz.prog seatLaid W) : Tabs W := by
  rw [MakeChecks.laidMetH_plain _ _ _ (by kernel_rfl)] at h
  refine utf8Tabs_of_readsT (ρ := Tryz.laysValid_ren) (U8Types.of196 Tryz.laysValid) ⟨by kernel_rfl, by kernel_rfl, by kernel_rfl, by kernel_rfl, by kernel_rfl, by kernel_rfl, by kernel_rfl⟩ ?_ ?_
  · have := Lib.laidMet.reads h (.tail _ (.tail _ (.tail _ (.tail _ (.tail _ (.tail _ (.head _)))))))
    rw [show Rows.laid_unicode_utf8_first = Lib.firstData from Pinned.utf8First_eq] at this
    exact this
  · have := Lib.laidMet.reads h (.tail _ (.tail _ (.tail _ (.head _))))
    rw [acceptSaid] at this
    exact this
theorem er_of_laid {W : World} (h : laidMetH Tryz.prog seatLaid W) : Er W := by
  rw [MakeChecks.laidMetH_plain _ _ _ (by kernel_rfl)] at h
  have h2 := laidMet.tail (laidMet.tail (laidMet.tail (laidMet.tail (laidMet.tail h))))
  obtain ⟨ps, ⟨g0, t0, cs0, f0, p0, q0, hg0, ht0, hv0, hd0, _, e0⟩, _, hrows⟩ := h2
  have hg : Tryz.prog.globalNamed "strconv.ErrSyntax" = some 5 := by kernel_rfl
  obtain rfl := Option.some.inj (hg.symm.trans hg0)
  obtain rfl := Option.some.inj ((show (Tryz.prog.globals[5]?).map (·.type) = some 102 by kernel_rfl).symm.trans ht0)
  obtain ⟨f1, u, v, hc, -⟩ := iface_of_trod Tryz.underlying102 hd0
  obtain ⟨l0⟩ := cs0
  simp only at hc
  subst hc
  exact ⟨.iface u v, by simpa using World.var?_cell hg0 hv0 0, .inr ⟨_, _, rfl⟩⟩

theorem er2_of_laid {W : World} (h : laidMetH Tryz.prog seatLaid W) : ∃ ev, W.cell? ⟨6, 0, none⟩ = some ev ∧ (ev = .nilIface ∨ ∃ te pe, ev = .iface te pe) := by
  rw [MakeChecks.laidMetH_plain _ _ _ (by kernel_rfl)] at h
  have h2 := laidMet.tail (laidMet.tail (laidMet.tail (laidMet.tail h)))
  obtain ⟨ps, ⟨g0, t0, cs0, f0, p0, q0, hg0, ht0, hv0, hd0, _, e0⟩, _, hrows⟩ := h2
  have hg : Tryz.prog.globalNamed "strconv.ErrRange" = some 6 := by kernel_rfl
  obtain rfl := Option.some.inj (hg.symm.trans hg0)
  obtain rfl := Option.some.inj ((show (Tryz.prog.globals[6]?).map (·.type) = some 102 by kernel_rfl).symm.trans ht0)
  obtain ⟨f1, u, v, hc, -⟩ := iface_of_trod Tryz.underlying102 hd0
  obtain ⟨l0⟩ := cs0
  simp only at hc
  subst hc
  exact ⟨.iface u v, by simpa using World.var?_cell hg0 hv0 0, .inr ⟨_, _, rfl⟩⟩

theorem pv_of_laid {W : World} (h : laidMetH Tryz.prog seatLaid W) : Pv W := ⟨powTab_of_laid h, tabs_of_laid h, er_of_laid h, er2_of_laid h⟩
theorem laid_met (os : Os) (args : Array Value) : laidMetH Tryz.prog seatLaid ((World.laidAll Tryz.prog os seatLaid).forCall (fun _ _ => 0) ⟨#[], args, []⟩).memory := by
  rw [MakeChecks.laidMetH_plain _ _ _ (by kernel_rfl)]
  exact laidMet_laidAll _ (by kernel_rfl) (by kernel_rfl)

section
variable {H : Type} {enc : TypeId × Value → H} {P : Program} {W W' : World}
/-- Arguments read as before, where nothing below has turned. -/
theorem trodAll_below (hl : laidOutB P = true) (hb : Below W.heap.size W W') : ∀ {ts : List TypeId} {vs : List Value} {ds : List (DataW H)} {ps : List MemPlace}, (∀ t ∈ ts, P.readableRec t = true ∧ t < P.types.size) →
    DataW.TrodAll enc P W 0 (fun _ => true) true ts vs ds ps → (∀ x ∈ ps, x.block < W.heap.size) → DataW.TrodAll enc P W' 0 (fun b => decide (b < W.heap.size)) true ts vs ds ps
  | [], [], [], _, _, h, _ => h
  | t :: ts, v :: vs, d :: ds, _, ht, h, hlt => by
    obtain ⟨p, q, h1, h2, rfl⟩ := h
    exact ⟨p, q, Below.trod hl (ht t (by simp)).1 (ht t (by simp)).2 h1 hb (fun x hx => hlt x (by simp [hx])), trodAll_below hl hb (fun u hu => ht u (by simp [hu])) h2 (fun x hx => hlt x (by simp [hx])), rfl⟩
  | [], [], _ :: _, _, _, h, _ => h.elim
  | [], _ :: _, _, _, _, h, _ => h.elim
  | _ :: _, [], _, _, _, h, _ => h.elim
  | _ :: _, _ :: _, [], _, _, h, _ => h.elim
/-- The end of a statement's row. -/
theorem law_post {f : Func} {s : ChangeSpec} {args : Array Value} {ds : List (DataW H)} {before : List MemPlace} {tb : TypeId} (hl : laidOutB P = true)
    (hW : DataW.Whole enc P f.params.toList s.vars false W args.toList ds [] before) (hvars : s.vars = []) (htb : P.underlying tb = some .bool) (hres : f.resultTypes = #[tb])
    (hfn : s.fn H ds = { results := [.lit (.bool true)], args := ds }) (hread : ∀ t ∈ f.params.toList, P.readableRec t = true ∧ t < P.types.size) (hb : Below W.heap.size W W') :
    s.post enc P f false true false false W args (.bool true) W' := by
  have hlt : ∀ x ∈ before, x.block < W.heap.size := fun x hx => hW.lt x hx
  have hW2 := hW
  obtain ⟨p, q, hA, hV, rfl, _, _⟩ := hW
  refine ⟨ds, [], p ++ q, [], p, q, hW2, ?_, ?_, ?_, hb.frame _, fun h => by cases h⟩
  · rw [List.append_nil, hfn, hres]
    exact trodAll_mk1 (shut_bool htb _)
  · rw [List.append_nil, hfn]
    exact trodAll_below hl hb hread hA (fun x hx => hlt x (by simp [hx]))
  · rw [hvars] at hV ⊢
    rw [List.append_nil, hfn]
    exact hV
end


/-- A text is no longer than the form's reach. -/
theorem text_sized {H : Type} {P : Program} {ts : List TypeId} {ds : List (DataW H)} (h : (DataW.weightsEach P ts ds).all (· ≤ reachBytes) = true) {j : Nat} {t : TypeId} {s : ByteArray} (ht : ts[j]? = some t) (hd : ds[j]? = some (.lit (.string s.data.toList))) : s.size ≤ 140737488355328 := by
  have h1 := sized_string h ht hd
  rw [Np.size_toList] at h1
  have hr : reachBytes = 140737488351232 := rfl
  rw [hr] at h1
  omega
end Go.Proofs.YtdibcamnoolnmaaGreatDoor

/-
  A card's arguments that are paths, pairs of paths, and pairs of values.
-/
namespace Go.Proofs.YtdibcamnoolnmaaGreatDoor
open Go.ChangeShapes Go.WideShapes Go.ChangeAt Go.RowKit Go.Deep Np Pw

section
variable {H : Type} {enc : TypeId × Value → H} {w : World} {base : Nat} {sp : Nat → Bool} {held : Bool}
theorem int_range {x : Int} (h : (Lit.int .i64 x).wf = true) : -9223372036854775808 ≤ x ∧ x ≤ 9223372036854775807 := by
  simp only [Lit.wf, IntKind.min, IntKind.max, IntKind.signed, IntKind.bits, Bool.and_eq_true, decide_eq_true_eq, if_true] at h
  omega
theorem cells_step : Tryz.prog.cellsOf 63 = 3 := by kernel_rfl
theorem cells_path : Tryz.prog.cellsOf 40 = 1 := by kernel_rfl
theorem cells_value : Tryz.prog.cellsOf 50 = 1 := by kernel_rfl
def StQ (s : St) : Prop := s.name.length ≤ maxLen ∧ -9223372036854775808 ≤ s.n ∧ s.n ≤ 9223372036854775807
set_option maxRecDepth 100000 in
theorem rd_step : ∀ n cs (d : DataW H × List MemPlace), DataW.trod enc Tryz.prog w base sp held n 63 cs = some d → ∃ y : St, cs = spc y ∧ StQ y := by
  intro fuel l d hf
  obtain ⟨xs, n, -, -, hl, hx, hg⟩ := DataW.trod_struct Tryz.underlying63 hf
  rw [cells_step] at hl
  have c3 : Tryz.prog.cellsOf 3 = 1 := by kernel_rfl
  have c9 : Tryz.prog.cellsOf 9 = 1 := by kernel_rfl
  have c4 : Tryz.prog.cellsOf 4 = 1 := by kernel_rfl
  have at' : ∀ i, (h : i < xs.length) → xs[i]? = some (xs[i]'h) := fun i h => List.getElem?_eq_getElem h
  have hx3 : xs.length = 3 := hx
  match l, hl with
  | [v0, v1, v2], _ =>
    have g0 := (hg 0 _ rfl).trans (at' 0 (by omega))
    have g1 := (hg 1 _ rfl).trans (at' 1 (by omega))
    have g2 := (hg 2 _ rfl).trans (at' 2 (by omega))
    simp only [List.getElem_toArray, List.getElem_cons_zero, List.getElem_cons_succ, c3, c9, c4] at g0 g1 g2
    obtain ⟨b, e0, -⟩ := DataW.trod_bool Tryz.underlying4 g0
    obtain ⟨s, e1, -, hs⟩ := DataW.trod_string Tryz.underlying9 g1
    obtain ⟨x, e2, -, hxw⟩ := DataW.trod_int Tryz.underlying3 g2
    simp at e0 e1 e2
    subst e0 e1 e2
    exact ⟨⟨b, s.data.toList, x⟩, rfl, by simpa using hs, int_range hxw⟩
set_option maxRecDepth 100000 in
theorem path_of {fuel : Nat} {v : Value} {x : DataW H × List MemPlace} (h : DataW.trod enc Tryz.prog w base sp held fuel 40 [v] = some x) : ∃ p : List St, Sps w v p ∧ Stp p := by
  obtain ⟨l, h1, h2⟩ := open_rows (Q := fun (y : St) _ => StQ y) Tryz.underlying40 cells_step (by decide) spc_len (fun n cs d h => rd_step n cs d h) h
  refine ⟨l, h1, fun s hs => ?_⟩
  rcases h2 with ⟨-, rfl⟩ | ⟨ds, sp', -, -, h3⟩
  · cases hs
  · obtain ⟨i, hi, rfl⟩ := List.getElem_of_mem hs
    obtain ⟨d, -, hq⟩ := h3 i _ (List.getElem?_eq_getElem hi)
    exact hq
set_option maxRecDepth 100000 in
/-- A path. -/
theorem open_path {r : Reach} {b0 : Nat} {v : Value} {d : DataW H} {ps : List MemPlace} (hv : Value.okWide Tryz.prog w r b0 40 v) (h : DataW.Trod enc Tryz.prog w base sp held 40 v d ps) : ∃ p : List St, Sps w v p ∧ Stp p := by
  obtain ⟨a, len, cap, rfl⟩ := okWide_slice Tryz.underlying40 hv
  obtain ⟨fuel, hf⟩ := h
  exact path_of hf
set_option maxRecDepth 100000 in
/-- Two paths. -/
theorem open_paths {r : Reach} {b0 : Nat} {v : Value} {d : DataW H} {ps : List MemPlace} (hv : Value.okWide Tryz.prog w r b0 48 v) (h : DataW.Trod enc Tryz.prog w base sp held 48 v d ps) :
    ∃ (a b : Value) (p q : List St), v = .agg #[a, b] ∧ Sps w a p ∧ Sps w b q ∧ Stp p ∧ Stp q := by
  simp only [Value.okWide, Tryz.underlying48] at hv
  obtain ⟨⟨l⟩, rfl, hl, -⟩ := hv
  rw [show Tryz.prog.cellsOf 48 = 2 by kernel_rfl] at hl
  obtain ⟨fuel, hf⟩ := h
  obtain ⟨xs, n, -, -, -, hx, hg⟩ := DataW.trod_array Tryz.underlying48 hf
  match l, hl with
  | [v0, v1], _ =>
    have g0 := (hg 0 (by decide)).trans (List.getElem?_eq_getElem (by rw [hx]; decide))
    have g1 := (hg 1 (by decide)).trans (List.getElem?_eq_getElem (by rw [hx]; decide))
    simp only [cells_path] at g0 g1
    obtain ⟨p, hp, hps⟩ := path_of (v := v0) g0
    obtain ⟨q, hq, hqs⟩ := path_of (v := v1) g1
    exact ⟨v0, v1, p, q, rfl, hp, hq, hps, hqs⟩
set_option maxRecDepth 100000 in
/-- Two values, and how long they may be. -/
theorem open_vals2 {ts : List TypeId} {ds : List (DataW H)} (hwt : (DataW.weightsEach Tryz.prog ts ds).all (· ≤ reachBytes) = true) {j : Nat} {r : Reach} {b0 : Nat} {v : Value} {d : DataW H} {ps : List MemPlace} (ht : ts[j]? = some 58) (hd : ds[j]? = some d) (hv : Value.okWide Tryz.prog w r b0 58 v) (h : DataW.Trod enc Tryz.prog w base sp held 58 v d ps) :
    ∃ (a b : Value) (l k : List Nd), v = .agg #[a, b] ∧ Nds w a l ∧ Nds w b k ∧ l.length ≤ 140737488355328 ∧ k.length ≤ 140737488355328 := by
  simp only [Value.okWide, Tryz.underlying58] at hv
  obtain ⟨⟨l⟩, rfl, hl, -⟩ := hv
  rw [show Tryz.prog.cellsOf 58 = 2 by kernel_rfl] at hl
  obtain ⟨fuel, hf⟩ := h
  obtain ⟨xs, n, -, hdx, -, hx, hg⟩ := DataW.trod_array Tryz.underlying58 hf
  injection hdx with hdx _
  have hr : reachBytes = 140737488351232 := rfl
  have b2 : Tryz.prog.bytesOf 35 = 64 := by kernel_rfl
  have key : ∀ (i : Nat) (u : Value) (x : DataW H × List MemPlace), xs[i]? = some x → DataW.trod enc Tryz.prog w base sp held n 50 [u] = some x → ∃ m : List Nd, Nds w u m ∧ m.length ≤ 140737488355328 := by
    intro i u x hxi hu
    obtain ⟨m, h1, h2⟩ := open_rows (Q := fun _ _ => True) Tryz.underlying50 cells_node (by decide) ndc_len (fun n cs d h => rd_node n cs d h) hu
    refine ⟨m, h1, ?_⟩
    rcases h2 with ⟨-, rfl⟩ | ⟨es, sp', hx1, hlen, -⟩
    · simp
    · have hmem : (es.length + sp'.length) * Tryz.prog.bytesOf 35 ∈ d.weights Tryz.prog 58 := by
        rw [hdx]
        simp only [DataW.weights, Tryz.underlying58]
        have h3 : ∀ (L : List (DataW H)) (y : DataW H), y ∈ L → ∀ z ∈ y.weights Tryz.prog 50, z ∈ DataW.weightsAll Tryz.prog 50 L := by
          intro L
          induction L with
          | nil => intro y hy; cases hy
          | cons a L ih =>
            intro y hy z hz
            simp only [DataW.weightsAll, List.mem_append]
            rcases List.mem_cons.1 hy with rfl | hy
            · exact .inl hz
            · exact .inr (ih y hy z hz)
        refine h3 _ x.1 (List.mem_map_of_mem (List.mem_of_getElem? hxi)) _ ?_
        rw [hx1]
        simp [DataW.weights, Tryz.underlying50]
      have h4 := of_decide_eq_true (List.all_eq_true.1 hwt _ (DataW.weights_mem_each ht hd _ hmem))
      rw [b2, hr] at h4
      omega
  match l, hl with
  | [v0, v1], _ =>
    have h0 : xs[0]? = some (xs[0]'(by rw [hx]; decide)) := List.getElem?_eq_getElem _
    have h1 : xs[1]? = some (xs[1]'(by rw [hx]; decide)) := List.getElem?_eq_getElem _
    have g0 := (hg 0 (by decide)).trans h0
    have g1 := (hg 1 (by decide)).trans h1
    simp only [cells_value] at g0 g1
    obtain ⟨p, hp, hps⟩ := key 0 v0 _ h0 g0
    obtain ⟨q, hq, hqs⟩ := key 1 v1 _ h1 g1
    exact ⟨v0, v1, p, q, rfl, hp, hq, hps, hqs⟩
end
end Go.Proofs.YtdibcamnoolnmaaGreatDoor

/-
  The statement PathSteps holds: called with any two paths and any value, whatever lies in memory, it returns true, and each argument reads as it read before. Conditions: the listed variables of the library (two tables of bits, one of powers of ten, two of UTF-8, strconv's two errors) read as the program's text lays them (the tie is given).
-/
namespace Go.Proofs.YtdibcamnoolnmaaGreatDoor
open Go.ChangeShapes Go.WideShapes Go.ChangeAt Go.RowKit Go.ChangeMaps Pw

set_option maxRecDepth 100000 in
theorem pathSteps_lifted (os : Os) (started : os.Started) (H : Type) (enc : TypeId × Value → H) :
    ReturnsInHanded {} Tryz.checked os 13 .any (fun w args => (Rows.pathStepsSpec.pre enc Tryz.prog Tryz.f13 [] false w args ∧ laidMetH Tryz.prog seatLaid w) ∧ sizedMet enc Tryz.prog Tryz.f13 (OpenSpec.ofChange Rows.pathStepsSpec) false w args)
      (Rows.pathStepsSpec.post enc Tryz.prog Tryz.f13 false true false false) := by
  refine returnsInHanded_of_change_and (C := Tryz.checked) (X := fun w _ => laidMetH Tryz.prog seatLaid w) (fun _ _ _ hh h => h.of_heap hh) ownKn started (by kernel_rfl) Tryz.func13
    (ChangeSpec.witness_shaped (enc := enc) (C := Tryz.checked) (os := os) (X := fun w _ => laidMetH Tryz.prog seatLaid w) false (World.laidAll Tryz.prog os seatLaid)
      #[.agg #[.slice none 0 0, .slice none 0 0], .slice none 0 0] 8 (World.laidAll_os _ _ _)
      (World.shaped_of_ZipB (by kernel_rfl) (by kernel_rfl)) (by kernel_rfl) (by kernel_rfl) (by kernel_rfl) (laid_met os _)) ?_
  intro W base args ds gs before hval0 hW _ hwt0 hL _
  have hval : ∀ (j : Nat) t v, Tryz.f13.params[j]? = some t → args[j]? = some v → Value.okWide Tryz.prog W .any base t v := hval0
  have hW' := hW
  obtain ⟨p, q, hA0, hV, rfl, _, _⟩ := hW
  have hA : DataW.TrodAll enc Tryz.prog W 0 (fun _ => true) true Tryz.f13.params.toList args.toList ds p := hA0
  have hwt : (DataW.weightsEach Tryz.prog (Tryz.f13.params.toList ++ Rows.pathStepsSpec.plain.varTypes Tryz.prog) (ds ++ gs)).all (· ≤ reachBytes) = true := hwt0
  rw [Tryz.params13] at hA hval
  obtain ⟨v0, v1, d0, d1, p0, p1, rfl, rfl, rfl, h0, h1⟩ := trodAll_two hA
  obtain ⟨rfl, rfl⟩ := trodVars_none hV
  obtain ⟨a0, b0, p0, q0, rfl, hp0, hq0, hs0, ht0⟩ := open_paths (base := 0) (sp := fun _ => true) (held := true) (hval 0 _ v0 rfl rfl) h0
  obtain ⟨l1, hv1⟩ := open_val (base := 0) (sp := fun _ => true) (held := true) (hval 1 _ v1 rfl rfl) h1
  refine (pathSteps_any a0 b0 v1 p0 q0 l1 W hp0 hq0 hs0 ht0 hv1 (pv_of_laid hL)).mono fun e W' ⟨he, hb⟩ => ?_
  subst he
  exact ⟨_, rfl, law_post (tb := 4) laidOut hW' rfl Tryz.underlying4 (by kernel_rfl) rfl (by
    rw [Tryz.params13]
    intro t ht
    have hall : ([48, 50].all fun t => Tryz.prog.readableRec t && decide (t < Tryz.prog.types.size)) = true := by kernel_rfl
    obtain ⟨h1, h2⟩ := Bool.and_eq_true_iff.1 (List.all_eq_true.1 hall t ht)
    exact ⟨h1, of_decide_eq_true h2⟩) hb⟩

set_option maxHeartbeats 8000000 in
theorem pathSteps_joined : joinedFacts Tryz.prog 13 Tryz.f13 Rows.pathStepsSpec Rows.pathStepsRow = true := by
  simp only [joinedFacts, Bool.and_eq_true]
  repeat' apply And.intro
  all_goals as_aux_lemma => kernel_rfl
theorem pathSteps_holds : Rows.PathStepsSaid :=
  OpenClaim.holds_of_wide 13 Tryz.f13 rfl rfl rfl rfl rfl rfl rfl ⟨rfl, rfl, rfl, rfl, rfl⟩ rfl rfl rfl rfl rfl (by kernel_rfl) Tryz.func13 pathSteps_joined
    (of_decide_eq_true (by kernel_rfl)) (by unfold Func.isWrapper; first | (rw [if_pos (by decide +kernel)]; kernel_rfl) | (rw [if_neg (by decide +kernel)]; exact ⟨rfl, rfl⟩))
    (fun os started H enc _ => pathSteps_lifted os started H enc)

theorem pathSteps_card : Rows.PathStepsCardSaid :=
  Claim7.holds_tied_plain_at .later [] Rows.pathStepsCard.laidKinds true Rows.pathStepsCard.stood.harness Rows.pathStepsCard.stood.looks
    pathSteps_holds (fun _ h => by cases h) (by kernel_rfl) (fun _ h => by cases h) pathSteps_row_tie rfl ⟨rfl, rfl⟩ (by kernel_rfl) rfl
    (fun f fn hf hfn => by
      obtain rfl : f = 13 := Option.some.inj ((show Tryz.prog.funcNamed "loupe/loupelaw06.PathSteps" = some 13 by kernel_rfl).symm.trans hf) |>.symm
      obtain rfl : fn = Tryz.f13 := (Option.some.inj (Tryz.func13.symm.trans hfn)).symm
      exact ⟨by kernel_rfl, fun j t ht => by
        rw [Tryz.params13] at ht
        have hm : t ∈ [48, 50] := by simpa using Array.mem_of_getElem? ht
        have hall : ([48, 50].all fun u => !Tryz.prog.wantsStandIn u) = true := by kernel_rfl
        exact (show Tryz.prog.wantsStandIn t = false by simpa using List.all_eq_true.1 hall t hm)⟩)
    (by kernel_rfl)
#print axioms pathSteps_card
end Go.Proofs.YtdibcamnoolnmaaGreatDoor
