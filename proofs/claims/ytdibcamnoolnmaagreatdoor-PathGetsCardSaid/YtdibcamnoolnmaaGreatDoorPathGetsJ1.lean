/-
  Joined: PaAl2, PaLw, PaLv, PGP, PG1, PG2, PG3, PG4, PathGets, PWLaw, PWOpen, PathGetsCard.
-/
import Derived.Test.YtdibcamnoolnmaaGreatDoorPathSetsJ18
import Derived.Test.YtdibcamnoolnmaaGreatDoorPathSetsJ12
import Derived.Test.YtdibcamnoolnmaaGreatDoorRefW6
import Derived.Test.YtdibcamnoolnmaaGreatDoorPathSetsJ14
import Derived.Test.YtdibcamnoolnmaaGreatDoorPathSetsJ7
import Derived.Test.YtdibcamnoolnmaaGreatDoorPathSetsJ8
import Derived.Test.YtdibcamnoolnmaaGreatDoorTie
import Derived.Test.YtdibcamnoolnmaaGreatDoorCards
import Derived.ProofKit
import Derived.LaidMore
import Derived.OpenShut
import Derived.Lay
import Derived.Carry
import Derived.SevenTiedAt
import Derived.Stop.Joined
import Derived.Lib.LaidTab
import Derived.Stop.LaidErr
import Derived.Lib.LaidU8T
import Derived.PinnedBridge
import Derived.SizedLaws
import Derived.Test.YtdibcamnoolnmaaGreatDoorPathSetsJ9

/-
  The live question of path's laws: its walk.
-/
namespace Go.Proofs.YtdibcamnoolnmaaGreatDoor
open Go.RowKit Np Rw Vp Up Qp Pw

set_option maxRecDepth 100000 in
set_option maxHeartbeats 4000000 in
theorem palive_any (w : World) (hT : Pv w) : Calls Tryz.prog 31 #[] w fun e w' => e = .returned (.bool true) ∧ Below w.heap.size w w' := by
  have H1 : Hid (∀ W, Pv W → Calls Tryz.prog 32 #[.string ⟨#[46, 97, 91, 48, 93, 46, 34, 98, 32, 99, 34]⟩] W fun e w' => ∃ (A : Option Addr) (c : Nat), e = .returned (.tuple #[.slice A 3 c, .int .i64 0, .int .i64 0]) ∧ Hid (Sps w' (.slice A 3 c) pthA) ∧ Hid (Below W.heap.size W w')) := Lib.hid (fun W hW => by
    refine (pread_any ⟨#[46, 97, 91, 48, 93, 46, 34, 98, 32, 99, 34]⟩ W (by decide) hW).mono ?_
    rintro e w' ⟨A, n, c, he, hs, hb⟩
    change e = .returned (.tuple #[.slice A n c, .int .i64 ((readP txtA).2.1 : Nat), .int .i64 (readP txtA).2.2]) at he
    change Sps w' (.slice A n c) (readP txtA).1 at hs
    rw [read_A] at he hs
    obtain ⟨A', c', hv, -⟩ := id hs
    injection hv with _ e2 _
    change n = 3 at e2
    subst e2
    exact ⟨A, c, he, Lib.hid hs, Lib.hid hb⟩)
  have H2 : Hid (∀ W, Pv W → Calls Tryz.prog 32 #[.string ⟨#[46, 97, 46]⟩] W fun e w' => ∃ (A : Option Addr) (n c : Nat), e = .returned (.tuple #[.slice A n c, .int .i64 2, .int .i64 1]) ∧ Hid (Below W.heap.size W w')) := Lib.hid (fun W hW => by
    refine (pread_any ⟨#[46, 97, 46]⟩ W (by decide) hW).mono ?_
    rintro e w' ⟨A, n, c, he, hs, hb⟩
    change e = .returned (.tuple #[.slice A n c, .int .i64 ((readP [46, 97, 46]).2.1 : Nat), .int .i64 (readP [46, 97, 46]).2.2]) at he
    rw [read_B] at he
    exact ⟨A, n, c, he, Lib.hid hb⟩)
  have HT := Lib.hid hT
  clear hT
  go_enter Tryz.func31, Tryz.ntmps31
  go_wp2_with fail
  refine (H1.out _ HT.out).mono ?_
  rintro e w1 ⟨A1, c1, rfl, HP1, HB1⟩
  go_wp2_with fail
  refine (H2.out _ (HT.out.below HB1.out)).mono ?_
  rintro e w2 ⟨A2, n2, c2, rfl, hb2⟩
  have HP2 := Lib.hid (HP1.out.below hb2.out)
  have HB2 := Lib.hid (Below.after HB1.out hb2.out)
  clear hb2 HP1 HB1
  go_wp2_with fail
  have hone : Nds ((w2.alloc (.cells #[.int .i64 2, .int .i64 0, .string ⟨#[]⟩, .string ⟨#[]⟩, .bool false, .int .i64 0] 35)).alloc (.cells #[.int .i64 6, .int .i64 0, .string ⟨#[]⟩, .string ⟨#[]⟩, .bool false, .int .i64 0] 35)) (.slice (some ⟨w2.heap.size, 0, none⟩) 1 1) oneL := (row_one ndc_len w2 _ rfl _ _ trueN rfl : Nds _ _ oneL).below ((Below.refl _ _).alloc (Nat.le_refl _) _)
  have hobe : Nds ((w2.alloc (.cells #[.int .i64 2, .int .i64 0, .string ⟨#[]⟩, .string ⟨#[]⟩, .bool false, .int .i64 0] 35)).alloc (.cells #[.int .i64 6, .int .i64 0, .string ⟨#[]⟩, .string ⟨#[]⟩, .bool false, .int .i64 0] 35)) (.slice (some ⟨w2.heap.size + 1, 0, none⟩) 1 1) (flat obE) := row_one ndc_len _ _ (by simp) _ _ (hdN 6 0) rfl
  have hB3 : Below w2.heap.size w2 ((w2.alloc (.cells #[.int .i64 2, .int .i64 0, .string ⟨#[]⟩, .string ⟨#[]⟩, .bool false, .int .i64 0] 35)).alloc (.cells #[.int .i64 6, .int .i64 0, .string ⟨#[]⟩, .string ⟨#[]⟩, .bool false, .int .i64 0] 35)) := ((Below.refl _ _).alloc (Nat.le_refl _) _).alloc (by simp) _
  have hs3 : ((w2.alloc (.cells #[.int .i64 2, .int .i64 0, .string ⟨#[]⟩, .string ⟨#[]⟩, .bool false, .int .i64 0] 35)).alloc (.cells #[.int .i64 6, .int .i64 0, .string ⟨#[]⟩, .string ⟨#[]⟩, .bool false, .int .i64 0] 35)).heap.size = w2.heap.size + 1 + 1 := by simp
  generalize (w2.alloc (.cells #[.int .i64 2, .int .i64 0, .string ⟨#[]⟩, .string ⟨#[]⟩, .bool false, .int .i64 0] 35)).alloc (.cells #[.int .i64 6, .int .i64 0, .string ⟨#[]⟩, .string ⟨#[]⟩, .bool false, .int .i64 0] 35) = W3 at hone hobe hB3 hs3 ⊢
  have HS3 := Lib.hid hs3
  have HP3 := Lib.hid (HP2.out.below hB3)
  have HB3 := Lib.hid (Below.after HB2.out hB3)
  clear hs3 hB3 HP2 HB2
  generalize w2.heap.size = q2 at *
  have hL := refList_any _ [oneL, oneL] _ (vls_two W3 _ HS3.out 50 _ _ _ _ hone hone) (by decide) (by decide)
  rw [list_2] at hL
  refine hL.mono ?_
  rintro e w4 h4
  obtain ⟨A4, c4, rfl, hl4, hb4⟩ := h4.is (n := 3) rfl
  have hBa : Below W3.heap.size W3 w4 := ((Below.refl _ _).alloc (Nat.le_refl _) _).trans (hb4.mono (by simp))
  have HONE4 := Lib.hid (hone.below hBa)
  have HOBE4 := Lib.hid (hobe.below hBa)
  have HL4 := Lib.hid hl4
  have HP4 := Lib.hid (HP3.out.below hBa)
  have HB4 := Lib.hid (Below.after HB3.out hBa)
  clear hL hone hobe hl4 hb4 hBa h4 HP3 HB3 HS3
  go_wp2_with fail
  have hW := refWith_any _ _ obE twoT [97] w4 HOBE4.out (by rw [flat_two]; exact HL4.out) (by decide) (by rw [flat_two]; decide) obE_val rfl two_val vld_a (by decide) (by intro s hs; simp [obE] at hs)
  change Calls _ _ _ _ (OwnsN w4 (flat obG)) at hW
  rw [flat_G] at hW
  refine hW.mono ?_
  rintro e w5 h5
  obtain ⟨A5, c5, rfl, hl5, hb5⟩ := h5.is (n := 4) rfl
  have HONE5 := Lib.hid (HONE4.out.below hb5)
  have HV5 : Hid (Nds w5 (.slice A5 4 c5) (flat obG)) := Lib.hid (by rw [flat_G]; exact hl5)
  have HP5 := Lib.hid (HP4.out.below hb5)
  have HB5 := Lib.hid (Below.after HB4.out hb5)
  clear hW h5 hl5 hb5 HONE4 HOBE4 HL4 HP4 HB4
  go_wp2_with fail
  have hq5 : Below w5.heap.size w5 (w5.alloc (.cells #[.bool false, .string ⟨#[97]⟩, .int .i64 0, .bool true, .string ⟨#[]⟩, .int .i64 1] 63)) := (Below.refl _ _).alloc (Nat.le_refl _) _
  have hG := pget_any _ _ pthG obG _ (Row.lit spc_len w5 63 #[.bool false, .string ⟨#[97]⟩, .int .i64 0, .bool true, .string ⟨#[]⟩, .int .i64 1] pthG (by decide) rfl) (HV5.out.below hq5) obG_val.ok (by rw [flat_G]; decide) (by decide)
  rw [err_G, got_G] at hG
  refine hG.mono ?_
  rintro e w6 ⟨A6, n6, c6, rfl, hl6, hb6⟩
  have hBb := hq5.trans (hb6.mono (by simp))
  have HX6 := Lib.hid hl6
  have HONE6 := Lib.hid (HONE5.out.below hBb)
  have HV6 := Lib.hid (HV5.out.below hBb)
  have HP6 := Lib.hid (HP5.out.below hBb)
  have HB6 := Lib.hid (Below.after HB5.out hBb)
  clear hG hl6 hb6 hBb hq5 HONE5 HV5 HP5 HB5
  go_wp2_with fail
  have hq6 : Below w6.heap.size w6 (w6.alloc (.cells #[.bool false, .string ⟨#[97]⟩, .int .i64 0] 63)) := (Below.refl _ _).alloc (Nat.le_refl _) _
  have hS := pset_any _ _ _ pthS obG oneT _ (Row.lit spc_len w6 63 #[.bool false, .string ⟨#[97]⟩, .int .i64 0] pthS (by decide) rfl) (HV6.out.below hq6) (by rw [flat_one]; exact HONE6.out.below hq6) obG_val.ok (by rw [flat_G]; decide) (by rw [flat_one]; decide) (by decide)
  rw [err_S, put_S] at hS
  refine hS.mono ?_
  rintro e w7 ⟨A7, n7, c7, rfl, hl7, hb7⟩
  obtain rfl : n7 = 2 := by
    obtain ⟨B, d, hv, -⟩ := hl7
    injection hv
  have hBb := hq6.trans (hb7.mono (by simp))
  have HX7 := Lib.hid (HX6.out.below hBb)
  have HONE7 := Lib.hid (HONE6.out.below hBb)
  have HP7 := Lib.hid (HP6.out.below hBb)
  have HB7 := Lib.hid (Below.after HB6.out hBb)
  clear hS hl7 hb7 hBb hq6 HX6 HONE6 HV6 HP6 HB6
  go_wp2_with fail
  have hTx := ptext_any _ pthA w7 HP7.out (by decide) (by intro s hs; simp [pthA] at hs; rcases hs with rfl | rfl | rfl <;> decide) (by rw [text_A]; decide) (HT.out.below HB7.out).pow
  rw [text_A] at hTx
  refine hTx.mono ?_
  rintro e w8 ⟨rfl, hb8⟩
  have HX8 := Lib.hid (HX7.out.below hb8)
  have HONE8 := Lib.hid (HONE7.out.below hb8)
  have HP8 := Lib.hid (HP7.out.below hb8)
  have HB8 := Lib.hid (Below.after HB7.out hb8)
  clear hTx hb8 HX7 HONE7 HP7 HB7
  go_wp2_with fail
  have hSm := refSame_any _ _ _ _ w8 HX8.out HONE8.out
  rw [show decide (oneL = oneL) = true by simp] at hSm
  refine hSm.mono ?_
  rintro e w9 ⟨rfl, hb9⟩
  have HP9 := Lib.hid (HP8.out.below hb9)
  have HB9 := Lib.hid (Below.after HB8.out hb9)
  clear hSm hb9 HX8 HONE8 HP8 HB8
  go_wp2_with fail
  have hR := pright_any _ pthA w9 HP9.out (by decide) (by intro s hs; simp [pthA] at hs; unfold maxLen; rcases hs with rfl | rfl | rfl <;> simp) (HT.out.below HB9.out).tabs
  rw [right_A] at hR
  refine hR.mono ?_
  rintro e w10 ⟨rfl, hb10⟩
  have HP10 := Lib.hid (HP9.out.below hb10)
  have HB10 := Lib.hid (Below.after HB9.out hb10)
  clear hR hb10 HP9 HB9
  go_wp2_with fail
  have hq : Below w10.heap.size w10 (w10.alloc (.cells #[.bool false, .string ⟨#[98]⟩, .int .i64 0] 63)) := (Below.refl _ _).alloc (Nat.le_refl _) _
  have hA := papart_any _ _ pthA pthB _ (HP10.out.below hq) (Row.lit spc_len w10 63 #[.bool false, .string ⟨#[98]⟩, .int .i64 0] pthB (by decide) rfl) (by decide) (by decide)
  rw [apart_B] at hA
  refine hA.mono ?_
  rintro e w11 ⟨rfl, n11, rfl⟩
  have HB11 := Lib.hid (drewN_below (Below.after HB10.out hq) n11)
  clear hA hq HP10 HB10
  go_wp2_with fail
  go_ret
  exact ⟨rfl, HB11.out⟩
end Go.Proofs.YtdibcamnoolnmaaGreatDoor

/-
  What path's laws share: trees out of short values; how long a value is with something else there, and its texts; errors.
-/
namespace Go.Proofs.YtdibcamnoolnmaaGreatDoor
open Go.RowKit Np Rw Vp Up Qp Pw

/-- What a path's steps are, as they come. -/
def Stp (p : List St) : Prop := ∀ s ∈ p, s.name.length ≤ maxLen ∧ -9223372036854775808 ≤ s.n ∧ s.n ≤ 9223372036854775807
theorem Stp.nm {p : List St} (h : Stp p) : ∀ s ∈ p, s.name.length ≤ maxLen := fun s hs => (h s hs).1
theorem fewp_len {p : List St} (h : fewP p = true) : p.length ≤ 31 ∧ ∀ s ∈ p, s.name.length ≤ 100 := by
  unfold fewP at h
  rw [Bool.and_eq_true, decide_eq_true_eq, List.all_eq_true] at h
  exact ⟨h.1, fun s hs => by simpa [shortS] using h.2 s hs⟩
theorem rightp_all {p : List St} (h : rightP p = true) : p.all rightS = true ∧ p.length ≤ 20 := by
  unfold rightP at h
  rw [Bool.and_eq_true, decide_eq_true_eq] at h
  exact h
theorem err_cases : ∀ (p : List St) (t : Tr Nd), errP p t = 0 ∨ errP p t = 5 ∨ errP p t = 6
  | [], _ => .inl rfl
  | s :: p, t => by
    rw [errP]
    split
    · exact .inr (.inl rfl)
    · split
      · exact .inr (.inr rfl)
      · exact err_cases p _
theorem got_none {p : List St} {t : Tr Nd} (h : errP p t ≠ 0) : gotP p t = [] := by
  unfold gotP
  cases hs : subP p t with
  | none => rfl
  | some u => exact absurd ((errP_iff p t).2 (by rw [hs]; rfl)) h
theorem put_none {p : List St} {t x : Tr Nd} (h : errP p t ≠ 0) : putP p t x = [] := by unfold putP; rw [if_neg h]
theorem sub_some {p : List St} {t : Tr Nd} (h : errP p t = 0) : ∃ u, subP p t = some u := by
  have := (errP_iff p t).1 h
  exact Option.isSome_iff_exists.1 this
theorem row_of {w : World} {A : Option Addr} {n c : Nat} {l : List Nd} (h : Nds w (.slice A n c) l) : n = l.length := by
  obtain ⟨B, d, hv, -⟩ := h
  injection hv
theorem set_len {p : List St} {t u x : Tr Nd} (h : subP p t = some u) : (flat (setP p t x)).length ≤ (flat t).length + (flat x).length := by
  obtain ⟨pre, post, h1, -, h2⟩ := row_at p t u h
  rw [h2 x, h1]
  have : (flat (nmd u.nd.name x)).length = (flat x).length := by rw [nmd, flat_mk, flat_eq x]; simp
  simp only [List.length_append, this]
  omega
theorem short_nmd {nm : List UInt8} {x : Tr Nd} (hn : nm.length ≤ maxLen) (h : Short (flat x)) : Short (flat (nmd nm x)) := by
  intro n hn2
  rw [nmd, flat_mk] at hn2
  rcases List.mem_cons.1 hn2 with rfl | hn3
  · exact ⟨hn, (h x.nd (by rw [flat_eq]; simp)).2⟩
  · exact h n (by rw [flat_eq]; exact List.mem_cons_of_mem _ hn3)
theorem set_short {p : List St} {t u x : Tr Nd} (h : subP p t = some u) (ht : Short (flat t)) (hx : Short (flat x)) : Short (flat (setP p t x)) := by
  obtain ⟨pre, post, h1, -, h2⟩ := row_at p t u h
  rw [h2 x]
  rw [h1] at ht
  intro n hn
  rcases List.mem_append.1 hn with hn | hn
  · rcases List.mem_append.1 hn with hn | hn
    · exact ht n (by simp [hn])
    · exact short_nmd (ht u.nd (by rw [flat_eq]; simp)).1 hx n hn
  · exact ht n (by simp [hn])
theorem val_name {x : Tr Nd} (h : Val x) : nmd [] x = x := nmd_val h []
/-- What is got where something was set. -/
theorem got_set {p : List St} {t u x : Tr Nd} (h : subP p t = some u) (hx : Val x) : gotP p (setP p t x) = flat x := by
  unfold gotP
  rw [sub_set p t u x h]
  simp only
  rw [nmd_val hx]
theorem got_some {p : List St} {t u : Tr Nd} (h : subP p t = some u) : gotP p t = flat (nmd [] u) := by unfold gotP; rw [h]
theorem few_tr {l : List Nd} (h : few 60 l = true) : ∃ t : Tr Nd, Val t ∧ l = flat t ∧ (flat t).length ≤ 60 ∧ Short (flat t) := by
  rw [few, Bool.and_eq_true, Bool.and_eq_true, decide_eq_true_eq] at h
  obtain ⟨⟨h1, h2⟩, h3⟩ := h
  obtain ⟨t, ht, rfl⟩ := val_of_rightL h3
  exact ⟨t, ht, rfl, h1, few_short h2⟩
end Go.Proofs.YtdibcamnoolnmaaGreatDoor

/-
  Plain words for path's laws: how long texts are; what stands at two paths, one behind the other.
-/
namespace Go.Proofs.YtdibcamnoolnmaaGreatDoor
open Go.RowKit Np Rw Vp Up Qp Pw

theorem stt_mem {p : List St} {s : St} (h : s ∈ p) : (stT s).length ≤ (textP p).length := by
  unfold textP
  rw [List.length_append]
  have : (stT s).length ≤ (p.flatMap stT).length := by
    induction p with
    | nil => cases h
    | cons a p ih =>
      rw [List.flatMap_cons, List.length_append]
      rcases List.mem_cons.1 h with rfl | h
      · omega
      · have := ih h; omega
  omega
theorem wrs_ge : ∀ l : List UInt8, l.length ≤ (wrs l).length
  | [] => by simp
  | c :: r => by
    have h := wrs_ge r
    have h2 : 1 ≤ (wr c).length := by
      unfold wr
      repeat' split
      all_goals simp
    have : wrs (c :: r) = wr c ++ wrs r := by simp [wrs]
    rw [this, List.length_append, List.length_cons]
    omega
theorem name_len {s : St} (h : rightS s = true) : s.name.length ≤ (stT s).length ∧ 0 ≤ s.n ∧ s.n ≤ 1000000 := by
  unfold rightS at h
  unfold stT
  split at h
  · rename_i hp
    rw [if_pos hp]
    simp only [Bool.and_eq_true, decide_eq_true_eq] at h
    obtain ⟨⟨h1, h2⟩, h3⟩ := h
    exact ⟨by rw [h1]; simp, h2, h3⟩
  · rename_i hp
    rw [if_neg hp]
    simp only [Bool.and_eq_true, decide_eq_true_eq] at h
    refine ⟨?_, by omega, by omega⟩
    split
    · simp
    · have := wrs_ge s.name
      rw [List.length_cons, quo_len]; omega
/-- A right path's steps are as path's calls want them. -/
theorem right_steps {p : List St} {n : Nat} (h : rightP p = true) (ht : (textP p).length ≤ n) : ∀ s ∈ p, s.name.length ≤ n ∧ -9223372036854775808 ≤ s.n ∧ s.n ≤ 9223372036854775807 := fun s hs => by
  have h1 := name_len (List.all_eq_true.1 (rightp_all h).1 s hs)
  have h2 := stt_mem hs
  omega
theorem stt_len {s : St} (hn : s.name.length ≤ 100) (h0 : -9223372036854775808 ≤ s.n) (h1 : s.n ≤ 9223372036854775807) : (stT s).length ≤ 700 := by
  have hi := Lib.itoa_length_le s.n h0 h1
  have hw := wrs_le s.name
  unfold stT
  split
  · simp; omega
  · split
    · simp; omega
    · rw [List.length_cons, quo_len]; omega
theorem text_len {p : List St} (h : ∀ s ∈ p, (stT s).length ≤ 700) : (textP p).length ≤ 1 + 700 * p.length := by
  have h1 : (headT p).length ≤ 1 := by
    unfold headT; split
    · simp
    · split <;> simp
  have h2 : (p.flatMap stT).length ≤ 700 * p.length := by
    clear h1
    induction p with
    | nil => simp
    | cons a p ih =>
      have h3 := h a (by simp)
      have h4 := ih (fun s hs => h s (by simp [hs]))
      rw [List.flatMap_cons, List.length_append, List.length_cons]
      omega
  unfold textP
  rw [List.length_append]; omega
theorem text_short {p : List St} (hf : fewP p = true) (hs : Stp p) : (textP p).length ≤ 21701 := by
  obtain ⟨h1, h2⟩ := fewp_len hf
  have := text_len (p := p) (fun s h => stt_len (h2 s h) (hs s h).2.1 (hs s h).2.2)
  omega
theorem kid_nmd (s : St) (nm : List UInt8) (t : Tr Nd) : kid s (nmd nm t) = kid s t := rfl
theorem getD_eq {α : Type} {l : List α} {k : Nat} (h : k < l.length) (a b : α) : l.getD k a = l.getD k b := by
  simp [List.getD, List.getElem?_eq_getElem h]
theorem got_nmd : ∀ (q : List St) (t : Tr Nd), gotP q (nmd [] t) = gotP q t ∧ errP q (nmd [] t) = errP q t
  | [], t => ⟨rfl, rfl⟩
  | s :: q, t => by
    unfold gotP
    rw [subP, subP, errP, errP, kid_nmd]
    show (match (match kid s t with | none => none | some k => subP q ((nmd [] t).ks.getD k (nmd [] t))) with | none => [] | some u => flat (nmd [] u)) = _ ∧ (if t.nd.kind ≠ stKind s then 5 else match kid s t with | none => 6 | some k => errP q ((nmd [] t).ks.getD k (nmd [] t))) = _
    cases hk : kid s t with
    | none => exact ⟨rfl, rfl⟩
    | some k =>
      have hl := (kid_lt hk).1
      simp only
      rw [show (nmd [] t).ks.getD k (nmd [] t) = t.ks.getD k t from getD_eq hl _ _]
      exact ⟨rfl, rfl⟩
/-- What stands at two paths, one behind the other. -/
theorem got_append {p q : List St} {t u : Tr Nd} (h : subP p t = some u) : gotP (p ++ q) t = gotP q (nmd [] u) ∧ errP (p ++ q) t = errP q (nmd [] u) := by
  obtain ⟨h1, h2⟩ := got_nmd q u
  rw [h1, h2]
  refine ⟨?_, ?_⟩
  · unfold gotP
    rw [sub_append, h]; rfl
  · rw [err_append, if_pos ((errP_iff p t).2 (by rw [h]; rfl)), h]
theorem got_append_bad {p q : List St} {t : Tr Nd} (h : errP p t ≠ 0) : gotP (p ++ q) t = [] ∧ errP (p ++ q) t = errP p t := by
  have h2 : errP (p ++ q) t = errP p t := by rw [err_append, if_neg h]
  exact ⟨got_none (by rw [h2]; exact h), h2⟩
/-- A path's beginning, as it lies. -/
theorem sps_take {w : World} {A : Option Addr} {c : Nat} {l : List St} (h : Sps w (.slice A l.length c) l) (k : Nat) (hk : k ≤ l.length) : Sps w (.slice A k c) (l.take k) := by
  obtain ⟨A', c', hv, hc, hcm, hz, hx⟩ := h
  injection hv with e1 _ e3
  subst e1 e3
  have hl : (l.take k).length = k := by rw [List.length_take]; omega
  refine ⟨A, c, by rw [hl], by rw [hl]; omega, hcm, hz, fun h0 => ?_⟩
  rw [hl] at h0
  obtain ⟨g, o, hA, hg, hx⟩ := hx (by omega)
  refine ⟨g, o, hA, hg, fun j x hj => hx j x ?_⟩
  rw [List.getElem?_take] at hj
  split at hj
  · exact hj
  · cases hj
/-- Two values in an array, as they lie. -/
structure LcAt (w : World) (b : Nat) (x y : Value) : Prop where
  c0 : w.cell? ⟨b, 0, none⟩ = some x
  c1 : w.cell? ⟨b, 1, none⟩ = some y
  lt : b < w.heap.size
theorem LcAt.below {w w' : World} {b : Nat} {x y : Value} (h : LcAt w b x y) (hb : Below w.heap.size w w') : LcAt w' b x y :=
  ⟨(hb.cell (p := ⟨b, 0, none⟩) h.lt).trans h.c0, (hb.cell (p := ⟨b, 1, none⟩) h.lt).trans h.c1, Nat.lt_of_lt_of_le h.lt hb.size⟩
end Go.Proofs.YtdibcamnoolnmaaGreatDoor

/-
  Plain words: the document's own part of a value, and its value with something else there, are those of the plain words. No program stands here.
-/
namespace Go.Proofs.YtdibcamnoolnmaaGreatDoor
open Go.RowKit Np Rw Vp Up Qp Pw

theorem seek_field {s : St} (hs : s.part = false) : ∀ (ts : List (Tr Nd)) (k0 : Nat), (seekN s (names ts) k0 = none → ts.filter (fun u => decide (u.nd.name = s.name)) = []) ∧
    ∀ j, seekN s (names ts) k0 = some j → ∃ u rest, k0 ≤ j ∧ ts[j - k0]? = some u ∧ ts.filter (fun u => decide (u.nd.name = s.name)) = u :: rest
  | [], k0 => ⟨fun _ => rfl, fun j h => by simp [names, seekN] at h⟩
  | a :: ts, k0 => by
    obtain ⟨h1, h2⟩ := seek_field hs ts (k0 + 1)
    have hl : lead s k0 a.nd.name = decide (a.nd.name = s.name) := by unfold lead; rw [hs]; simp
    show (seekN s (a.nd.name :: names ts) k0 = none → _) ∧ ∀ j, seekN s (a.nd.name :: names ts) k0 = some j → _
    rw [seekN, hl]
    by_cases ha : a.nd.name = s.name
    · have hd : decide (a.nd.name = s.name) = true := by simpa using ha
      rw [hd]
      refine ⟨fun h => by simp at h, fun j h => ?_⟩
      simp at h
      subst h
      exact ⟨a, _, Nat.le_refl _, by simp, by rw [List.filter_cons, hd]; rfl⟩
    · have hd : decide (a.nd.name = s.name) = false := by simpa using ha
      rw [hd]
      refine ⟨fun h => ?_, fun j h => ?_⟩
      · rw [List.filter_cons, hd]
        exact h1 (by simpa using h)
      · obtain ⟨u, rest, g1, g2, g3⟩ := h2 j (by simpa using h)
        refine ⟨u, rest, by omega, ?_, by rw [List.filter_cons, hd]; exact g3⟩
        rw [show j - k0 = (j - (k0 + 1)) + 1 by omega, List.getElem?_cons_succ]
        exact g2
theorem seek_part {s : St} (hs : s.part = true) {n : Nat} (hn : s.n = n) : ∀ (l : List (List UInt8)) (k0 : Nat), k0 ≤ n → seekN s l k0 = if n < k0 + l.length then some n else none
  | [], k0, h => by rw [seekN, if_neg (by simp; omega)]
  | a :: l, k0, h => by
    have hl : lead s k0 a = decide ((k0 : Int) = n) := by unfold lead; rw [hs, hn]; simp
    rw [seekN, hl]
    by_cases hk : k0 = n
    · subst hk
      simp
    · have : decide ((k0 : Int) = (n : Int)) = false := by simp; omega
      rw [this, seek_part hs hn l (k0 + 1) (by omega)]
      simp only [Bool.false_eq_true, if_false, List.length_cons]
      rw [show k0 + 1 + l.length = k0 + (l.length + 1) by omega]
/-- A part by its number. -/
theorem kid_part {s : St} {t : Tr Nd} {n : Nat} (hs : s.part = true) (hn : s.n = n) : kid s t = if t.nd.kind = 5 then (if n < t.ks.length then some n else none) else none := by
  unfold kid stKind
  rw [hs, seek_part hs hn _ 0 (Nat.zero_le _)]
  simp [names]
/-- A part by its name. -/
theorem kid_field {s : St} {t : Tr Nd} (hs : s.part = false) (hk : t.nd.kind = 6) : (kid s t = none → fieldV s.name t = [] ∧ fieldB s.name t = false) ∧ ∀ k, kid s t = some k → fieldV s.name t = flat (nmd [] (t.ks.getD k t)) ∧ fieldB s.name t = true := by
  have hkd : kid s t = seekN s (names t.ks) 0 := by unfold kid stKind; rw [hs]; simp [hk]
  have hm : midT s.name t = t.ks.filter (fun u => decide (u.nd.name = s.name)) := by rw [midT, if_pos hk]
  obtain ⟨h1, h2⟩ := seek_field hs t.ks 0
  rw [hkd]
  unfold fieldV fieldB
  rw [hm]
  refine ⟨fun h => ?_, fun k h => ?_⟩
  · rw [h1 h]; exact ⟨rfl, rfl⟩
  · obtain ⟨u, rest, -, g2, g3⟩ := h2 k h
    rw [g3]
    rw [Nat.sub_zero] at g2
    have : t.ks.getD k t = u := by simp [List.getD, g2]
    rw [this]
    exact ⟨rfl, rfl⟩
theorem got_one (s : St) (t : Tr Nd) : gotP [s] t = match kid s t with | none => [] | some k => flat (nmd [] (t.ks.getD k t)) := by
  unfold gotP
  rw [subP]
  cases kid s t <;> rfl
theorem err_one (s : St) (t : Tr Nd) : errP [s] t = if t.nd.kind ≠ stKind s then 5 else match kid s t with | none => 6 | some _ => 0 := by
  rw [errP]
  cases kid s t <;> rfl
theorem set_nmd : ∀ (p : List St) (c x : Tr Nd), setP p (nmd [] c) x = nmd [] (setP p c x)
  | [], c, x => rfl
  | s :: p, c, x => by
    rw [setP, setP, kid_nmd]
    cases hk : kid s c with
    | none => rfl
    | some k =>
      have hl := (kid_lt hk).1
      simp only
      rw [show (nmd [] c).ks.getD k (nmd [] c) = c.ks.getD k c from getD_eq hl _ _]
      rfl
/-- A list with another part. -/
theorem list_set {t : Tr Nd} {k : Nat} {y : Tr Nd} (ht : Val t) (hk : t.nd.kind = 5) : hdN 5 (((t.ks.map fun u => flat (nmd [] u)).set k (flat y)).length) :: ((t.ks.map fun u => flat (nmd [] u)).set k (flat y)).flatten = flat (.mk t.nd (t.ks.set k y)) := by
  have h1 := ht.arr hk
  have hnd : t.nd = hdN 5 t.ks.length := by
    conv => lhs; rw [h1]
    rfl
  have hp : t.ks.map (fun u => flat (nmd [] u)) = t.ks.map flat := by
    apply List.map_congr_left
    intro u hu
    have h0 := nmd_self u
    rw [ht.unnamed hk u hu] at h0
    rw [h0]
  rw [hp, flat_mk, List.length_set, List.length_map, ← hnd]
  congr 1
  rw [flats_map, List.map_set]
/-- An object with another part. -/
theorem obj_set {t u : Tr Nd} {k : Nat} {s : St} (y : Tr Nd) (ht : Val t) (hk : t.nd.kind = 6) (hu : t.ks[k]? = some u) (hn : u.nd.name = s.name) : withT s.name y t = .mk t.nd (t.ks.set k (nmd s.name y)) := by
  have hc := ht.cut hk s.name
  have h1 := ht.obj hk
  have hall := hc.all
  have hlt : ∀ {a b : List UInt8}, a < b → ¬ a = b := fun h1 h2 => List.lt_irrefl _ (h2 ▸ h1)
  have hkl := (List.getElem?_eq_some_iff.1 hu).1
  obtain ⟨hlo, hhi⟩ : ¬ k < (loT s.name t.ks).length ∧ ¬ (loT s.name t.ks).length + (eqT s.name t.ks).length ≤ k := by
    constructor
    · intro h
      rw [hall, List.getElem?_append_left h] at hu
      exact hlt (hc.lo u (List.mem_of_getElem? hu)) hn
    · intro h
      rw [hall, List.getElem?_append_right (by omega), List.getElem?_append_right (by omega)] at hu
      exact hlt (hc.hi u (List.mem_of_getElem? hu)) hn.symm
  have hone := hc.one
  have hkk : k = (loT s.name t.ks).length := by omega
  have hel : (eqT s.name t.ks).length = 1 := by omega
  obtain ⟨e, he⟩ : ∃ e, eqT s.name t.ks = [e] := by
    match hm : eqT s.name t.ks, hel with
    | [e], _ => exact ⟨e, rfl⟩
  have hset : t.ks.set k (nmd s.name y) = loT s.name t.ks ++ ([nmd s.name y] ++ hiT s.name t.ks) := by
    conv => lhs; rw [hall, he, hkk]
    rw [List.set_append_right _ _ (Nat.le_refl _), Nat.sub_self]
    rfl
  have hnd : t.nd = hdN 6 t.ks.length := by
    conv => lhs; rw [h1]
    rfl
  rw [hset, hnd]
  unfold withT objT
  congr 2
  rw [← hset, List.length_set]
end Go.Proofs.YtdibcamnoolnmaaGreatDoor

/-
  The document's own part of a value, by a step.
-/
namespace Go.Proofs.YtdibcamnoolnmaaGreatDoor
open Go.RowKit Np Rw Vp Up Qp Pw

/-- A value comes out, with an error. -/
def GotE (w : World) (l : List Nd) (E : Int) (e : Ending) (w' : World) : Prop := ∃ (A : Option Addr) (n c : Nat), e = .returned (.tuple #[.slice A n c, .int .i64 E]) ∧ Nds w' (.slice A n c) l ∧ Below w.heap.size w w'
set_option maxRecDepth 100000 in
set_option maxHeartbeats 4000000 in
theorem refPart_any (v : Value) (t : Tr Nd) (s : St) (w : World) (hv : Nds w v (flat t)) (hl : (flat t).length ≤ 60000) (ht : Val t) (hs : rightS s = true) :
    Calls Tryz.prog 86 #[v, sta s] w (GotE w (gotP [s] t) (errP [s] t)) := by
  have hb := (Below.refl w.heap.size w).alloc (Nat.le_refl _) (.cells #[.bool s.part, .string ⟨s.name.toArray⟩, .int .i64 s.n] 63)
  have HB := Lib.hid hb
  have HV := Lib.hid (hv.below hb)
  obtain ⟨g, o, c, rfl, hc, hcm, hg, hx⟩ := hv.opened (flat_pos t)
  have z0 := (hx 0 t.nd (by rw [flat_eq]; rfl)).nd.c0
  rw [Nat.zero_mul, Nat.add_zero] at z0
  have k0 := (hb.cell (p := ⟨g, o, none⟩) hg).trans z0
  have hfl := flat_pos t
  clear hx z0 hv hb
  have HG := Lib.hid (got_one s t)
  have HE := Lib.hid (err_one s t)
  generalize gotP [s] t = R at *
  generalize errP [s] t = E at *
  obtain ⟨pt, nm, n⟩ := s
  cases pt with
  | true =>
    obtain ⟨N, rfl⟩ : ∃ N : Nat, n = N := by
      unfold rightS at hs
      simp only [if_true, Bool.and_eq_true, decide_eq_true_eq] at hs
      exact ⟨n.toNat, by omega⟩
    have hNm : N ≤ 1000000 := by
      unfold rightS at hs
      simp only [if_true, Bool.and_eq_true, decide_eq_true_eq] at hs
      omega
    have hkid := kid_part (s := ⟨true, nm, (N : Int)⟩) (t := t) rfl rfl
    by_cases hk : t.nd.kind = 5
    · rw [if_pos hk] at hkid
      have HP := Lib.hid (refParts_any _ t _ HV.out (by omega) ht)
      have hE0 : E = match kid ⟨true, nm, (N : Int)⟩ t with | none => 6 | some _ => 0 := by rw [HE.out, if_neg (by rw [hk]; simp [stKind])] <;> rfl
      have hR0 := HG.out
      rw [hk] at k0
      have hkl : t.ks.length ≤ 60000 := by
        have h1 := flats_len t.ks
        rw [flat_eq] at hl
        simp at hl
        omega
      by_cases hN : N < t.ks.length
      · rw [if_pos hN] at hkid
        rw [hkid] at hE0 hR0
        simp only at hE0 hR0
        have hgd : t.ks.getD N t = t.ks[N] := by simp [List.getD, List.getElem?_eq_getElem hN]
        rw [hgd] at hR0
        subst hE0 hR0
        clear hkid HE HG hgd
        go_enter Tryz.func86, Tryz.ntmps86
        go_wp2_with fail
        refine HP.out.mono ?_
        rintro e w1 ⟨v1, rfl, ⟨us, hul, hu, hur⟩, hb1⟩
        obtain ⟨hz1, q0, q1, q2, -⟩ := own_step (W := w.alloc (stepO ⟨true, nm, (N : Int)⟩)) (b := w.heap.size) ⟨true, nm, (N : Int)⟩ (heap_alloc_new w (stepO ⟨true, nm, (N : Int)⟩)) hb1
        have HB1 := Lib.hid (HB.out.trans (hb1.mono HB.out.size))
        rw [List.length_map] at hul
        have hNu : N < us.length := by omega
        obtain ⟨g1, o1, c1, rfl, hc1, hcm1, hg1, hx1⟩ := hu.opened (by omega)
        have y0 := hx1 N us[N] (List.getElem?_eq_getElem hNu) 0 us[N] rfl
        have hN0 := hur N us[N] (flat (nmd [] t.ks[N])) (List.getElem?_eq_getElem hNu) (by rw [List.getElem?_map, List.getElem?_eq_getElem hN]; rfl)
        have HN0 := Lib.hid hN0
        obtain ⟨A2, c2, hv2, -⟩ := hN0
        rw [hv2] at y0 HN0
        rw [Nat.mul_one, Nat.add_zero] at y0
        have hnl : (N : Int) < (us.length : Int) := by omega
        have hnl2 : ¬ ((us.length : Int) ≤ (N : Int)) := by omega
        have hulk : us.length = t.ks.length := hul
        clear hb1 hx1 hur hu hv2 HV HP hul
        clear hNu
        generalize us.length = ul at *
        generalize hml : (flat (nmd [] t.ks[N])).length = m2 at *
        go_wp2_with fail
        exact bodyPost_ret (v := .tuple #[.slice A2 m2 c2, .int .i64 0]) (by simp [results, Tryz.results86, go_sem]) rfl ⟨A2, m2, c2, rfl, HN0.out, HB1.out⟩
      · rw [if_neg hN] at hkid
        rw [hkid] at hE0 hR0
        simp only at hE0 hR0
        subst hE0 hR0
        clear hkid HE HG
        go_enter Tryz.func86, Tryz.ntmps86
        go_wp2_with fail
        refine HP.out.mono ?_
        rintro e w1 ⟨v1, rfl, ⟨us, hul, hu, hur⟩, hb1⟩
        obtain ⟨hz1, q0, q1, q2, -⟩ := own_step (W := w.alloc (stepO ⟨true, nm, (N : Int)⟩)) (b := w.heap.size) ⟨true, nm, (N : Int)⟩ (heap_alloc_new w (stepO ⟨true, nm, (N : Int)⟩)) hb1
        have HB1 := Lib.hid (HB.out.trans (hb1.mono HB.out.size))
        rw [List.length_map] at hul
        obtain ⟨A1, c1, rfl, -⟩ := hu
        have hnl : (us.length : Int) ≤ (N : Int) := by omega
        generalize us.length = ul at *
        clear hb1 hur HV HP
        go_wp2_with fail
        exact bodyPost_ret (v := .tuple #[.slice none 0 0, .int .i64 6]) (by simp [results, Tryz.results86, go_sem]) rfl ⟨none, 0, 0, rfl, Row.nil _, HB1.out⟩
    · have hE0 : E = 5 := by rw [HE.out, if_pos (by simpa [stKind] using hk)]
      have hR0 : R = [] := by
        rw [HG.out, hkid, if_neg hk]
      subst hE0 hR0
      have hk2 : (t.nd.kind == 5) = false := by simpa using hk
      have hk3 : (t.nd.kind != 5) = true := by simpa using hk
      have hk4 : (!t.nd.kind == 5) = true := by simpa using hk
      clear hkid HE HG
      go_enter Tryz.func86, Tryz.ntmps86
      go_wp2_with fail
      exact bodyPost_ret (v := .tuple #[.slice none 0 0, .int .i64 5]) (by simp [results, Tryz.results86, go_sem]) rfl ⟨none, 0, 0, rfl, Row.nil _, HB.out⟩
  | false =>
    have hkd := kid_field (s := ⟨false, nm, n⟩) (t := t) rfl
    by_cases hk : t.nd.kind = 6
    · obtain ⟨hf1, hf2⟩ := hkd hk
      have HP := Lib.hid (refField_any _ t nm _ HV.out (by omega) ht)
      have hE0 : E = match kid ⟨false, nm, n⟩ t with | none => 6 | some _ => 0 := by rw [HE.out, if_neg (by rw [hk]; simp [stKind])] <;> rfl
      have hR0 := HG.out
      rw [hk] at k0
      cases hkk : kid ⟨false, nm, n⟩ t with
      | none =>
        rw [hkk] at hE0 hR0
        simp only at hE0 hR0
        subst hE0 hR0
        obtain ⟨-, hfb⟩ := hf1 hkk
        clear hf1 hf2 hkk HE HG hkd HV
        unfold GivesF at HP
        rw [hfb] at HP
        clear hfb
        go_enter Tryz.func86, Tryz.ntmps86
        go_wp2_with fail
        refine HP.out.mono ?_
        rintro e w1 ⟨v1, rfl, hv1, hb1⟩
        have HB1 := Lib.hid (HB.out.trans (hb1.mono HB.out.size))
        obtain ⟨A1, c1, rfl, -⟩ := hv1
        generalize (fieldV nm t).length = m1 at *
        go_wp2_with fail
        exact bodyPost_ret (v := .tuple #[.slice none 0 0, .int .i64 6]) (by simp [results, Tryz.results86, go_sem]) rfl ⟨none, 0, 0, rfl, Row.nil _, HB1.out⟩
      | some k =>
        rw [hkk] at hE0 hR0
        simp only at hE0 hR0
        obtain ⟨hfv, hfb⟩ := hf2 k hkk
        simp only at hfv hfb
        rw [← hfv] at hR0
        subst hE0 hR0
        clear hf1 hf2 hkk HE HG hkd HV hfv
        unfold GivesF at HP
        rw [hfb] at HP
        clear hfb
        go_enter Tryz.func86, Tryz.ntmps86
        go_wp2_with fail
        refine HP.out.mono ?_
        rintro e w1 ⟨v1, rfl, hv1, hb1⟩
        have HB1 := Lib.hid (HB.out.trans (hb1.mono HB.out.size))
        have HV1 := Lib.hid hv1
        obtain ⟨A1, c1, rfl, -⟩ := hv1
        generalize (fieldV nm t).length = m1 at *
        go_wp2_with fail
        exact bodyPost_ret (v := .tuple #[.slice A1 m1 c1, .int .i64 0]) (by simp [results, Tryz.results86, go_sem]) rfl ⟨A1, m1, c1, rfl, HV1.out, HB1.out⟩
    · have hE0 : E = 5 := by rw [HE.out, if_pos (by simpa [stKind] using hk)]
      have hR0 : R = [] := by
        rw [HG.out]
        have : kid ⟨false, nm, n⟩ t = none := by unfold kid; rw [if_neg (by simpa [stKind] using hk)]
        rw [this]
      subst hE0 hR0
      have hk2 : (t.nd.kind == 6) = false := by simpa using hk
      have hk4 : (!t.nd.kind == 6) = true := by simpa using hk
      clear hkd HE HG
      go_enter Tryz.func86, Tryz.ntmps86
      go_wp2_with fail
      exact bodyPost_ret (v := .tuple #[.slice none 0 0, .int .i64 5]) (by simp [results, Tryz.results86, go_sem]) rfl ⟨none, 0, 0, rfl, Row.nil _, HB.out⟩
end Go.Proofs.YtdibcamnoolnmaaGreatDoor

/-
  What stands at a path, as the document says it.
-/
namespace Go.Proofs.YtdibcamnoolnmaaGreatDoor
open Go.RowKit Np Rw Vp Up Qp Pw

theorem sub_len {p : List St} {t u : Tr Nd} (h : subP p t = some u) : (flat (nmd [] u)).length ≤ (flat t).length := by
  obtain ⟨pre, post, h1, -, -⟩ := row_at p t u h
  have := congrArg List.length h1
  have h2 : (flat (nmd [] u)).length = (flat u).length := by rw [nmd, flat_mk, flat_eq u]; simp
  simp at this; omega
theorem got_cons {s : St} {q : List St} {t u : Tr Nd} (h : subP [s] t = some u) : gotP (s :: q) t = gotP q (nmd [] u) ∧ errP (s :: q) t = errP q (nmd [] u) := got_append (p := [s]) h
theorem got_cons_bad {s : St} {q : List St} {t : Tr Nd} (h : errP [s] t ≠ 0) : gotP (s :: q) t = [] ∧ errP (s :: q) t = errP [s] t := got_append_bad (p := [s]) h
set_option maxRecDepth 100000 in
set_option maxHeartbeats 4000000 in
theorem refGet_any (pv v : Value) (p : List St) (t : Tr Nd) (w : World) (hp : Sps w pv p) (hv : Nds w v (flat t)) (hl : (flat t).length ≤ 60000) (ht : Val t) (hs : p.all rightS = true) (hpl : p.length ≤ 1000) :
    Calls Tryz.prog 41 #[pv, v] w (GotE w (gotP p t) (errP p t)) := by
  have HXP : Hid (∀ k s, p[k]? = some s → ∃ g o c, pv = .slice (some ⟨g, o, none⟩) p.length c ∧ g < w.heap.size ∧ Sp3 w g (o + k * 3) s) := Lib.hid fun k s hs => by
    obtain ⟨g, o, c, hv, -, -, hg, hx⟩ := hp.opened (by have := (List.getElem?_eq_some_iff.1 hs).1; omega)
    exact ⟨g, o, c, hv, hg, (hx k s hs).sp⟩
  have HV := Lib.hid hv
  have HS := Lib.hid hs
  obtain ⟨PA, pc, rfl, -⟩ := hp
  obtain ⟨VA, vc, rfl, -⟩ := hv
  generalize hpp : p.length = n at *
  have HP := Lib.hid hpp
  have HTV := Lib.hid ht
  have HTL := Lib.hid hl
  have HR : Hid (gotP (p.drop 0) t = gotP p t ∧ errP (p.drop 0) t = errP p t) := Lib.hid ⟨by rw [List.drop_zero], by rw [List.drop_zero]⟩
  generalize gotP p t = R at *
  generalize errP p t = E at *
  clear hpp hs ht hl
  go_enter Tryz.func41, Tryz.ntmps41
  go_wp2_with fail
  go_loopw [6, 1] (fun iv vv wr => ∃ (k : Nat) (u : Tr Nd) (A : Option Addr) (m c : Nat), k ≤ n ∧ iv = .int .i64 k ∧ vv = .slice A m c ∧ Hid (Nds wr (.slice A m c) (flat u)) ∧ Hid (Val u ∧ (flat u).length ≤ 60000) ∧ Hid (gotP (p.drop k) u = R ∧ errP (p.drop k) u = E) ∧ Hid (Below w.heap.size w wr)) (fun iv _ _ => n - (intOf iv).toNat)
  case atStart => exact ⟨0, t, VA, _, vc, Nat.zero_le _, rfl, rfl, HV, Lib.hid ⟨HTV.out, HTL.out⟩, HR, Lib.hid (Below.refl _ _)⟩
  case round =>
    obtain ⟨k, u, A, m, c, hk, rfl, rfl, HU, HUV, HUR, HB⟩ := hrel
    by_cases hlt : k < n
    · have hkp : k < p.length := by rw [HP.out]; exact hlt
      obtain ⟨gp2, op2, cp, e1, hgp, hs3⟩ := HXP.out k _ (List.getElem?_eq_getElem hkp)
      injection e1 with e1 e2 e3
      subst e1 e3
      obtain ⟨z0, z1, z2⟩ := hs3
      have s0 := (HB.out.cell (p := ⟨gp2, op2 + k * 3, none⟩) hgp).trans z0
      have s1 := (HB.out.cell (p := ⟨gp2, op2 + k * 3 + 1, none⟩) hgp).trans z1
      have s2 := (HB.out.cell (p := ⟨gp2, op2 + k * 3 + 2, none⟩) hgp).trans z2
      have HSR : Hid (rightS p[k] = true) := Lib.hid (List.all_eq_true.1 HS.out _ (List.getElem_mem hkp))
      have HDR : Hid (p.drop k = p[k] :: p.drop (k + 1)) := Lib.hid (List.drop_eq_getElem_cons hkp)
      rw [HDR.out] at HUR
      clear z0 z1 z2 e2
      generalize p[k] = s at *
      have hP := refPart_any _ u s wr HU.out HUV.out.2 HUV.out.1 HSR.out
      by_cases he : errP [s] u = 0
      · obtain ⟨x, hx⟩ := sub_some he
        obtain ⟨h1, h2⟩ := got_cons (q := p.drop (k + 1)) hx
        have HUR2 : Hid (gotP (p.drop (k + 1)) (nmd [] x) = R ∧ errP (p.drop (k + 1)) (nmd [] x) = E) := Lib.hid ⟨h1.symm.trans HUR.out.1, h2.symm.trans HUR.out.2⟩
        have HUV2 : Hid (Val (nmd [] x) ∧ (flat (nmd [] x)).length ≤ 60000) := Lib.hid ⟨sub_val hx HUV.out.1, Nat.le_trans (sub_len hx) HUV.out.2⟩
        rw [he, got_some hx] at hP
        clear h1 h2 hx he
        go_wp2_with fail
        refine hP.mono ?_
        rintro e w1 ⟨A1, m1, c1, rfl, hn1, hb1⟩
        have HN1 := Lib.hid hn1
        have HB1 := Lib.hid (Below.after HB.out hb1)
        clear hP hn1 hb1 s0 s1 s2
        go_wp2_with fail
        refine ⟨⟨k + 1, nmd [] x, A1, m1, c1, by omega, by congr 1, rfl, HN1, HUV2, HUR2, HB1⟩, ?_⟩
        simp [intOf]; omega
      · obtain ⟨h1, h2⟩ := got_cons_bad (q := p.drop (k + 1)) he
        rw [h1, h2] at HUR
        rw [HUR.out.2] at hP he
        have he2 : (!E == 0) = true := by simpa using he
        have HRN : Hid (R = []) := Lib.hid HUR.out.1.symm
        clear h1 h2
        go_wp2_with fail
        refine hP.mono ?_
        rintro e w1 ⟨A1, m1, c1, rfl, hn1, hb1⟩
        have HB1 := Lib.hid (Below.after HB.out hb1)
        clear hP hn1 hb1 s0 s1 s2
        go_wp2_with fail
        exact bodyPost_ret (v := .tuple #[.slice none 0 0, .int .i64 E]) (by simp [results, Tryz.results41, go_sem]) rfl ⟨none, 0, 0, rfl, by rw [HRN.out]; exact Row.nil _, HB1.out⟩
    · obtain rfl : k = n := by omega
      have HF : Hid (R = flat u ∧ E = 0) := Lib.hid (by
        have h1 := HUR.out
        rw [List.drop_of_length_le (by rw [HP.out]; omega)] at h1
        refine ⟨?_, h1.2.symm⟩
        rw [← h1.1]
        show flat (nmd [] u) = flat u
        rw [val_name HUV.out.1])
      obtain ⟨rfl, rfl⟩ := HF.out
      go_wp2_with fail
      exact bodyPost_ret (v := .tuple #[.slice A m c, .int .i64 0]) (by simp [results, Tryz.results41, go_sem]) rfl ⟨A, m, c, rfl, HU.out, HB.out⟩
end Go.Proofs.YtdibcamnoolnmaaGreatDoor

/-
  A value with something else at a path, as the document says it.
-/
namespace Go.Proofs.YtdibcamnoolnmaaGreatDoor
open Go.RowKit Np Rw Vp Up Qp Pw

theorem put_cons_bad {s : St} {q : List St} {t x : Tr Nd} (h : errP (s :: q) t ≠ 0) : putP (s :: q) t x = [] := put_none h
theorem val_nm {t : Tr Nd} (h : Val t) : t.nd.name = [] := by rw [← val_name h]; rfl
/-- What comes of setting, step by step. -/
theorem put_cons {s : St} {q : List St} {t x : Tr Nd} {k : Nat} (hk : kid s t = some k) (ht : Val t) (h : errP q (nmd [] (t.ks.getD k t)) = 0) :
    putP (s :: q) t x = if s.part then hdN 5 (((t.ks.map fun u => flat (nmd [] u)).set k (flat (setP q (nmd [] (t.ks.getD k t)) x))).length) :: ((t.ks.map fun u => flat (nmd [] u)).set k (flat (setP q (nmd [] (t.ks.getD k t)) x))).flatten
      else flat (withT s.name (setP q (nmd [] (t.ks.getD k t)) x) t) := by
  obtain ⟨hl, hkind, u, hu, hlead⟩ := kid_lt hk
  have hgd : t.ks.getD k t = u := by simp [List.getD, hu]
  have hsub : subP [s] t = some u := by rw [subP, hk]; simp only; rw [hgd]; rfl
  have he : errP (s :: q) t = 0 := by rw [(got_cons (q := q) hsub).2, ← hgd]; exact h
  unfold putP
  rw [if_pos he, setP, hk]
  simp only
  rw [hgd, set_nmd]
  cases hp : s.part with
  | true =>
    rw [if_pos rfl]
    have hk5 : t.nd.kind = 5 := by rw [hkind]; simp [stKind, hp]
    have hun := ht.unnamed hk5 u (List.mem_of_getElem? hu)
    have hy : nmd [] (setP q u x) = setP q u x := by
      have h0 := nmd_self (setP q u x)
      rw [setP_name, hun] at h0
      exact h0
    rw [hy, list_set ht hk5]
  | false =>
    rw [if_neg (by simp)]
    have hk6 : t.nd.kind = 6 := by rw [hkind]; simp [stKind, hp]
    have hn : u.nd.name = s.name := by
      unfold lead at hlead
      rw [hp] at hlead
      simpa using hlead
    rw [obj_set _ ht hk6 hu hn, nmd_nmd]
    have hy : nmd s.name (setP q u x) = setP q u x := by
      have h0 := nmd_self (setP q u x)
      rw [setP_name, hn] at h0
      exact h0
    rw [hy]
/-- A slice of slices, one of them another: it reads as the rows, one of them another. -/
theorem elems_put {base N g cap : Nat} {W : World} {zs : List (Option Addr × Nat × Nat)} {L : List (List Nd)} {l : List Nd} {A : Option Addr} {m c : Nat} (ho : Own slc 1 50 base W (.slice (some ⟨g, 0, none⟩) zs.length cap) zs) (he : Elems base W zs L) (hN : N < zs.length) (hlow : ∀ W', Below base W W' → Nds W' (.slice A m c) l) :
    Vls (W.setCell ⟨g, N, none⟩ (.slice A m c)) (.slice (some ⟨g, 0, none⟩) zs.length cap) (L.set N l) := by
  obtain ⟨z, hz⟩ : ∃ z, zs[N]? = some z := ⟨_, List.getElem?_eq_getElem hN⟩
  have h1 := Own.put slc_len (j := 0) (y := (A, m, c)) (u := .slice A m c) ho hz (by decide) rfl
  rw [Nat.mul_one, Nat.add_zero] at h1
  have h2 := (World.ownsRow.stored ho N (.slice A m c)).2
  have hb : Below base W (W.setCell ⟨g, N, none⟩ (.slice A m c)) := (Below.refl _ _).setCell ho.lt.1 _
  have hr := Own.row slc_len h1
  have hels : Els (W.setCell ⟨g, N, none⟩ (.slice A m c)) (zs.set N (A, m, c)) (L.set N l) := by
    refine ⟨by rw [List.length_set, List.length_set]; exact he.1, fun k z' l' hk hl' => ?_⟩
    rw [List.getElem?_set] at hk hl'
    by_cases hkN : N = k
    · subst hkN
      rw [if_pos rfl, if_pos hN] at hk
      rw [if_pos rfl, if_pos (by rw [← he.1]; exact hN)] at hl'
      injection hk with hk
      injection hl' with hl'
      subst hk hl'
      exact hlow _ hb
    · rw [if_neg hkN] at hk hl'
      exact (Own.aside (he.2 k z' l' hk hl') ho (by decide) h2).row ndc_len
  have := hels.vls hr
  exact this
end Go.Proofs.YtdibcamnoolnmaaGreatDoor

/-
  What the document's own Set of paths answers.
-/
namespace Go.Proofs.YtdibcamnoolnmaaGreatDoor
open Go.RowKit Np Rw Vp Up Qp Pw

set_option maxRecDepth 100000 in
set_option maxHeartbeats 8000000 in
theorem refSet_any : ∀ (p : List St) (pv v xv : Value) (t x : Tr Nd) (w : World) (_ : Sps w pv p) (_ : Nds w v (flat t)) (_ : Nds w xv (flat x)) (_ : (flat t).length ≤ 200) (_ : (flat x).length ≤ 200) (_ : Val t) (_ : Val x) (_ : Short (flat t)) (_ : p.all rightS = true) (_ : p.length ≤ 1000) (_ : ∀ s ∈ p, s.name.length ≤ maxLen),
    Calls Tryz.prog 43 #[pv, v, xv] w (GotE w (putP p t x) (errP p t))
  | [], pv, v, xv, t, x, w, hp, hv, hxv, hl, hxl, ht, hx, hsh, hs, hpl, hnm => by
    have HX := Lib.hid hxv
    have HPT : Hid (putP [] t x = flat x) := Lib.hid (by
      unfold putP
      rw [if_pos (show errP [] t = 0 from rfl)]
      show flat (nmd t.nd.name x) = flat x
      rw [val_nm ht, val_name hx])
    obtain ⟨PA, pc, rfl, -⟩ := hp
    obtain ⟨VA, vc, rfl, -⟩ := hv
    obtain ⟨XA, xc, rfl, -⟩ := hxv
    generalize putP [] t x = R at *
    clear hs hnm hsh
    go_enter Tryz.func43, Tryz.ntmps43
    go_wp2_with fail
    exact bodyPost_ret (v := .tuple #[.slice XA (flat x).length xc, .int .i64 0]) (by simp [results, Tryz.results43, go_sem]) rfl ⟨XA, _, xc, rfl, by rw [HPT.out]; exact HX.out, Below.refl _ _⟩
  | s :: p, pv, v, xv, t, x, w, hp, hv, hxv, hl, hxl, ht, hx, hsh, hs, hpl, hnm => by
    rw [List.all_cons, Bool.and_eq_true] at hs
    obtain ⟨hs1, hs2⟩ := hs
    have hnms : s.name.length ≤ maxLen := hnm s (by simp)
    obtain ⟨g, o, c, rfl, hc, hcm, hg, hxs⟩ := hp.opened (by simp)
    have htl := hp.back 1 (by simp) hc hcm
    have hta : Sps w (.slice (some ⟨g, o + 3, none⟩) p.length (c - 1)) p := by
      by_cases h1c : 1 = c
      · have hp0 : p = [] := List.eq_nil_of_length_eq_zero (by have : (s :: p).length = p.length + 1 := rfl; omega)
        subst hp0
        exact Row.empty _ _ _ (by omega)
      · rw [if_neg h1c] at htl
        simpa using htl
    have htb : c = 1 → Sps w (.slice (some ⟨g, o, none⟩) p.length 0) p := by
      intro h1c
      have hp0 : p = [] := List.eq_nil_of_length_eq_zero (by have : (s :: p).length = p.length + 1 := rfl; omega)
      subst hp0
      exact Row.empty _ _ _ (by unfold maxLen; omega)
    obtain ⟨z0, z1, z2⟩ := (hxs 0 s rfl).sp
    rw [Nat.zero_mul, Nat.add_zero] at z0 z1 z2
    have HZ : Hid (∀ W, Below w.heap.size w W → Sp3 W g o s) := Lib.hid (fun W hb => ⟨(hb.cell (p := ⟨g, o, none⟩) hg).trans z0, (hb.cell (p := ⟨g, o + 1, none⟩) hg).trans z1, (hb.cell (p := ⟨g, o + 2, none⟩) hg).trans z2⟩)
    have HV := Lib.hid hv
    have HX := Lib.hid hxv
    have HTA := Lib.hid hta
    have HTB := Lib.hid htb
    have HP := Lib.hid (refPart_any v t s w hv (by omega) ht hs1)
    obtain ⟨VA, vc, rfl, -⟩ := hv
    obtain ⟨XA, xc, rfl, -⟩ := hxv
    have hlen : (s :: p).length = p.length + 1 := rfl
    rw [hlen] at hc hpl
    clear hxs hp htl hta htb
    by_cases he : errP [s] t = 0
    · obtain ⟨u, hu⟩ := sub_some he
      have huv := sub_val hu ht
      have hul := sub_len hu
      obtain ⟨h1, h2⟩ := got_cons (q := p) hu
      obtain ⟨k, hk⟩ : ∃ k, kid s t = some k := by
        rw [subP] at hu
        cases hk : kid s t with
        | none => rw [hk] at hu; cases hu
        | some k => exact ⟨k, rfl⟩
      obtain ⟨hkl, hkind, u', hu', hlead⟩ := kid_lt hk
      have hgd : t.ks.getD k t = u := by
        rw [subP, hk] at hu
        exact Option.some.inj hu
      have hshu : Short (flat (nmd [] u)) := by
        obtain ⟨pre, post, h3, -, -⟩ := row_at [s] t u hu
        rw [h3] at hsh
        exact short_nmd (by unfold maxLen; simp) (fun n hn => hsh n (by simp [hn]))
      have HIH : Hid (∀ (wv : Value) W, Below w.heap.size w W → Nds W wv (flat (nmd [] u)) → Calls Tryz.prog 43 #[.slice (some ⟨g, o + 3, none⟩) p.length (c - 1), wv, .slice XA (flat x).length xc] W (GotE W (putP p (nmd [] u) x) (errP p (nmd [] u)))) := Lib.hid (fun wv W hb hwv =>
        refSet_any p _ wv _ (nmd [] u) x W (Row.below HTA.out hb) hwv (HX.out.below hb) (by omega) hxl huv hx hshu hs2 (by omega) (fun y hy => hnm y (by simp [hy])))
      have HIB : Hid (c = 1 → ∀ (wv : Value) W, Below w.heap.size w W → Nds W wv (flat (nmd [] u)) → Calls Tryz.prog 43 #[.slice (some ⟨g, o, none⟩) p.length 0, wv, .slice XA (flat x).length xc] W (GotE W (putP p (nmd [] u) x) (errP p (nmd [] u)))) := Lib.hid (fun hc1 wv W hb hwv =>
        refSet_any p _ wv _ (nmd [] u) x W (Row.below (HTB.out hc1) hb) hwv (HX.out.below hb) (by omega) hxl huv hx hshu hs2 (by omega) (fun y hy => hnm y (by simp [hy])))
      rw [he, got_some hu] at HP
      rw [h2]
      by_cases hf : errP p (nmd [] u) = 0
      · have HPC := Lib.hid (put_cons (q := p) (x := x) hk ht (by rw [hgd]; exact hf))
        rw [hgd] at HPC
        obtain ⟨u2, hu2⟩ := sub_some hf
        have hyv := set_val hu2 huv hx
        have hyl : (flat (setP p (nmd [] u) x)).length ≤ 400 := by have := set_len (x := x) hu2; omega
        have HYV := Lib.hid hyv
        have HYL := Lib.hid hyl
        have HPI : Hid (putP p (nmd [] u) x = flat (setP p (nmd [] u) x)) := Lib.hid (by unfold putP; rw [if_pos hf])
        generalize putP (s :: p) t x = R at *
        rw [hf]
        rw [hf, HPI.out] at HIH HIB
        generalize setP p (nmd [] u) x = y at *
        cases hpt : s.part with
        | false =>
          have hk6 : t.nd.kind = 6 := by rw [hkind]; simp [stKind, hpt]
          have HFIN : Hid (R = flat (withT s.name y t)) := Lib.hid (by rw [HPC.out, hpt]; rfl)
          have hnv : vld s.name = true := by
            unfold rightS at hs1
            rw [hpt] at hs1
            simpa using (Bool.and_eq_true_iff.1 (by simpa using hs1 : (decide (s.n = 0) && vld s.name) = true)).2
          have HW := Lib.hid (fun W yv (hb : Below w.heap.size w W) (hyv2 : Nds W yv (flat y)) => refWith_any (.slice VA (flat t).length vc) yv t y s.name W (HV.out.below hb) hyv2 (by omega) (by have := HYL.out; omega) ht hk6 HYV.out hnv hnms (by
            intro z hz
            obtain ⟨a, ha, rfl⟩ := List.mem_map.1 hz
            exact (hsh a.nd (by rw [flat_eq]; exact List.mem_cons_of_mem _ (mem_flats ha (by rw [flat_eq]; simp)))).1))
          have hc1 : 1 ≤ c := by omega
          have HPT := Lib.hid hpt
          clear hpt
          clear hsh hnm hu hu' hlead hkl hkind hk hshu huv hul hu2 hyv hyl HPC hs1 hs2 h1 h2 he hf HPI HTA HTB
          go_enter Tryz.func43, Tryz.ntmps43
          go_wp2_with fail
          refine HP.out.mono ?_
          rintro e w1 ⟨A1, m1, c1, rfl, hn1, hb1⟩
          have HN1 := Lib.hid hn1
          have HB1 := Lib.hid hb1
          clear hn1 hb1 z0 z1 z2
          go_wp2_with fail
          · refine (HIB.out (by assumption) _ w1 HB1.out HN1.out).mono ?_
            rintro e w2 ⟨A2, m2, c2, rfl, hn2, hb2⟩
            have HN2 := Lib.hid hn2
            have HB2 := Lib.hid (Below.after HB1.out hb2)
            obtain ⟨s0, s1, s2⟩ := HZ.out w2 HB2.out
            rw [HPT.out] at s0
            clear hn2 hb2 HN1 HB1
            go_wp2_with fail
            refine (HW.out w2 _ HB2.out HN2.out).mono ?_
            rintro e w3 h3
            obtain ⟨A3, c3, rfl, hl3, hb3⟩ := h3.is rfl
            have HN3 := Lib.hid hl3
            have HB3 := Lib.hid (Below.after HB2.out hb3)
            clear hl3 hb3 h3 s0 s1 s2
            go_wp2_with fail
            exact bodyPost_ret (v := .tuple #[.slice A3 (flat (withT s.name y t)).length c3, .int .i64 0]) (by simp [results, Tryz.results43, go_sem]) rfl ⟨A3, _, c3, rfl, by rw [HFIN.out]; exact HN3.out, HB3.out⟩
          · refine (HIH.out _ w1 HB1.out HN1.out).mono ?_
            rintro e w2 ⟨A2, m2, c2, rfl, hn2, hb2⟩
            have HN2 := Lib.hid hn2
            have HB2 := Lib.hid (Below.after HB1.out hb2)
            obtain ⟨s0, s1, s2⟩ := HZ.out w2 HB2.out
            rw [HPT.out] at s0
            clear hn2 hb2 HN1 HB1
            go_wp2_with fail
            refine (HW.out w2 _ HB2.out HN2.out).mono ?_
            rintro e w3 h3
            obtain ⟨A3, c3, rfl, hl3, hb3⟩ := h3.is rfl
            have HN3 := Lib.hid hl3
            have HB3 := Lib.hid (Below.after HB2.out hb3)
            clear hl3 hb3 h3 s0 s1 s2
            go_wp2_with fail
            exact bodyPost_ret (v := .tuple #[.slice A3 (flat (withT s.name y t)).length c3, .int .i64 0]) (by simp [results, Tryz.results43, go_sem]) rfl ⟨A3, _, c3, rfl, by rw [HFIN.out]; exact HN3.out, HB3.out⟩
        | true =>
          have hk5 : t.nd.kind = 5 := by rw [hkind]; simp [stKind, hpt]
          obtain ⟨N, hN⟩ : ∃ N : Nat, s.n = N := by
            unfold rightS at hs1
            rw [hpt] at hs1
            simp only [if_true, Bool.and_eq_true, decide_eq_true_eq] at hs1
            exact ⟨s.n.toNat, by omega⟩
          have hkN : k = N := by
            rw [kid_part hpt hN, if_pos hk5] at hk
            split at hk
            · exact (Option.some.inj hk).symm
            · cases hk
          subst hkN
          have hks : t.ks.length ≤ 200 := by
            have h3 := flats_len t.ks
            have h4 := congrArg List.length (flat_eq t)
            rw [List.length_cons] at h4
            omega
          have HFIN : Hid (R = hdN 5 (((t.ks.map fun u => flat (nmd [] u)).set k (flat y)).length) :: ((t.ks.map fun u => flat (nmd [] u)).set k (flat y)).flatten) := Lib.hid (by rw [HPC.out, hpt]; rfl)
          have HPA := Lib.hid (fun W (hb : Below w.heap.size w W) => refParts_own (.slice VA (flat t).length vc) t W (HV.out.below hb) (by omega) ht)
          have HLL : Hid (((t.ks.map fun u => flat (nmd [] u)).set k (flat y)).length ≤ 65536 ∧ (((t.ks.map fun u => flat (nmd [] u)).set k (flat y)).map List.length).sum ≤ 131072) := Lib.hid ⟨by rw [List.length_set, List.length_map]; omega, by
            have h5 : ∀ (L : List (List Nd)), (L.map List.length).sum = L.flatten.length := by intro L; rw [List.length_flatten]
            rw [h5]
            have h6 := congrArg List.length (list_set (y := y) (k := k) ht hk5)
            rw [List.length_cons, flat_mk, List.length_cons] at h6
            have h7 : (flats (t.ks.set k y)).length ≤ (flats t.ks).length + (flat y).length := by
              rw [flats_put y hu']
              have := congrArg List.length (flats_split hu')
              simp only [List.length_append] at this ⊢
              omega
            have h8 := congrArg List.length (flat_eq t)
            rw [List.length_cons] at h8
            have := HYL.out
            omega⟩
          have hc1 : 1 ≤ c := by omega
          have HKL := Lib.hid hkl
          have HPT := Lib.hid hpt
          have HN := Lib.hid hN
          clear hpt hN
          clear hsh hnm hu hu' hlead hkind hk hshu huv hul hu2 hyv hyl HPC hs1 hs2 h1 h2 he hf HPI HTA HTB
          go_enter Tryz.func43, Tryz.ntmps43
          go_wp2_with fail
          refine HP.out.mono ?_
          rintro e w1 ⟨A1, m1, c1, rfl, hn1, hb1⟩
          have HN1 := Lib.hid hn1
          have HB1 := Lib.hid hb1
          clear hn1 hb1 z0 z1 z2
          go_wp2_with fail
          · refine (HIB.out (by assumption) _ w1 HB1.out HN1.out).mono ?_
            rintro e w2 ⟨A2, m2, c2, rfl, hn2, hb2⟩
            have HN2 := Lib.hid hn2
            have HB2 := Lib.hid (Below.after HB1.out hb2)
            obtain ⟨s0, s1, s2⟩ := HZ.out w2 HB2.out
            rw [HPT.out] at s0
            clear hn2 hb2 HN1 HB1
            go_wp2_with fail
            refine (HPA.out w2 HB2.out).mono ?_
            rintro e w3 ⟨v3, zs, rfl, ho3, he3, hb3⟩
            clear s0 s1 s2
            have hzl : zs.length = t.ks.length := by rw [he3.1, List.length_map]
            obtain ⟨g3, cap3, hv3, hg3, hg3l⟩ := ho3.opened (by have := HKL.out; omega)
            subst hv3
            have HO3 := Lib.hid ho3
            have HE3 := Lib.hid he3
            have HB3 := Lib.hid (Below.after HB2.out hb3)
            have HB23 := Lib.hid hb3
            obtain ⟨s0, s1, s2⟩ := HZ.out w3 HB3.out
            rw [HN.out] at s2
            have hkz : k < zs.length := by have := HKL.out; omega
            have q0 := Own.cell slc_len (j := 0) ho3 (List.getElem?_eq_getElem hkz) (show (slc zs[k])[0]? = some (.slice zs[k].1 zs[k].2.1 zs[k].2.2) from rfl)
            rw [Nat.mul_one, Nat.add_zero] at q0
            have qf := ho3.free k
            have hkc : k < cap3 := by have := ho3.cap; omega
            clear ho3 he3 hb3
            go_wp2_with fail
            have hvl := elems_put HO3.out HE3.out hkz (fun W' hb' => HN2.out.below (HB23.out.trans hb'))
            rw [hzl] at hvl
            have HB4 : Hid (Below w.heap.size w (w3.setCell ⟨g3, k, none⟩ (.slice A2 m2 c2))) := Lib.hid (HB3.out.setCell (Nat.le_trans HB2.out.size hg3) _)
            have hLs := refList_any _ _ _ hvl HLL.out.1 HLL.out.2
            rw [← HFIN.out] at hLs
            clear hvl s0 s1 s2 q0 qf
            generalize w3.setCell ⟨g3, k, none⟩ (.slice A2 m2 c2) = w4 at *
            refine hLs.mono ?_
            rintro e w5 h5
            obtain ⟨A5, c5, rfl, hl5, hb5⟩ := h5.is rfl
            have HN5 := Lib.hid hl5
            have HB5 := Lib.hid (Below.after HB4.out hb5)
            clear hLs h5 hl5 hb5
            go_wp2_with fail
            exact bodyPost_ret (v := .tuple #[.slice A5 R.length c5, .int .i64 0]) (by simp [results, Tryz.results43, go_sem]) rfl ⟨A5, _, c5, rfl, HN5.out, HB5.out⟩
          · refine (HIH.out _ w1 HB1.out HN1.out).mono ?_
            rintro e w2 ⟨A2, m2, c2, rfl, hn2, hb2⟩
            have HN2 := Lib.hid hn2
            have HB2 := Lib.hid (Below.after HB1.out hb2)
            obtain ⟨s0, s1, s2⟩ := HZ.out w2 HB2.out
            rw [HPT.out] at s0
            clear hn2 hb2 HN1 HB1
            go_wp2_with fail
            refine (HPA.out w2 HB2.out).mono ?_
            rintro e w3 ⟨v3, zs, rfl, ho3, he3, hb3⟩
            clear s0 s1 s2
            have hzl : zs.length = t.ks.length := by rw [he3.1, List.length_map]
            obtain ⟨g3, cap3, hv3, hg3, hg3l⟩ := ho3.opened (by have := HKL.out; omega)
            subst hv3
            have HO3 := Lib.hid ho3
            have HE3 := Lib.hid he3
            have HB3 := Lib.hid (Below.after HB2.out hb3)
            have HB23 := Lib.hid hb3
            obtain ⟨s0, s1, s2⟩ := HZ.out w3 HB3.out
            rw [HN.out] at s2
            have hkz : k < zs.length := by have := HKL.out; omega
            have q0 := Own.cell slc_len (j := 0) ho3 (List.getElem?_eq_getElem hkz) (show (slc zs[k])[0]? = some (.slice zs[k].1 zs[k].2.1 zs[k].2.2) from rfl)
            rw [Nat.mul_one, Nat.add_zero] at q0
            have qf := ho3.free k
            have hkc : k < cap3 := by have := ho3.cap; omega
            clear ho3 he3 hb3
            go_wp2_with fail
            have hvl := elems_put HO3.out HE3.out hkz (fun W' hb' => HN2.out.below (HB23.out.trans hb'))
            rw [hzl] at hvl
            have HB4 : Hid (Below w.heap.size w (w3.setCell ⟨g3, k, none⟩ (.slice A2 m2 c2))) := Lib.hid (HB3.out.setCell (Nat.le_trans HB2.out.size hg3) _)
            have hLs := refList_any _ _ _ hvl HLL.out.1 HLL.out.2
            rw [← HFIN.out] at hLs
            clear hvl s0 s1 s2 q0 qf
            generalize w3.setCell ⟨g3, k, none⟩ (.slice A2 m2 c2) = w4 at *
            refine hLs.mono ?_
            rintro e w5 h5
            obtain ⟨A5, c5, rfl, hl5, hb5⟩ := h5.is rfl
            have HN5 := Lib.hid hl5
            have HB5 := Lib.hid (Below.after HB4.out hb5)
            clear hLs h5 hl5 hb5
            go_wp2_with fail
            exact bodyPost_ret (v := .tuple #[.slice A5 R.length c5, .int .i64 0]) (by simp [results, Tryz.results43, go_sem]) rfl ⟨A5, _, c5, rfl, HN5.out, HB5.out⟩
      · have HR : Hid (putP (s :: p) t x = []) := Lib.hid (put_none (by rw [h2]; exact hf))
        have HR2 := Lib.hid (put_none (x := x) hf)
        obtain ⟨E, hE⟩ : ∃ E, errP p (nmd [] u) = E := ⟨_, rfl⟩
        rw [hE] at hf HIH HIB ⊢
        rw [HR2.out] at HIH HIB
        have he2 : (!E == 0) = true := by simpa using hf
        generalize putP (s :: p) t x = R at *
        have hc1 : 1 ≤ c := by omega
        clear hsh hnm hu hu' hlead hkl hkind hk hshu huv hul hs1 hs2 h1 h2 he hE HTA HTB
        go_enter Tryz.func43, Tryz.ntmps43
        go_wp2_with fail
        refine HP.out.mono ?_
        rintro e w1 ⟨A1, m1, c1, rfl, hn1, hb1⟩
        have HN1 := Lib.hid hn1
        have HB1 := Lib.hid hb1
        clear hn1 hb1 z0 z1 z2
        go_wp2_with fail
        · refine (HIB.out (by assumption) _ w1 HB1.out HN1.out).mono ?_
          rintro e w2 ⟨A2, m2, c2, rfl, hn2, hb2⟩
          have HB2 := Lib.hid (Below.after HB1.out hb2)
          clear hn2 hb2 HN1 HB1
          go_wp2_with fail
          exact bodyPost_ret (v := .tuple #[.slice none 0 0, .int .i64 E]) (by simp [results, Tryz.results43, go_sem]) rfl ⟨none, 0, 0, rfl, by rw [HR.out]; exact Row.nil _, HB2.out⟩
        · refine (HIH.out _ w1 HB1.out HN1.out).mono ?_
          rintro e w2 ⟨A2, m2, c2, rfl, hn2, hb2⟩
          have HB2 := Lib.hid (Below.after HB1.out hb2)
          clear hn2 hb2 HN1 HB1
          go_wp2_with fail
          exact bodyPost_ret (v := .tuple #[.slice none 0 0, .int .i64 E]) (by simp [results, Tryz.results43, go_sem]) rfl ⟨none, 0, 0, rfl, by rw [HR.out]; exact Row.nil _, HB2.out⟩
    · obtain ⟨h1, h2⟩ := got_cons_bad (q := p) he
      obtain ⟨E, hE⟩ : ∃ E, errP [s] t = E := ⟨_, rfl⟩
      have HR : Hid (putP (s :: p) t x = []) := Lib.hid (put_none (by rw [h2]; exact he))
      rw [h2, hE]
      rw [hE] at he HP
      have he2 : (!E == 0) = true := by simpa using he
      generalize putP (s :: p) t x = R at *
      clear h1 h2 hE hsh hnm
      go_enter Tryz.func43, Tryz.ntmps43
      go_wp2_with fail
      refine HP.out.mono ?_
      rintro e w1 ⟨A1, m1, c1, rfl, hn1, hb1⟩
      have HB1 := Lib.hid hb1
      clear hn1 hb1 z0 z1 z2
      go_wp2_with fail
      exact bodyPost_ret (v := .tuple #[.slice none 0 0, .int .i64 E]) (by simp [results, Tryz.results43, go_sem]) rfl ⟨none, 0, 0, rfl, by rw [HR.out]; exact Row.nil _, HB1.out⟩
termination_by p => p.length
end Go.Proofs.YtdibcamnoolnmaaGreatDoor

/-
  The walk of the statement PathGets: it returns true.
-/
namespace Go.Proofs.YtdibcamnoolnmaaGreatDoor
open Go.RowKit Np Rw Vp Up Qp Pw

set_option maxRecDepth 100000 in
set_option maxHeartbeats 16000000 in
theorem pathGets_any (pv qv vv xv : Value) (p q : List St) (l0 l1 : List Nd) (w : World) (hp : Sps w pv p) (hq : Sps w qv q) (hps : Stp p) (hqs : Stp q) (hvv : Nds w vv l0) (hxv : Nds w xv l1)
    (hT : Pv w) : Calls Tryz.prog 9 #[.agg #[pv, qv], vv, xv] w fun e w' => e = .returned (.bool true) ∧ Below w.heap.size w w' := by
  have HT := Lib.hid hT
  have HAL := Lib.hid (fun (W : World) (hb : Below w.heap.size w W) => (palive_any W (HT.out.below hb)).mono fun (e : Ending) w' (h : e = .returned (.bool true) ∧ Below W.heap.size W w') => (⟨h.1, Below.after hb h.2⟩ : e = .returned (.bool true) ∧ Below w.heap.size w w'))
  have HPp := Lib.hid hp
  have HPq := Lib.hid hq
  have HSp := Lib.hid hps
  have HSq := Lib.hid hqs
  obtain ⟨PA, pc, rfl, -⟩ := hp
  obtain ⟨QA, qc, rfl, -⟩ := hq
  clear hps hqs
  have HVl0 := Lib.hid hvv
  obtain ⟨l0A, l0c, rfl, -⟩ := hvv
  have HVl1 := Lib.hid hxv
  obtain ⟨l1A, l1c, rfl, -⟩ := hxv
  clear hT
  go_enter Tryz.func9, Tryz.ntmps9
  go_upto_region 1 with fail
  go_quiet (fail)
  have HB0 : Hid (Below w.heap.size w ((w.alloc (.cells #[.slice PA p.length pc, .slice QA q.length qc] 48)).drewN nq)) := Lib.hid (drewN_below ((Below.refl _ _).alloc (Nat.le_refl _) _) _)
  generalize (w.alloc (.cells #[.slice PA p.length pc, .slice QA q.length qc] 48)).drewN nq = wz at *
  go_wp2_with fail
  refine (lawFew_any _ p _ (HPp.out.below HB0.out) HSp.out.nm).mono ?_
  rintro e wq ⟨rfl, rfl⟩
  cases hfp : fewP p with
  | false =>
    go_wp2_with fail
    refine (HAL.out _ HB0.out).mono ?_
    rintro e wa ⟨rfl, hba⟩
    go_wp2_with fail
    go_ret
    exact ⟨rfl, hba⟩
  | true =>
    go_wp2_with fail
    refine (lawFew_any _ q _ (HPq.out.below HB0.out) HSq.out.nm).mono ?_
    rintro e wq ⟨rfl, rfl⟩
    cases hfq : fewP q with
    | false =>
      go_wp2_with fail
      refine (HAL.out _ HB0.out).mono ?_
      rintro e wa ⟨rfl, hba⟩
      go_wp2_with fail
      go_ret
      exact ⟨rfl, hba⟩
    | true =>
      go_wp2_with fail
      refine (refRightP_any _ p _ (HPp.out.below HB0.out) HSp.out.nm).mono ?_
      rintro e wq ⟨rfl, rfl⟩
      cases hrp : rightP p with
      | false =>
        go_wp2_with fail
        refine (HAL.out _ HB0.out).mono ?_
        rintro e wa ⟨rfl, hba⟩
        go_wp2_with fail
        go_ret
        exact ⟨rfl, hba⟩
      | true =>
        go_wp2_with fail
        refine (refRightP_any _ q _ (HPq.out.below HB0.out) HSq.out.nm).mono ?_
        rintro e wq ⟨rfl, rfl⟩
        cases hrq : rightP q with
        | false =>
          go_wp2_with fail
          refine (HAL.out _ HB0.out).mono ?_
          rintro e wa ⟨rfl, hba⟩
          go_wp2_with fail
          go_ret
          exact ⟨rfl, hba⟩
        | true =>
          go_wp2_with fail
          refine (refFew_any _ l0 60 _ (HVl0.out.below HB0.out) (by decide)).mono ?_
          rintro e w5 ⟨rfl, hb5⟩
          have HB5 : Hid (Below w.heap.size w w5) := Lib.hid (Below.after HB0.out hb5)
          clear hb5
          cases hfl0 : few 60 l0 with
          | false =>
            go_wp2_with fail
            refine (HAL.out _ HB5.out).mono ?_
            rintro e wa ⟨rfl, hba⟩
            go_wp2_with fail
            go_ret
            exact ⟨rfl, hba⟩
          | true =>
            go_wp2_with fail
            refine (refFew_any _ l1 60 _ (HVl1.out.below HB5.out) (by decide)).mono ?_
            rintro e w6 ⟨rfl, hb6⟩
            have HB6 : Hid (Below w.heap.size w w6) := Lib.hid (Below.after HB5.out hb6)
            clear hb6
            cases hfl1 : few 60 l1 with
            | false =>
              go_wp2_with fail
              refine (HAL.out _ HB6.out).mono ?_
              rintro e wa ⟨rfl, hba⟩
              go_wp2_with fail
              go_ret
              exact ⟨rfl, hba⟩
            | true =>
              obtain ⟨hpl, -⟩ := fewp_len hfp
              obtain ⟨hql, -⟩ := fewp_len hfq
              obtain ⟨hpa, hpl2⟩ := rightp_all hrp
              obtain ⟨hqa, hql2⟩ := rightp_all hrq
              clear hfp hfq hrp hrq
              obtain ⟨t, htv, rfl, htl, hts⟩ := few_tr hfl0
              obtain ⟨x, hxv, rfl, hxl, hxs⟩ := few_tr hfl1
              have HTV := Lib.hid htv
              have HXV := Lib.hid hxv
              have HTL := Lib.hid htl
              have HXL := Lib.hid hxl
              have HTS := Lib.hid hts
              have HPA := Lib.hid hpa
              clear hfl0 hfl1 htv hxv hts hxs hpa hqa
              have hG1 := pget_any _ _ p t _ (HPp.out.below HB6.out) (HVl0.out.below HB6.out) HTV.out.ok (by omega) (by omega)
              go_wp2_with fail
              refine hG1.mono ?_
              rintro e w7 ⟨A7, n7, c7, rfl, hl7, hb7⟩
              obtain rfl := row_of hl7
              have HA7 := Lib.hid hl7
              have HB7 := Lib.hid (Below.after HB6.out hb7)
              clear hG1 hl7 hb7
              go_wp2_with fail
              have hG2 := refGet_any _ _ p t _ (HPp.out.below HB7.out) (HVl0.out.below HB7.out) (by omega) HTV.out HPA.out (by omega)
              refine hG2.mono ?_
              rintro e w8 ⟨A8, n8, c8, rfl, hl8, hb8⟩
              obtain rfl := row_of hl8
              have HC8 := Lib.hid hl8
              have HA8 := Lib.hid (HA7.out.below hb8)
              have HB8 := Lib.hid (Below.after HB7.out hb8)
              clear hG2 hl8 hb8 HA7 HB7
              go_wp2_with fail
              have hS1 := pset_any _ _ _ p t x _ (HPp.out.below HB8.out) (HVl0.out.below HB8.out) (HVl1.out.below HB8.out) HTV.out.ok (by omega) (by omega) (by omega)
              refine hS1.mono ?_
              rintro e w9 ⟨A9, n9, c9, rfl, hl9, hb9⟩
              obtain rfl := row_of hl9
              have HD9 := Lib.hid hl9
              have HC9 := Lib.hid (HC8.out.below hb9)
              have HA9 := Lib.hid (HA8.out.below hb9)
              have HB9 := Lib.hid (Below.after HB8.out hb9)
              clear hS1 hl9 hb9 HA8 HC8 HB8
              go_wp2_with fail
              have hS2 := refSet_any p _ _ _ t x _ (HPp.out.below HB9.out) (HVl0.out.below HB9.out) (HVl1.out.below HB9.out) (by omega) (by omega) HTV.out HXV.out HTS.out HPA.out (by omega) HSp.out.nm
              refine hS2.mono ?_
              rintro e w10 ⟨A10, n10, c10, rfl, hl10, hb10⟩
              obtain rfl := row_of hl10
              have HE10 := Lib.hid hl10
              have HD10 := Lib.hid (HD9.out.below hb10)
              have HC10 := Lib.hid (HC9.out.below hb10)
              have HA10 := Lib.hid (HA9.out.below hb10)
              have HB10 := Lib.hid (Below.after HB9.out hb10)
              clear hS2 hl10 hb10 HA9 HC9 HD9 HB9
              generalize errP p t = E at *
              have hEE : (E == E) = true := by simp
              go_wp2_with fail
              refine (palive_any _ (HT.out.below HB10.out)).mono ?_
              rintro e w11 ⟨rfl, hb11⟩
              have HE11 := Lib.hid (HE10.out.below hb11)
              have HD11 := Lib.hid (HD10.out.below hb11)
              have HC11 := Lib.hid (HC10.out.below hb11)
              have HA11 := Lib.hid (HA10.out.below hb11)
              have HB11 := Lib.hid (Below.after HB10.out hb11)
              clear hb11 HE10 HD10 HC10 HA10 HB10
              go_wp2_with fail
              have hQ1 := refSame_any _ _ _ _ _ HA11.out HC11.out
              rw [show decide (gotP p t = gotP p t) = true by simp] at hQ1
              refine hQ1.mono ?_
              rintro e w12 ⟨rfl, hb12⟩
              have HE12 := Lib.hid (HE11.out.below hb12)
              have HD12 := Lib.hid (HD11.out.below hb12)
              have HB12 := Lib.hid (Below.after HB11.out hb12)
              clear hQ1 hb12 HE11 HD11 HC11 HA11 HB11
              go_wp2_with fail
              have hQ2 := refSame_any _ _ _ _ _ HD12.out HE12.out
              rw [show decide (putP p t x = putP p t x) = true by simp] at hQ2
              refine hQ2.mono ?_
              rintro e w13 ⟨rfl, hb13⟩
              have HB13 := Lib.hid (Below.after HB12.out hb13)
              clear hQ2 hb13 HE12 HD12 HB12
              go_wp2_with fail
              have hA1 := papart_any _ _ p q _ (HPp.out.below HB13.out) (HPq.out.below HB13.out) (by omega) (by omega)
              refine hA1.mono ?_
              rintro e w14 ⟨rfl, n14, rfl⟩
              have HB14 : Hid (Below w.heap.size w (w13.drewN n14)) := Lib.hid (drewN_below HB13.out n14)
              clear hA1 HB13
              generalize w13.drewN n14 = w14 at *
              go_wp2_with fail
              have hA2 := refApart_any _ _ p q _ (HPp.out.below HB14.out) (HPq.out.below HB14.out)
              refine hA2.mono ?_
              rintro e w15 ⟨rfl, n15, rfl⟩
              have HB15 : Hid (Below w.heap.size w (w14.drewN n15)) := Lib.hid (drewN_below HB14.out n15)
              clear hA2 HB14
              generalize w14.drewN n15 = w15 at *
              have hbb : (apartP p q == apartP p q) = true := by simp
              go_wp2_with fail
              go_ret
              exact ⟨ret_bool (by first | rfl | simp), HB15.out⟩
end Go.Proofs.YtdibcamnoolnmaaGreatDoor

/-
  How a statement on paths that returns true, and leaves what lay below as it was, closes its row: the tables of powers of ten and of UTF-8, and the library's two errors lie as they are laid.
-/
namespace Go.Proofs.YtdibcamnoolnmaaGreatDoor
open Go.ChangeShapes Go.WideShapes Go.ChangeAt Go.RowKit

theorem ownKn : ownKnob Tryz.prog.godebug = none := by kernel_rfl
theorem laidOut : laidOutB Tryz.prog = true := by kernel_rfl

/-- What the rows list. -/
def seatLaid : List (String × DataW Unit) := [("math/bits.deBruijn32tab", Rows.laid_math_bits_deBruijn32tab), ("math/bits.deBruijn64tab", Rows.laid_math_bits_deBruijn64tab), ("internal/strconv.uint64pow10", Rows.laid_internal_strconv_uint64pow10), ("unicode/utf8.acceptRanges", Rows.laid_unicode_utf8_acceptRanges), ("strconv.ErrRange", Rows.laid_strconv_ErrRange), ("strconv.ErrSyntax", Rows.laid_strconv_ErrSyntax), ("unicode/utf8.first", Rows.laid_unicode_utf8_first)]

theorem powData : (Rows.laid_internal_strconv_uint64pow10 : DataW Unit) = Lib.tabData .u64 Lib.pow10Tab := by kernel_rfl
theorem powTab_of_laid {W : World} (h : laidMetH Tryz.prog seatLaid W) : PowTab W := by
  rw [MakeChecks.laidMetH_plain _ _ _ (by kernel_rfl)] at h
  have h2 := laidMet.tail (laidMet.tail h)
  rw [powData] at h2
  exact Lib.tabIs_of_head powTab (by kernel_rfl : _ = some 271) Tryz.underlying271 Tryz.underlying212 (by kernel_rfl) (by kernel_rfl) h2
theorem acceptSaid : (Rows.laid_unicode_utf8_acceptRanges : DataW Unit) = Lib.acceptData := by kernel_rfl
theorem tabs_of_laid {W : World} (h : laidMetH Tryz.prog seatLaid W) : Tabs W := by
  rw [MakeChecks.laidMetH_plain _ _ _ (by kernel_rfl)] at h
  refine utf8Tabs_of_readsT (ρ := Tryz.laysValid_ren) (U8Types.of196 Tryz.laysValid) ⟨by kernel_rfl, by kernel_rfl, by kernel_rfl, by kernel_rfl, by kernel_rfl, by kernel_rfl, by kernel_rfl⟩ ?_ ?_
  · have := Lib.laidMet.reads h (.tail _ (.tail _ (.tail _ (.tail _ (.tail _ (.tail _ (.head _)))))))
    rw [show Rows.laid_unicode_utf8_first = Lib.firstData from Pinned.utf8First_eq] at this
    exact this
  · have := Lib.laidMet.reads h (.tail _ (.tail _ (.tail _ (.head _))))
    rw [acceptSaid] at this
    exact this
theorem er_of_laid {W : World} (h : laidMetH Tryz.prog seatLaid W) : Er W := by
  rw [MakeChecks.laidMetH_plain _ _ _ (by kernel_rfl)] at h
  have h2 := laidMet.tail (laidMet.tail (laidMet.tail (laidMet.tail (laidMet.tail h))))
  obtain ⟨ps, ⟨g0, t0, cs0, f0, p0, q0, hg0, ht0, hv0, hd0, _, e0⟩, _, hrows⟩ := h2
  have hg : Tryz.prog.globalNamed "strconv.ErrSyntax" = some 5 := by kernel_rfl
  obtain rfl := Option.some.inj (hg.symm.trans hg0)
  obtain rfl := Option.some.inj ((show (Tryz.prog.globals[5]?).map (·.type) = some 102 by kernel_rfl).symm.trans ht0)
  obtain ⟨f1, u, v, hc, -⟩ := iface_of_trod Tryz.underlying102 hd0
  obtain ⟨l0⟩ := cs0
  simp only at hc
  subst hc
  exact ⟨.iface u v, by simpa using World.var?_cell hg0 hv0 0, .inr ⟨_, _, rfl⟩⟩

theorem er2_of_laid {W : World} (h : laidMetH Tryz.prog seatLaid W) : ∃ ev, W.cell? ⟨6, 0, none⟩ = some ev ∧ (ev = .nilIface ∨ ∃ te pe, ev = .iface te pe) := by
  rw [MakeChecks.laidMetH_plain _ _ _ (by kernel_rfl)] at h
  have h2 := laidMet.tail (laidMet.tail (laidMet.tail (laidMet.tail h)))
  obtain ⟨ps, ⟨g0, t0, cs0, f0, p0, q0, hg0, ht0, hv0, hd0, _, e0⟩, _, hrows⟩ := h2
  have hg : Tryz.prog.globalNamed "strconv.ErrRange" = some 6 := by kernel_rfl
  obtain rfl := Option.some.inj (hg.symm.trans hg0)
  obtain rfl := Option.some.inj ((show (Tryz.prog.globals[6]?).map (·.type) = some 102 by kernel_rfl).symm.trans ht0)
  obtain ⟨f1, u, v, hc, -⟩ := iface_of_trod Tryz.underlying102 hd0
  obtain ⟨l0⟩ := cs0
  simp only at hc
  subst hc
  exact ⟨.iface u v, by simpa using World.var?_cell hg0 hv0 0, .inr ⟨_, _, rfl⟩⟩

theorem pv_of_laid {W : World} (h : laidMetH Tryz.prog seatLaid W) : Pv W := ⟨powTab_of_laid h, tabs_of_laid h, er_of_laid h, er2_of_laid h⟩
theorem laid_met (os : Os) (args : Array Value) : laidMetH Tryz.prog seatLaid ((World.laidAll Tryz.prog os seatLaid).forCall (fun _ _ => 0) ⟨#[], args, []⟩).memory := by
  rw [MakeChecks.laidMetH_plain _ _ _ (by kernel_rfl)]
  exact laidMet_laidAll _ (by kernel_rfl) (by kernel_rfl)

section
variable {H : Type} {enc : TypeId × Value → H} {P : Program} {W W' : World}
/-- Arguments read as before, where nothing below has turned. -/
theorem trodAll_below (hl : laidOutB P = true) (hb : Below W.heap.size W W') : ∀ {ts : List TypeId} {vs : List Value} {ds : List (DataW H)} {ps : List MemPlace}, (∀ t ∈ ts, P.readableRec t = true ∧ t < P.types.size) →
    DataW.TrodAll enc P W 0 (fun _ => true) true ts vs ds ps → (∀ x ∈ ps, x.block < W.heap.size) → DataW.TrodAll enc P W' 0 (fun b => decide (b < W.heap.size)) true ts vs ds ps
  | [], [], [], _, _, h, _ => h
  | t :: ts, v :: vs, d :: ds, _, ht, h, hlt => by
    obtain ⟨p, q, h1, h2, rfl⟩ := h
    exact ⟨p, q, Below.trod hl (ht t (by simp)).1 (ht t (by simp)).2 h1 hb (fun x hx => hlt x (by simp [hx])), trodAll_below hl hb (fun u hu => ht u (by simp [hu])) h2 (fun x hx => hlt x (by simp [hx])), rfl⟩
  | [], [], _ :: _, _, _, h, _ => h.elim
  | [], _ :: _, _, _, _, h, _ => h.elim
  | _ :: _, [], _, _, _, h, _ => h.elim
  | _ :: _, _ :: _, [], _, _, h, _ => h.elim
/-- The end of a statement's row. -/
theorem law_post {f : Func} {s : ChangeSpec} {args : Array Value} {ds : List (DataW H)} {before : List MemPlace} {tb : TypeId} (hl : laidOutB P = true)
    (hW : DataW.Whole enc P f.params.toList s.vars false W args.toList ds [] before) (hvars : s.vars = []) (htb : P.underlying tb = some .bool) (hres : f.resultTypes = #[tb])
    (hfn : s.fn H ds = { results := [.lit (.bool true)], args := ds }) (hread : ∀ t ∈ f.params.toList, P.readableRec t = true ∧ t < P.types.size) (hb : Below W.heap.size W W') :
    s.post enc P f false true false false W args (.bool true) W' := by
  have hlt : ∀ x ∈ before, x.block < W.heap.size := fun x hx => hW.lt x hx
  have hW2 := hW
  obtain ⟨p, q, hA, hV, rfl, _, _⟩ := hW
  refine ⟨ds, [], p ++ q, [], p, q, hW2, ?_, ?_, ?_, hb.frame _, fun h => by cases h⟩
  · rw [List.append_nil, hfn, hres]
    exact trodAll_mk1 (shut_bool htb _)
  · rw [List.append_nil, hfn]
    exact trodAll_below hl hb hread hA (fun x hx => hlt x (by simp [hx]))
  · rw [hvars] at hV ⊢
    rw [List.append_nil, hfn]
    exact hV
end


/-- A text is no longer than the form's reach. -/
theorem text_sized {H : Type} {P : Program} {ts : List TypeId} {ds : List (DataW H)} (h : (DataW.weightsEach P ts ds).all (· ≤ reachBytes) = true) {j : Nat} {t : TypeId} {s : ByteArray} (ht : ts[j]? = some t) (hd : ds[j]? = some (.lit (.string s.data.toList))) : s.size ≤ 140737488355328 := by
  have h1 := sized_string h ht hd
  rw [Np.size_toList] at h1
  have hr : reachBytes = 140737488351232 := rfl
  rw [hr] at h1
  omega
end Go.Proofs.YtdibcamnoolnmaaGreatDoor

/-
  A card's arguments that are paths, pairs of paths, and pairs of values.
-/
namespace Go.Proofs.YtdibcamnoolnmaaGreatDoor
open Go.ChangeShapes Go.WideShapes Go.ChangeAt Go.RowKit Go.Deep Np Pw

section
variable {H : Type} {enc : TypeId × Value → H} {w : World} {base : Nat} {sp : Nat → Bool} {held : Bool}
theorem int_range {x : Int} (h : (Lit.int .i64 x).wf = true) : -9223372036854775808 ≤ x ∧ x ≤ 9223372036854775807 := by
  simp only [Lit.wf, IntKind.min, IntKind.max, IntKind.signed, IntKind.bits, Bool.and_eq_true, decide_eq_true_eq, if_true] at h
  omega
theorem cells_step : Tryz.prog.cellsOf 63 = 3 := by kernel_rfl
theorem cells_path : Tryz.prog.cellsOf 40 = 1 := by kernel_rfl
theorem cells_value : Tryz.prog.cellsOf 50 = 1 := by kernel_rfl
def StQ (s : St) : Prop := s.name.length ≤ maxLen ∧ -9223372036854775808 ≤ s.n ∧ s.n ≤ 9223372036854775807
set_option maxRecDepth 100000 in
theorem rd_step : ∀ n cs (d : DataW H × List MemPlace), DataW.trod enc Tryz.prog w base sp held n 63 cs = some d → ∃ y : St, cs = spc y ∧ StQ y := by
  intro fuel l d hf
  obtain ⟨xs, n, -, -, hl, hx, hg⟩ := DataW.trod_struct Tryz.underlying63 hf
  rw [cells_step] at hl
  have c3 : Tryz.prog.cellsOf 3 = 1 := by kernel_rfl
  have c9 : Tryz.prog.cellsOf 9 = 1 := by kernel_rfl
  have c4 : Tryz.prog.cellsOf 4 = 1 := by kernel_rfl
  have at' : ∀ i, (h : i < xs.length) → xs[i]? = some (xs[i]'h) := fun i h => List.getElem?_eq_getElem h
  have hx3 : xs.length = 3 := hx
  match l, hl with
  | [v0, v1, v2], _ =>
    have g0 := (hg 0 _ rfl).trans (at' 0 (by omega))
    have g1 := (hg 1 _ rfl).trans (at' 1 (by omega))
    have g2 := (hg 2 _ rfl).trans (at' 2 (by omega))
    simp only [List.getElem_toArray, List.getElem_cons_zero, List.getElem_cons_succ, c3, c9, c4] at g0 g1 g2
    obtain ⟨b, e0, -⟩ := DataW.trod_bool Tryz.underlying4 g0
    obtain ⟨s, e1, -, hs⟩ := DataW.trod_string Tryz.underlying9 g1
    obtain ⟨x, e2, -, hxw⟩ := DataW.trod_int Tryz.underlying3 g2
    simp at e0 e1 e2
    subst e0 e1 e2
    exact ⟨⟨b, s.data.toList, x⟩, rfl, by simpa using hs, int_range hxw⟩
set_option maxRecDepth 100000 in
theorem path_of {fuel : Nat} {v : Value} {x : DataW H × List MemPlace} (h : DataW.trod enc Tryz.prog w base sp held fuel 40 [v] = some x) : ∃ p : List St, Sps w v p ∧ Stp p := by
  obtain ⟨l, h1, h2⟩ := open_rows (Q := fun (y : St) _ => StQ y) Tryz.underlying40 cells_step (by decide) spc_len (fun n cs d h => rd_step n cs d h) h
  refine ⟨l, h1, fun s hs => ?_⟩
  rcases h2 with ⟨-, rfl⟩ | ⟨ds, sp', -, -, h3⟩
  · cases hs
  · obtain ⟨i, hi, rfl⟩ := List.getElem_of_mem hs
    obtain ⟨d, -, hq⟩ := h3 i _ (List.getElem?_eq_getElem hi)
    exact hq
set_option maxRecDepth 100000 in
/-- A path. -/
theorem open_path {r : Reach} {b0 : Nat} {v : Value} {d : DataW H} {ps : List MemPlace} (hv : Value.okWide Tryz.prog w r b0 40 v) (h : DataW.Trod enc Tryz.prog w base sp held 40 v d ps) : ∃ p : List St, Sps w v p ∧ Stp p := by
  obtain ⟨a, len, cap, rfl⟩ := okWide_slice Tryz.underlying40 hv
  obtain ⟨fuel, hf⟩ := h
  exact path_of hf
set_option maxRecDepth 100000 in
/-- Two paths. -/
theorem open_paths {r : Reach} {b0 : Nat} {v : Value} {d : DataW H} {ps : List MemPlace} (hv : Value.okWide Tryz.prog w r b0 48 v) (h : DataW.Trod enc Tryz.prog w base sp held 48 v d ps) :
    ∃ (a b : Value) (p q : List St), v = .agg #[a, b] ∧ Sps w a p ∧ Sps w b q ∧ Stp p ∧ Stp q := by
  simp only [Value.okWide, Tryz.underlying48] at hv
  obtain ⟨⟨l⟩, rfl, hl, -⟩ := hv
  rw [show Tryz.prog.cellsOf 48 = 2 by kernel_rfl] at hl
  obtain ⟨fuel, hf⟩ := h
  obtain ⟨xs, n, -, -, -, hx, hg⟩ := DataW.trod_array Tryz.underlying48 hf
  match l, hl with
  | [v0, v1], _ =>
    have g0 := (hg 0 (by decide)).trans (List.getElem?_eq_getElem (by rw [hx]; decide))
    have g1 := (hg 1 (by decide)).trans (List.getElem?_eq_getElem (by rw [hx]; decide))
    simp only [cells_path] at g0 g1
    obtain ⟨p, hp, hps⟩ := path_of (v := v0) g0
    obtain ⟨q, hq, hqs⟩ := path_of (v := v1) g1
    exact ⟨v0, v1, p, q, rfl, hp, hq, hps, hqs⟩
set_option maxRecDepth 100000 in
/-- Two values, and how long they may be. -/
theorem open_vals2 {ts : List TypeId} {ds : List (DataW H)} (hwt : (DataW.weightsEach Tryz.prog ts ds).all (· ≤ reachBytes) = true) {j : Nat} {r : Reach} {b0 : Nat} {v : Value} {d : DataW H} {ps : List MemPlace} (ht : ts[j]? = some 58) (hd : ds[j]? = some d) (hv : Value.okWide Tryz.prog w r b0 58 v) (h : DataW.Trod enc Tryz.prog w base sp held 58 v d ps) :
    ∃ (a b : Value) (l k : List Nd), v = .agg #[a, b] ∧ Nds w a l ∧ Nds w b k ∧ l.length ≤ 140737488355328 ∧ k.length ≤ 140737488355328 := by
  simp only [Value.okWide, Tryz.underlying58] at hv
  obtain ⟨⟨l⟩, rfl, hl, -⟩ := hv
  rw [show Tryz.prog.cellsOf 58 = 2 by kernel_rfl] at hl
  obtain ⟨fuel, hf⟩ := h
  obtain ⟨xs, n, -, hdx, -, hx, hg⟩ := DataW.trod_array Tryz.underlying58 hf
  injection hdx with hdx _
  have hr : reachBytes = 140737488351232 := rfl
  have b2 : Tryz.prog.bytesOf 35 = 64 := by kernel_rfl
  have key : ∀ (i : Nat) (u : Value) (x : DataW H × List MemPlace), xs[i]? = some x → DataW.trod enc Tryz.prog w base sp held n 50 [u] = some x → ∃ m : List Nd, Nds w u m ∧ m.length ≤ 140737488355328 := by
    intro i u x hxi hu
    obtain ⟨m, h1, h2⟩ := open_rows (Q := fun _ _ => True) Tryz.underlying50 cells_node (by decide) ndc_len (fun n cs d h => rd_node n cs d h) hu
    refine ⟨m, h1, ?_⟩
    rcases h2 with ⟨-, rfl⟩ | ⟨es, sp', hx1, hlen, -⟩
    · simp
    · have hmem : (es.length + sp'.length) * Tryz.prog.bytesOf 35 ∈ d.weights Tryz.prog 58 := by
        rw [hdx]
        simp only [DataW.weights, Tryz.underlying58]
        have h3 : ∀ (L : List (DataW H)) (y : DataW H), y ∈ L → ∀ z ∈ y.weights Tryz.prog 50, z ∈ DataW.weightsAll Tryz.prog 50 L := by
          intro L
          induction L with
          | nil => intro y hy; cases hy
          | cons a L ih =>
            intro y hy z hz
            simp only [DataW.weightsAll, List.mem_append]
            rcases List.mem_cons.1 hy with rfl | hy
            · exact .inl hz
            · exact .inr (ih y hy z hz)
        refine h3 _ x.1 (List.mem_map_of_mem (List.mem_of_getElem? hxi)) _ ?_
        rw [hx1]
        simp [DataW.weights, Tryz.underlying50]
      have h4 := of_decide_eq_true (List.all_eq_true.1 hwt _ (DataW.weights_mem_each ht hd _ hmem))
      rw [b2, hr] at h4
      omega
  match l, hl with
  | [v0, v1], _ =>
    have h0 : xs[0]? = some (xs[0]'(by rw [hx]; decide)) := List.getElem?_eq_getElem _
    have h1 : xs[1]? = some (xs[1]'(by rw [hx]; decide)) := List.getElem?_eq_getElem _
    have g0 := (hg 0 (by decide)).trans h0
    have g1 := (hg 1 (by decide)).trans h1
    simp only [cells_value] at g0 g1
    obtain ⟨p, hp, hps⟩ := key 0 v0 _ h0 g0
    obtain ⟨q, hq, hqs⟩ := key 1 v1 _ h1 g1
    exact ⟨v0, v1, p, q, rfl, hp, hq, hps, hqs⟩
end
end Go.Proofs.YtdibcamnoolnmaaGreatDoor

/-
  The statement PathGets holds: called with any two paths and any two values, whatever lies in memory, it returns true, and each argument reads as it read before. Conditions: the listed variables of the library (two tables of bits, one of powers of ten, two of UTF-8, strconv's two errors) read as the program's text lays them (the tie is given).
-/
namespace Go.Proofs.YtdibcamnoolnmaaGreatDoor
open Go.ChangeShapes Go.WideShapes Go.ChangeAt Go.RowKit Go.ChangeMaps Pw

set_option maxRecDepth 100000 in
theorem pathGets_lifted (os : Os) (started : os.Started) (H : Type) (enc : TypeId × Value → H) :
    ReturnsInHanded {} Tryz.checked os 9 .any (fun w args => (Rows.pathGetsSpec.pre enc Tryz.prog Tryz.f9 [] false w args ∧ laidMetH Tryz.prog seatLaid w) ∧ sizedMet enc Tryz.prog Tryz.f9 (OpenSpec.ofChange Rows.pathGetsSpec) false w args)
      (Rows.pathGetsSpec.post enc Tryz.prog Tryz.f9 false true false false) := by
  refine returnsInHanded_of_change_and (C := Tryz.checked) (X := fun w _ => laidMetH Tryz.prog seatLaid w) (fun _ _ _ hh h => h.of_heap hh) ownKn started (by kernel_rfl) Tryz.func9
    (ChangeSpec.witness_shaped (enc := enc) (C := Tryz.checked) (os := os) (X := fun w _ => laidMetH Tryz.prog seatLaid w) false (World.laidAll Tryz.prog os seatLaid)
      #[.agg #[.slice none 0 0, .slice none 0 0], .slice none 0 0, .slice none 0 0] 8 (World.laidAll_os _ _ _)
      (World.shaped_of_ZipB (by kernel_rfl) (by kernel_rfl)) (by kernel_rfl) (by kernel_rfl) (by kernel_rfl) (laid_met os _)) ?_
  intro W base args ds gs before hval0 hW _ hwt0 hL _
  have hval : ∀ (j : Nat) t v, Tryz.f9.params[j]? = some t → args[j]? = some v → Value.okWide Tryz.prog W .any base t v := hval0
  have hW' := hW
  obtain ⟨p, q, hA0, hV, rfl, _, _⟩ := hW
  have hA : DataW.TrodAll enc Tryz.prog W 0 (fun _ => true) true Tryz.f9.params.toList args.toList ds p := hA0
  have hwt : (DataW.weightsEach Tryz.prog (Tryz.f9.params.toList ++ Rows.pathGetsSpec.plain.varTypes Tryz.prog) (ds ++ gs)).all (· ≤ reachBytes) = true := hwt0
  rw [Tryz.params9] at hA hval
  obtain ⟨v0, v1, v2, d0, d1, d2, p0, p1, p2, rfl, rfl, rfl, h0, h1, h2⟩ := trodAll_three hA
  obtain ⟨rfl, rfl⟩ := trodVars_none hV
  obtain ⟨a0, b0, p0, q0, rfl, hp0, hq0, hs0, ht0⟩ := open_paths (base := 0) (sp := fun _ => true) (held := true) (hval 0 _ v0 rfl rfl) h0
  obtain ⟨l1, hv1⟩ := open_val (base := 0) (sp := fun _ => true) (held := true) (hval 1 _ v1 rfl rfl) h1
  obtain ⟨l2, hv2⟩ := open_val (base := 0) (sp := fun _ => true) (held := true) (hval 2 _ v2 rfl rfl) h2
  refine (pathGets_any a0 b0 v1 v2 p0 q0 l1 l2 W hp0 hq0 hs0 ht0 hv1 hv2 (pv_of_laid hL)).mono fun e W' ⟨he, hb⟩ => ?_
  subst he
  exact ⟨_, rfl, law_post (tb := 4) laidOut hW' rfl Tryz.underlying4 (by kernel_rfl) rfl (by
    rw [Tryz.params9]
    intro t ht
    have hall : ([48, 50, 50].all fun t => Tryz.prog.readableRec t && decide (t < Tryz.prog.types.size)) = true := by kernel_rfl
    obtain ⟨h1, h2⟩ := Bool.and_eq_true_iff.1 (List.all_eq_true.1 hall t ht)
    exact ⟨h1, of_decide_eq_true h2⟩) hb⟩

set_option maxHeartbeats 8000000 in
theorem pathGets_joined : joinedFacts Tryz.prog 9 Tryz.f9 Rows.pathGetsSpec Rows.pathGetsRow = true := by
  simp only [joinedFacts, Bool.and_eq_true]
  repeat' apply And.intro
  all_goals as_aux_lemma => kernel_rfl
theorem pathGets_holds : Rows.PathGetsSaid :=
  OpenClaim.holds_of_wide 9 Tryz.f9 rfl rfl rfl rfl rfl rfl rfl ⟨rfl, rfl, rfl, rfl, rfl⟩ rfl rfl rfl rfl rfl (by kernel_rfl) Tryz.func9 pathGets_joined
    (of_decide_eq_true (by kernel_rfl)) (by unfold Func.isWrapper; first | (rw [if_pos (by decide +kernel)]; kernel_rfl) | (rw [if_neg (by decide +kernel)]; exact ⟨rfl, rfl⟩))
    (fun os started H enc _ => pathGets_lifted os started H enc)

theorem pathGets_card : Rows.PathGetsCardSaid :=
  Claim7.holds_tied_plain_at .later [] Rows.pathGetsCard.laidKinds true Rows.pathGetsCard.stood.harness Rows.pathGetsCard.stood.looks
    pathGets_holds (fun _ h => by cases h) (by kernel_rfl) (fun _ h => by cases h) pathGets_row_tie rfl ⟨rfl, rfl⟩ (by kernel_rfl) rfl
    (fun f fn hf hfn => by
      obtain rfl : f = 9 := Option.some.inj ((show Tryz.prog.funcNamed "loupe/loupelaw06.PathGets" = some 9 by kernel_rfl).symm.trans hf) |>.symm
      obtain rfl : fn = Tryz.f9 := (Option.some.inj (Tryz.func9.symm.trans hfn)).symm
      exact ⟨by kernel_rfl, fun j t ht => by
        rw [Tryz.params9] at ht
        have hm : t ∈ [48, 50, 50] := by simpa using Array.mem_of_getElem? ht
        have hall : ([48, 50, 50].all fun u => !Tryz.prog.wantsStandIn u) = true := by kernel_rfl
        exact (show Tryz.prog.wantsStandIn t = false by simpa using List.all_eq_true.1 hall t hm)⟩)
    (by kernel_rfl)
#print axioms pathGets_card
end Go.Proofs.YtdibcamnoolnmaaGreatDoor
