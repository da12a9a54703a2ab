/-
  Joined: Tx2.
-/
import Derived.Test.YtbgciajfjllciaaGreatDoorTextDeepJ2
import Derived.Test.YtbgciajfjllciaaGreatDoorTextDeepJ3
import Derived.Test.YtbgciajfjllciaaGreatDoorTextDeepJ11
import Derived.Test.YtbgciajfjllciaaGreatDoorTextDeepJ12
import Derived.Shelf.Strings.SlTrimAscii
import Derived.StillTailTactics

/-
  What the reader's str, number and word are.
-/
namespace Go.Proofs.YtbgciajfjllciaaGreatDoor
open Go.RowKit Np Up Qp Tp

/-- How the reading of a string ends. -/
def StE (rb : Nat) (s : ByteArray) (d : Nat) (w : World) (R : Rs (List UInt8)) (e : Ending) (w' : World) : Prop :=
  Kb w.heap.size rb w w' ∧ match R with
  | .ok v k => e = .returned (.string ⟨v.toArray⟩) ∧ Rd rb s k d w'
  | .bad c p => e = flt c p
theorem StE.ok {rb : Nat} {s : ByteArray} {d k : Nat} {w w' : World} {R : Rs (List UInt8)} {v : List UInt8} (hR : R = .ok v k) (h1 : Kb w.heap.size rb w w') (h2 : Rd rb s k d w') : StE rb s d w R (.returned (.string ⟨v.toArray⟩)) w' := by subst hR; exact ⟨h1, rfl, h2⟩
theorem StE.bad {rb : Nat} {s : ByteArray} {d p : Nat} {w w' : World} {R : Rs (List UInt8)} {c : Int} (hR : R = .bad c p) (h1 : Kb w.heap.size rb w w') : StE rb s d w R (flt c p) w' := by subst hR; exact ⟨h1, rfl⟩

theorem StE.flt {rb : Nat} {s : ByteArray} {d p : Nat} {w w' : World} {R : Rs (List UInt8)} {c : Int} (hR : R = .bad c p) (q : Int) (hq : q = p) (h1 : Kb w.heap.size rb w w') : StE rb s d w R (.panicked [{ v := .iface 51 (.agg #[.int .i64 c, .int .i64 q]), recovered := false }]) w' := by subst hq; exact StE.bad hR h1

theorem cut_end (s : ByteArray) (k : Nat) : (s.extract k s.size).data.toList = s.data.toList.drop k := ext_end s k

set_option maxRecDepth 100000 in
set_option maxHeartbeats 2000000 in
theorem str_any (rb : Nat) (s : ByteArray) (i d : Nat) (w : World) (hr : Rd rb s i d w) (hi : i ≤ s.size) (hs : s.size ≤ 200000) (hE : ∀ w', Kb w.heap.size rb w w' → Er w') :
    Calls Tryz.prog 41 #[.pointer (some ⟨rb, 0, none⟩)] w (StE rb s d w (stR s.data.toList (sk s.data.toList i))) := by
  have HX := Lib.hid (next_any rb s i d w hr hi hs)
  have hT : sk s.data.toList i ≤ s.size := sk_le (S := s.data.toList) hi
  have HRR : Hid (stR s.data.toList (sk s.data.toList i) = if (unqs (s.data.toList.drop (sk s.data.toList i))).2.2 = 0 then .ok (unqs (s.data.toList.drop (sk s.data.toList i))).1 (sk s.data.toList i + (unqs (s.data.toList.drop (sk s.data.toList i))).2.1) else .bad (unqs (s.data.toList.drop (sk s.data.toList i))).2.2 (sk s.data.toList i + (unqs (s.data.toList.drop (sk s.data.toList i))).2.1)) := Lib.hid rfl
  have hsh := unqs_shape (s.data.toList.drop (sk s.data.toList i))
  generalize stR s.data.toList (sk s.data.toList i) = R at *
  generalize sk s.data.toList i = T at *
  have hcut := cut_end s T
  have hcs : (s.extract T s.size).size ≤ 1073741824 := by
    have := congrArg List.length hcut
    rw [List.length_drop, size_toList, size_toList] at this
    omega
  have HU := Lib.hid (fun w (h : Er w) => unquote_any (s.extract T s.size) w hcs h)
  rw [hcut] at HU
  have hdl : (s.data.toList.drop T).length ≤ s.size := by rw [List.length_drop, size_toList]; omega
  generalize unqs (s.data.toList.drop T) = u at *
  have hn : u.2.1 ≤ 200000 := by rcases hsh with h | h <;> omega
  clear hcut hcs hdl hr
  have HSH := Lib.hid hsh
  clear hsh
  go_enter Tryz.func41, Tryz.ntmps41
  go_wp2_with (go_at_call 27; refine HX.out.mono ?_)
  rintro e w1 ⟨rfl, hr1, hk1⟩
  have HR := Lib.hid hr1
  have HK := Lib.hid hk1
  have c0 := hr1.c0
  have c1 := hr1.c1
  have f1 := hr1.fz 1
  clear hr1 hk1
  have hEr : Er w1 := hE _ HK.out
  obtain ⟨uv, un, uc⟩ := u
  simp only at hn HSH HRR
  have HUU : Hid (∀ w (h : Er w), Calls Tryz.prog 68 #[.string (s.extract T s.size)] w fun e w' => e = .returned (.tuple #[.string ⟨uv.toArray⟩, .int .i64 un, .int .i64 uc]) ∧ Below w.heap.size w w') := Lib.hid HU.out
  clear HU
  go_upto_region 2 with fail
  go_cut [3, 4, 5] from 8 to 21 (fun a b c wx => a = .string ⟨uv.toArray⟩ ∧ b = .int .i64 un ∧ c = .int .i64 uc ∧ Below w1.heap.size w1 wx)
  case first =>
    go_region_with (go_at_call 68; refine (HUU.out w1.drew hEr).mono ?_; rintro e w2 ⟨rfl, hb2⟩)
    all_goals go_wp2_with fail
    all_goals go_meet
    all_goals exact ⟨rfl, rfl, rfl, ((Below.refl _ _).drew).trans hb2⟩
  case rest =>
    obtain ⟨rfl, rfl, rfl, hb2⟩ := hcut
    have HK2 : Hid (Kb w.heap.size rb w wc) := Lib.hid (HK.out.trans ((Kb.of hb2).mono HK.out.size))
    have HR2 : Hid (Rd rb s T d wc) := Lib.hid (HR.out.below hb2 HR.out.lt)
    have c0 := HR2.out.c0
    have c1 := HR2.out.c1
    have f1 := HR2.out.fz 1
    clear hb2
    rcases HSH.out with ⟨h1, -⟩ | ⟨-, h1, -⟩
    · subst h1
      have HRS : Hid (R = .ok uv (T + un)) := Lib.hid (by rw [HRR.out, if_pos rfl])
      have h3 := HR2.out.to (T + un)
      rw [Int.natCast_add] at h3
      have H3 := Lib.hid h3
      clear h3
      go_wp2
      go_ret
      exact StE.ok HRS.out (HK2.out.set 1 _) H3.out
    · subst h1
      have HRS : Hid (R = .bad 1 (T + un)) := Lib.hid (by rw [HRR.out, if_neg (by decide)])
      go_wp2
      exact ⟨rfl, StE.flt HRS.out _ (by omega) HK2.out⟩
end Go.Proofs.YtbgciajfjllciaaGreatDoor
