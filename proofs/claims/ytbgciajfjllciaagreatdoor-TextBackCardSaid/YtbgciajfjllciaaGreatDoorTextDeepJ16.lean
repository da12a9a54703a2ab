/-
  Joined: Tx3.
-/
import Derived.Test.YtbgciajfjllciaaGreatDoorTextDeepJ13
import Derived.Deep.RegionHeld3

/-
  What the reader's number and word are.
-/
namespace Go.Proofs.YtbgciajfjllciaaGreatDoor
open Go.RowKit Np Up Qp Tp

/-- How the reading of one node ends. -/
def NdE (rb : Nat) (s : ByteArray) (d : Nat) (w : World) (R : Rs (List Nd)) (e : Ending) (w' : World) : Prop :=
  Kb w.heap.size rb w w' ∧ match R with
  | .ok v k => ∃ n, v = [n] ∧ e = .returned (nda n) ∧ Rd rb s k d w'
  | .bad c p => e = flt c p
theorem NdE.ok {rb : Nat} {s : ByteArray} {d k : Nat} {w w' : World} {R : Rs (List Nd)} {n : Nd} (hR : R = .ok [n] k) (h1 : Kb w.heap.size rb w w') (h2 : Rd rb s k d w') : NdE rb s d w R (.returned (nda n)) w' := by subst hR; exact ⟨h1, n, rfl, rfl, h2⟩
theorem NdE.flt {rb : Nat} {s : ByteArray} {d p : Nat} {w w' : World} {R : Rs (List Nd)} {c : Int} (hR : R = .bad c p) (q : Int) (hq : q = p) (h1 : Kb w.heap.size rb w w') : NdE rb s d w R (.panicked [{ v := .iface 51 (.agg #[.int .i64 c, .int .i64 q]), recovered := false }]) w' := by subst hq; subst hR; exact ⟨h1, rfl⟩

theorem cut_mid (s : ByteArray) (i j : Nat) : (s.extract i j).data.toList = (s.data.toList.drop i).take (j - i) := by
  have h := Lib.extract_toList s i j
  rwa [ByteArray.toList_eq] at h

theorem new_lt (w : World) (Z : Obj) : w.heap.size < (w.alloc Z).drew.heap.size := by show w.heap.size < (w.alloc Z).heap.size; simp
/-- A new node is kept behind a call. -/
theorem new_node {wc w2 : World} {Z : Obj} (hZ : Z = .cells #[.int .i64 0, .int .i64 0, .string ⟨#[]⟩, .string ⟨#[]⟩, .bool false, .int .i64 0] 38) (hb : Below (wc.alloc Z).drew.heap.size (wc.alloc Z).drew w2) :
    wc.heap.size < w2.heap.size ∧ w2.cell? ⟨wc.heap.size, 0, none⟩ = some (.int .i64 0) ∧ w2.cell? ⟨wc.heap.size, 1, none⟩ = some (.int .i64 0) ∧ w2.cell? ⟨wc.heap.size, 2, none⟩ = some (.string ⟨#[]⟩) ∧ w2.cell? ⟨wc.heap.size, 3, none⟩ = some (.string ⟨#[]⟩) ∧ w2.cell? ⟨wc.heap.size, 4, none⟩ = some (.bool false) ∧ w2.cell? ⟨wc.heap.size, 5, none⟩ = some (.int .i64 0) ∧ (∀ o, w2.frozen? ⟨wc.heap.size, o, none⟩ = false) ∧ Hid (w2.heap[wc.heap.size]? = some Z) := by
  have hs : wc.heap.size < (wc.alloc Z).drew.heap.size := by show wc.heap.size < (wc.alloc Z).heap.size; simp
  have zz : w2.heap[wc.heap.size]? = some Z := (hb.block _ hs).trans (heap_alloc_new wc Z)
  subst hZ
  refine ⟨(Array.getElem?_eq_some_iff.1 zz).1, ?_, ?_, ?_, ?_, ?_, ?_, fun o => Lib.frozen_of_heap zz o, Lib.hid zz⟩ <;> (rw [Lib.cell_of_heap zz]; rfl)

theorem set6 {W : World} {b T : Nat} {a0 a1 a2 a3 a4 a5 : Value} (h : W.heap[b]? = some (.cells #[a0, a1, a2, a3, a4, a5] T (0, 0))) (v0 v1 v2 v3 v4 v5 : Value) :
    ((((((W.setCell ⟨b, 0, none⟩ v0).setCell ⟨b, 1, none⟩ v1).setCell ⟨b, 2, none⟩ v2).setCell ⟨b, 3, none⟩ v3).setCell ⟨b, 4, none⟩ v4).setCell ⟨b, 5, none⟩ v5).heap[b]? = some (.cells #[v0, v1, v2, v3, v4, v5] T (0, 0)) := by
  simp [World.setCell, Array.getElem?_modify, h]
set_option maxRecDepth 100000 in
set_option maxHeartbeats 4000000 in
theorem rdNumber_any (rb : Nat) (s : ByteArray) (T d : Nat) (w : World) (hr : Rd rb s T d w) (hT : T ≤ s.size) (hs : s.size ≤ 200000) :
    Calls Tryz.prog 42 #[.pointer (some ⟨rb, 0, none⟩)] w (NdE rb s d w (nuR s.data.toList T)) := by
  have hcut := cut_end s T
  have htt := trim_take (s.data.toList.drop T) numB
  have hle := nuT_len s.data.toList T hT
  rw [size_toList] at hle
  rw [List.length_drop, size_toList] at htt
  have hTR : ∀ w, Calls Tryz.prog 69 #[.string (s.extract T s.size), .string ⟨#[48, 49, 50, 51, 52, 53, 54, 55, 56, 57, 43, 45, 46, 101, 69]⟩] w fun e w' => e = .returned (.string ⟨(Lib.trimLeftS (s.data.toList.drop T) numB).toArray⟩) ∧ Below w.heap.size w w' := fun w => by
    have := Any.strings_TrimLeft_laid Tryz.lays161 (by kernel_rfl) (s.extract T s.size) ⟨#[48, 49, 50, 51, 52, 53, 54, 55, 56, 57, 43, 45, 46, 101, 69]⟩ w (by decide) (ascii_of_all (by decide))
    rw [hcut] at this
    exact this
  have HRR : Hid (nuR s.data.toList T = if (readF (nuT s.data.toList T)).2.2 = 0 then .ok [(readF (nuT s.data.toList T)).1] (T + (nuT s.data.toList T).length) else .bad (readF (nuT s.data.toList T)).2.2 (T + (readF (nuT s.data.toList T)).2.1.toNat)) := Lib.hid rfl
  have hmid : (s.extract T (T + (nuT s.data.toList T).length)).data.toList = nuT s.data.toList T := by
    rw [cut_mid, Nat.add_sub_cancel_left]; exact take_len_takeWhile _ _
  have hms : (s.extract T (T + (nuT s.data.toList T).length)).size ≤ 1000000 := by
    have := congrArg List.length hmid
    rw [size_toList] at this
    omega
  have hrd : ∀ w, Calls Tryz.prog 70 #[.string (s.extract T (T + (nuT s.data.toList T).length))] w fun e w' => e = .returned (.tuple #[nda (readF (nuT s.data.toList T)).1, .int .i64 (readF (nuT s.data.toList T)).2.1, .int .i64 (readF (nuT s.data.toList T)).2.2]) ∧ Below w.heap.size w w' := fun w => by
    have := read_any (s.extract T (T + (nuT s.data.toList T).length)) w hms
    unfold ReadEnd at this
    rw [hmid] at this
    exact this
  have hsz : (ByteArray.mk (Lib.trimLeftS (s.data.toList.drop T) numB).toArray).size + (nuT s.data.toList T).length = s.size - T := by rw [mk_size]; exact htt
  have hsub : IntKind.i64.wrap ((s.size : Int) - ((ByteArray.mk (Lib.trimLeftS (s.data.toList.drop T) numB).toArray).size : Int)) = ((T + (nuT s.data.toList T).length : Nat) : Int) := by
    rw [IntKind.wrap_i64]; omega
  generalize ByteArray.mk (Lib.trimLeftS (s.data.toList.drop T) numB).toArray = rest at *
  generalize nuR s.data.toList T = R at *
  generalize hnn : (nuT s.data.toList T).length = n at *
  have hat := readF_at (nuT s.data.toList T)
  rw [hnn] at hat
  generalize readF (nuT s.data.toList T) = u at *
  obtain ⟨⟨n0, n1, n2, n3, n4, n5⟩, ua, uc⟩ := u
  simp only [nda] at hrd HRR hat
  have HRD := Lib.hid hrd
  have HTR := Lib.hid hTR
  clear hrd hTR hms hmid htt hcut hnn
  have HR := Lib.hid (hr.alloc (.cells #[.int .i64 0, .int .i64 0, .string ⟨#[]⟩, .string ⟨#[]⟩, .bool false, .int .i64 0] 38))
  have HB : Hid (Kb w.heap.size rb w (w.alloc (.cells #[.int .i64 0, .int .i64 0, .string ⟨#[]⟩, .string ⟨#[]⟩, .bool false, .int .i64 0] 38))) := Lib.hid ((Kb.refl _ _ _).alloc (Nat.le_refl _) _)
  have HZ : Hid ((w.alloc (.cells #[.int .i64 0, .int .i64 0, .string ⟨#[]⟩, .string ⟨#[]⟩, .bool false, .int .i64 0] 38)).heap[w.heap.size]? = some (.cells #[.int .i64 0, .int .i64 0, .string ⟨#[]⟩, .string ⟨#[]⟩, .bool false, .int .i64 0] 38) ∧ w.heap.size ≠ rb) := Lib.hid ⟨heap_alloc_new w _, by have := hr.lt; omega⟩
  clear hr
  go_enter Tryz.func42, Tryz.ntmps42
  go_upto_region 1 with fail
  generalize w.alloc (.cells #[.int .i64 0, .int .i64 0, .string ⟨#[]⟩, .string ⟨#[]⟩, .bool false, .int .i64 0] 38) = W1 at HR HB HZ ⊢
  have c0 := HR.out.c0
  have c1 := HR.out.c1
  have f1 := HR.out.fz 1
  go_cut [3] from 7 to 23 (fun a wx => a = .int .i64 (T + n : Nat) ∧ Below W1.heap.size W1 wx)
  case first =>
    have hlt : rb < W1.heap.size := HR.out.lt
    have hne : ¬ rb = W1.heap.size := by omega
    go_region_held3 (fun w' => w'.cell? ⟨rb, 0, none⟩ = some (.string s) ∧ w'.cell? ⟨rb, 1, none⟩ = some (.int .i64 T))
      (first | go_keep | exact ⟨(HR.out.drew.below hb2 HR.out.lt).c0, (HR.out.drew.below hb2 HR.out.lt).c1⟩)
      ((go_at_call 69; refine (HTR.out W1.drew).mono ?_; rintro e w2 ⟨rfl, hb2⟩))
    all_goals go_wp2_with fail
    all_goals go_meet
    all_goals exact ⟨by first | rfl | congr 1 | (congr 1; omega), ((Below.refl _ _).drew).trans hb2⟩
  case rest =>
    obtain ⟨rfl, hb2⟩ := hcut
    have HB2 : Hid (Kb w.heap.size rb w wc) := Lib.hid (HB.out.trans ((Kb.of hb2).mono HB.out.size))
    have HR2 : Hid (Rd rb s T d wc) := Lib.hid (HR.out.below hb2 HR.out.lt)
    have HZ2 : Hid (wc.heap[w.heap.size]? = some (.cells #[.int .i64 0, .int .i64 0, .string ⟨#[]⟩, .string ⟨#[]⟩, .bool false, .int .i64 0] 38) ∧ w.heap.size ≠ rb) := Lib.hid ⟨(hb2.block _ (Array.getElem?_eq_some_iff.1 HZ.out.1).1).trans HZ.out.1, HZ.out.2⟩
    clear hb2 HR HB HZ c0 c1 f1
    have c0 := HR2.out.c0
    have c1 := HR2.out.c1
    have f1 := HR2.out.fz 1
    go_upto_region 2 with fail
    go_cut [4, 5, 6] from 24 to 38 (fun p a b wx => ∃ nb : Nat, p = .pointer (some ⟨nb, 0, none⟩) ∧ a = .int .i64 ua ∧ b = .int .i64 uc ∧ Below wc.heap.size wc wx ∧ wc.heap.size ≤ nb ∧ wx.heap[nb]? = some (.cells #[.int .i64 n0, .int .i64 n1, .string ⟨n2.toArray⟩, .string ⟨n3.toArray⟩, .bool n4, .int .i64 n5] 38 (0, 0)))
    case first =>
      have hlt : rb < wc.heap.size := HR2.out.lt
      have hne : ¬ rb = wc.heap.size := by omega
      have hne' : ¬ wc.heap.size = rb := by omega
      have g0 : (0 : Int) ≤ (T : Int) := by omega
      have g1 : (T : Int) ≤ ((T + n : Nat) : Int) := by omega
      have g2 : ((T + n : Nat) : Int) ≤ (s.size : Int) := by omega
      have g3 : ((T : Nat) : Int).toNat = T := by omega
      have g4 : ((T + n : Nat) : Int).toNat = T + n := by omega
      go_region_with (go_at_call 70; first | (refine (HRD.out wc.drew).mono ?_; rintro e w2 ⟨rfl, hb2⟩) | (refine (HRD.out (wc.alloc (.cells #[.int .i64 0, .int .i64 0, .string ⟨#[]⟩, .string ⟨#[]⟩, .bool false, .int .i64 0] 38)).drew).mono ?_; rintro e w2 ⟨rfl, hb2⟩; obtain ⟨zl, j0, j1, j2, j3, j4, j5, jf, HZZ⟩ := new_node rfl hb2))
      all_goals go_wp2_with fail
      all_goals go_meet
      all_goals first
        | exact ⟨_, rfl, rfl, rfl, (((Below.refl _ wc).drew).trans hb2).alloc hb2.size _, hb2.size, heap_alloc_new _ _⟩
        | exact ⟨_, rfl, rfl, rfl, ((((((((((Below.refl _ wc).alloc (Nat.le_refl _) _).drew).trans (hb2.mono (Nat.le_of_lt (new_lt wc _)))).setCell (Nat.le_refl _) _).setCell (Nat.le_refl _) _).setCell (Nat.le_refl _) _).setCell (Nat.le_refl _) _).setCell (Nat.le_refl _) _).setCell (Nat.le_refl _) _), Nat.le_refl _, set6 HZZ.out _ _ _ _ _ _⟩
    case rest =>
      obtain ⟨nb, rfl, rfl, rfl, hb3, hnb, hz3⟩ := hcut
      have HB3 : Hid (Kb w.heap.size rb w wc) := Lib.hid (HB2.out.trans ((Kb.of hb3).mono HB2.out.size))
      have HR3 : Hid (Rd rb s T d wc) := Lib.hid (HR2.out.below hb3 HR2.out.lt)
      have HZ3 : Hid (wc.heap[w.heap.size]? = some (.cells #[.int .i64 0, .int .i64 0, .string ⟨#[]⟩, .string ⟨#[]⟩, .bool false, .int .i64 0] 38 (0, 0))) := Lib.hid ((hb3.block _ (Array.getElem?_eq_some_iff.1 HZ2.out.1).1).trans HZ2.out.1)
      have HL3 : Hid (rb < wc.heap.size ∧ w.heap.size < wc.heap.size ∧ nb < wc.heap.size ∧ w.heap.size ≠ rb ∧ nb ≠ rb ∧ nb ≠ w.heap.size) := Lib.hid ⟨HR3.out.lt, (Array.getElem?_eq_some_iff.1 HZ3.out).1, (Array.getElem?_eq_some_iff.1 hz3).1, HZ2.out.2, by have := HR2.out.lt; omega, by have := (Array.getElem?_eq_some_iff.1 HZ2.out.1).1; omega⟩
      have c0 := HR3.out.c0
      have c1 := HR3.out.c1
      have f1 := HR3.out.fz 1
      have p0 : wc.cell? ⟨nb, 0, none⟩ = some (.int .i64 n0) := by rw [Lib.cell_of_heap hz3]; rfl
      have p1 : wc.cell? ⟨nb, 1, none⟩ = some (.int .i64 n1) := by rw [Lib.cell_of_heap hz3]; rfl
      have p2 : wc.cell? ⟨nb, 2, none⟩ = some (.string ⟨n2.toArray⟩) := by rw [Lib.cell_of_heap hz3]; rfl
      have p3 : wc.cell? ⟨nb, 3, none⟩ = some (.string ⟨n3.toArray⟩) := by rw [Lib.cell_of_heap hz3]; rfl
      have p4 : wc.cell? ⟨nb, 4, none⟩ = some (.bool n4) := by rw [Lib.cell_of_heap hz3]; rfl
      have p5 : wc.cell? ⟨nb, 5, none⟩ = some (.int .i64 n5) := by rw [Lib.cell_of_heap hz3]; rfl
      have q0 : wc.cell? ⟨w.heap.size, 0, none⟩ = some (.int .i64 0) := by rw [Lib.cell_of_heap HZ3.out]; rfl
      have q1 : wc.cell? ⟨w.heap.size, 1, none⟩ = some (.int .i64 0) := by rw [Lib.cell_of_heap HZ3.out]; rfl
      have q2 : wc.cell? ⟨w.heap.size, 2, none⟩ = some (.string ⟨#[]⟩) := by rw [Lib.cell_of_heap HZ3.out]; rfl
      have q3 : wc.cell? ⟨w.heap.size, 3, none⟩ = some (.string ⟨#[]⟩) := by rw [Lib.cell_of_heap HZ3.out]; rfl
      have q4 : wc.cell? ⟨w.heap.size, 4, none⟩ = some (.bool false) := by rw [Lib.cell_of_heap HZ3.out]; rfl
      have q5 : wc.cell? ⟨w.heap.size, 5, none⟩ = some (.int .i64 0) := by rw [Lib.cell_of_heap HZ3.out]; rfl
      have qf : ∀ o, wc.frozen? ⟨w.heap.size, o, none⟩ = false := fun o => Lib.frozen_of_heap HZ3.out o
      obtain ⟨l1, l2, l3, l4, l5, l6⟩ := HL3.out
      clear hb3 HR2 HZ2 HB2 hnb
      generalize hnw : w.heap.size = nw at *
      have HNW := Lib.hid hnw
      clear hnw
      by_cases huc : uc = 0
      · have HRS : Hid (R = .ok [⟨n0, n1, n2, n3, n4, n5⟩] (T + n)) := Lib.hid (by rw [HRR.out, if_pos huc])
        subst huc
        go_wp2
        refine bodyPost_ret (v := nda ⟨n0, n1, n2, n3, n4, n5⟩) ?_ rfl (NdE.ok HRS.out ?_ ?_)
        · simp [results, Tryz.results42, go_sem, nda, q0, q1, q2, q3, q4, q5]
        · rw [HNW.out]
          exact ((((((HB3.out.set 1 _).setHigh (Nat.le_refl _) _).setHigh (Nat.le_refl _) _).setHigh (Nat.le_refl _) _).setHigh (Nat.le_refl _) _).setHigh (Nat.le_refl _) _).setHigh (Nat.le_refl _) _
        · exact ((((((HR3.out.to (T + n)).other l4 _).other l4 _).other l4 _).other l4 _).other l4 _).other l4 _
      · have HRS : Hid (R = .bad uc (T + ua.toNat)) := Lib.hid (by rw [HRR.out, if_neg huc])
        have hw : wrap64 ((T : Int) + ua) = (T : Int) + ua := by unfold wrap64; omega
        go_wp2
        exact ⟨rfl, NdE.flt HRS.out _ (by omega) (by rw [HNW.out]; exact HB3.out)⟩
end Go.Proofs.YtbgciajfjllciaaGreatDoor
