/-
  What num.scan answers.
-/
import Derived.Test.YtafbojiojeemoaaGreatDoorNumW4
import Derived.RegionTactic
import Derived.ChangeAlike
import Derived.Deep.DeepCutAuto
namespace Go.Proofs.YtafbojiojeemoaaGreatDoor
open Go.RowKit Np

/-- A mark that stands is taken; else nothing is. -/
theorem mark_any (c : UInt8) (z : Int) (hz : (c.toNat : Int) = z) (pa ps : Addr) (n : Nat) (s : ByteArray) (w : World) (h1 : w.cell? pa = some (.int .i64 n)) (h2 : w.cell? ps = some (.string s)) (h3 : w.frozen? pa = false) (hs : s.size ≤ maxLen) :
    Calls Tryz.prog 163 #[.int .u8 z, .pointer (some pa), .pointer (some ps)] w fun e w' => e = .returned (.bool (stands s.data.toList n c)) ∧ w' = w.setCell pa (.int .i64 (if stands s.data.toList n c then n + 1 else n : Nat)) := by
  subst hz
  cases hb : stands s.data.toList n c
  · refine (mark_no _ pa ps n s w h1 h2 (fun h => ?_)).mono ?_
    · unfold stands at hb
      rw [List.getElem?_eq_getElem (by simpa using h), get_toList s n h] at hb
      have hne : ¬ s[n] = c := by simpa using hb
      exact beq_eq_false_iff_ne.2 (fun e => hne (UInt8.toNat_inj.1 (by omega)))
    · rintro e w' ⟨rfl, rfl⟩
      exact ⟨rfl, (setCell_same _ _ _ h1).symm⟩
  · have hlt := stands_lt hb
    rw [size_toList] at hlt
    refine (mark_yes _ pa ps n s w h1 h2 h3 hlt hs ?_).mono ?_
    · unfold stands at hb
      rw [List.getElem?_eq_getElem (by simpa using hlt), get_toList s n hlt] at hb
      have he : s[n] = c := by simpa using hb
      rw [he]
    · rintro e w' ⟨rfl, rfl⟩
      exact ⟨rfl, rfl⟩

/-- The world inside of scan: the text, what is taken apart, and the place. -/
def sW (w : World) (s : ByteArray) (g : Bool) (wh pt : ByteArray) (dn : Bool) (pw : ByteArray) (i : Nat) : World :=
  ((w.alloc (.cells #[.string s] 9)).alloc (.cells #[.bool g, .string wh, .string pt, .bool dn, .string pw] 164)).alloc (.cells #[.int .i64 i] 3)
theorem sW_at (w : World) (s : ByteArray) (g : Bool) (wh pt : ByteArray) (dn : Bool) (pw : ByteArray) (i : Nat) : (sW w s g wh pt dn pw i).cell? ⟨w.heap.size + 1 + 1, 0, none⟩ = some (.int .i64 i) := by
  simp [sW, go_sem]
theorem sW_s (w : World) (s : ByteArray) (g : Bool) (wh pt : ByteArray) (dn : Bool) (pw : ByteArray) (i : Nat) : (sW w s g wh pt dn pw i).cell? ⟨w.heap.size, 0, none⟩ = some (.string s) := by
  simp [sW, go_sem]
theorem sW_fr (w : World) (s : ByteArray) (g : Bool) (wh pt : ByteArray) (dn : Bool) (pw : ByteArray) (i : Nat) : (sW w s g wh pt dn pw i).frozen? ⟨w.heap.size + 1 + 1, 0, none⟩ = false := by
  simp [sW, go_sem]
theorem sW_set (w : World) (s : ByteArray) (g : Bool) (wh pt : ByteArray) (dn : Bool) (pw : ByteArray) (i j : Nat) : (sW w s g wh pt dn pw i).setCell ⟨w.heap.size + 1 + 1, 0, none⟩ (.int .i64 j) = sW w s g wh pt dn pw j := by
  simp [sW, go_sem]
theorem sW_below (w : World) (s : ByteArray) (g : Bool) (wh pt : ByteArray) (dn : Bool) (pw : ByteArray) (i : Nat) : Below w.heap.size w (sW w s g wh pt dn pw i) :=
  (((Below.refl _ _).alloc (Nat.le_refl _) _).alloc (by simp) _).alloc (by simp; omega) _
theorem mark_sW (c : UInt8) (z : Int) (hz : (c.toNat : Int) = z) (w : World) (s : ByteArray) (g : Bool) (wh pt : ByteArray) (dn : Bool) (pw : ByteArray) (i : Nat) (hs : s.size ≤ maxLen) :
    Calls Tryz.prog 163 #[.int .u8 z, .pointer (some ⟨w.heap.size + 1 + 1, 0, none⟩), .pointer (some ⟨w.heap.size, 0, none⟩)] (sW w s g wh pt dn pw i)
      fun e w' => e = .returned (.bool (stands s.data.toList i c)) ∧ w' = sW w s g wh pt dn pw (if stands s.data.toList i c then i + 1 else i) :=
  (mark_any c z hz _ _ i s _ (sW_at ..) (sW_s ..) (sW_fr ..) hs).mono fun _ _ ⟨he, hw⟩ => ⟨he, hw.trans (sW_set ..)⟩
theorem figures_sW (w : World) (s : ByteArray) (g : Bool) (wh pt : ByteArray) (dn : Bool) (pw : ByteArray) (i : Nat) (hi : i ≤ s.size) (hs : s.size ≤ maxLen) :
    Calls Tryz.prog 164 #[.pointer (some ⟨w.heap.size + 1 + 1, 0, none⟩), .pointer (some ⟨w.heap.size, 0, none⟩)] (sW w s g wh pt dn pw i)
      fun e w' => e = .returned (.string ⟨(run s.data.toList i).toArray⟩) ∧ w' = sW w s g wh pt dn pw (i + (run s.data.toList i).length) :=
  (figures_any _ _ i s _ (sW_at ..) (sW_s ..) (sW_fr ..) (by simp) hi hs).mono fun _ _ ⟨he, hw⟩ => ⟨he, hw.trans (sW_set ..)⟩

def wrv (r : Wr) : Value := .agg #[.bool r.neg, .string ⟨r.whole.toArray⟩, .string ⟨r.part.toArray⟩, .bool r.down, .string ⟨r.power.toArray⟩]

/-- How scan ends. -/
def ScanEnd (w : World) (s : ByteArray) (e : Ending) (w' : World) : Prop :=
  e = .returned (.tuple #[wrv (scanF s.data.toList).1, .int .i64 (scanF s.data.toList).2.1, .bool (scanF s.data.toList).2.2]) ∧ Below w.heap.size w w'
theorem scanEnd_bad {w w' : World} {s : ByteArray} {i : Nat} (h : scanF s.data.toList = (wr0, i, false)) (hb : Below w.heap.size w w') : ScanEnd w s (.returned (.tuple #[wrv wr0, .int .i64 i, .bool false])) w' := by
  unfold ScanEnd; rw [h]; exact ⟨rfl, hb⟩

set_option maxHeartbeats 1000000 in
theorem scan_any (s : ByteArray) (w : World) (hs : s.size ≤ maxLen) :
    Calls Tryz.prog 137 #[.string s] w (ScanEnd w s) := by
  have hmf : ∀ (fn : Fn) (first cap : Array Value) (w : World), (Instr.makeFunc fn first cap).run Tryz.prog w = .ok (.func fn first cap) w := fun _ _ _ _ => rfl
  have hle0 := i0F_le s.data.toList
  rw [size_toList] at hle0
  have Hi0 : Hid ((if stands s.data.toList 0 45 then 0 + 1 else 0) = i0F s.data.toList) := Lib.hid rfl
  go_enter Tryz.func137, Tryz.ntmps137
  go_wp2_with fail
  refine (mark_sW 45 _ rfl w s false ⟨#[]⟩ ⟨#[]⟩ false ⟨#[]⟩ 0 hs).mono ?_
  rintro e w1 ⟨rfl, rfl⟩
  rw [Hi0.out]
  unfold sW
  go_wp2_with fail
  refine (mark_sW 48 _ rfl w s _ ⟨#[]⟩ ⟨#[]⟩ false ⟨#[]⟩ (i0F s.data.toList) hs).mono ?_
  rintro e w1 ⟨rfl, rfl⟩
  unfold sW
  go_upto_if 14 with fail
  go_cut [] (fun wx => bad1 s.data.toList = false ∧ wx = sW w s (stands s.data.toList 0 45) ⟨(wholeF s.data.toList).toArray⟩ ⟨#[]⟩ false ⟨#[]⟩ (i1F s.data.toList))
  case first =>
    cases hb : stands s.data.toList (i0F s.data.toList) 48
    · obtain ⟨e1, e2, e3⟩ := at1_no hb
      have H1 := Lib.hid e1
      have H2 := Lib.hid e2
      have H3 := Lib.hid e3
      have Hb := Lib.hid hb; clear hb e1 e2 e3
      go_wp2_with fail
      refine (figures_sW w s _ ⟨#[]⟩ ⟨#[]⟩ false ⟨#[]⟩ (i0F s.data.toList) hle0 hs).mono ?_
      rintro e w1 ⟨rfl, rfl⟩
      unfold sW
      generalize hr : run s.data.toList (i0F s.data.toList) = r at *
      have Hr := Lib.hid hr; clear hr
      cases r with
      | nil =>
        have HF := Lib.hid (scanF_1 H1.out)
        go_wp2_with fail
        go_region
        all_goals
          go_wp2_with fail
          refine bodyPost_ret (v := .tuple #[wrv wr0, .int .i64 (i0F s.data.toList), .bool false]) ?_ rfl (scanEnd_bad HF.out ?_)
          · simp [results, Tryz.results137, go_sem, wrv, wr0]
          · exact (sW_below w s false ⟨#[]⟩ ⟨#[]⟩ false ⟨#[]⟩ (i0F s.data.toList)).drew
      | cons c t =>
        go_wp2_with fail
        go_meet
        exact ⟨by rw [H1.out]; rfl, by rw [H2.out, H3.out]; rfl⟩
    · obtain ⟨e1, e2, e3⟩ := at1_yes hb
      have H1 := Lib.hid e1
      have H2 := Lib.hid e2
      have H3 := Lib.hid e3
      have Hb := Lib.hid hb; clear hb e1 e2 e3
      go_wp2_with fail
      go_meet
      exact ⟨H1.out, by rw [H2.out, H3.out]; rfl⟩
  case rest =>
    obtain ⟨hb1, rfl⟩ := hcut
    have Hb1 := Lib.hid hb1
    clear hb1 Hi0
    have hle1 := i1F_le s.data.toList
    rw [size_toList] at hle1
    unfold sW
    go_wp2_with fail
    refine (mark_sW 46 _ rfl w s _ _ ⟨#[]⟩ false ⟨#[]⟩ (i1F s.data.toList) hs).mono ?_
    rintro e w1 ⟨rfl, rfl⟩
    unfold sW
    go_upto_if 24 with fail
    go_cut [] (fun wx => bad2 s.data.toList = false ∧ wx = sW w s (stands s.data.toList 0 45) ⟨(wholeF s.data.toList).toArray⟩ ⟨(partF s.data.toList).toArray⟩ false ⟨#[]⟩ (i3F s.data.toList))
    case first =>
      cases hb : stands s.data.toList (i1F s.data.toList) 46
      · obtain ⟨e1, e2, e3⟩ := at2_no hb
        have H1 := Lib.hid e1
        have H2 := Lib.hid e2
        have H3 := Lib.hid e3
        have Hb := Lib.hid hb; clear hb e1 e2 e3
        go_wp2_with fail
        go_meet
        exact ⟨H1.out, by rw [H2.out, H3.out]; rfl⟩
      · have hlt : i1F s.data.toList + 1 ≤ s.size := by have := stands_lt hb; rw [size_toList] at this; omega
        obtain ⟨e1, e2, e3⟩ := at2_yes hb
        have H1 := Lib.hid e1
        have H2 := Lib.hid e2
        have H3 := Lib.hid e3
        have Hb := Lib.hid hb; clear hb e1 e2 e3
        go_wp2_with fail
        refine (figures_sW w s _ _ ⟨#[]⟩ false ⟨#[]⟩ (i1F s.data.toList + 1) hlt hs).mono ?_
        rintro e w1 ⟨rfl, rfl⟩
        unfold sW
        generalize hr : run s.data.toList (i1F s.data.toList + 1) = r at *
        have Hr := Lib.hid hr; clear hr
        cases r with
        | nil =>
          have HF := Lib.hid (scanF_2 Hb1.out H1.out)
          go_wp2_with fail
          go_region
          all_goals
            go_wp2_with fail
            refine bodyPost_ret (v := .tuple #[wrv wr0, .int .i64 (i1F s.data.toList + 1 : Nat), .bool false]) ?_ rfl (scanEnd_bad HF.out ?_)
            · simp [results, Tryz.results137, go_sem, wrv, wr0]
            · exact (sW_below w s false ⟨#[]⟩ ⟨#[]⟩ false ⟨#[]⟩ (i1F s.data.toList + 1)).drew
        | cons c t =>
          go_wp2_with fail
          go_meet
          exact ⟨by rw [H1.out]; rfl, by rw [H2.out, H3.out]; rfl⟩
    case rest =>
      obtain ⟨hb2, rfl⟩ := hcut
      have Hb2 := Lib.hid hb2
      clear hb2
      have hle3 := i3F_le s.data.toList
      rw [size_toList] at hle3
      have hle5 := i5F_le s.data.toList
      rw [size_toList] at hle5
      unfold sW
      go_upto_region 12 with fail
      go_cut [38] (fun s38 wx => s38 = .bool (exF s.data.toList) ∧ wx = sW w s (stands s.data.toList 0 45) ⟨(wholeF s.data.toList).toArray⟩ ⟨(partF s.data.toList).toArray⟩ false ⟨#[]⟩ (if exF s.data.toList = true then i3F s.data.toList + 1 else i3F s.data.toList))
      case first =>
        go_wp2_with fail
        refine (mark_sW 101 _ rfl w s _ _ _ false ⟨#[]⟩ (i3F s.data.toList) hs).mono ?_
        rintro e w1 ⟨rfl, rfl⟩
        unfold sW
        have HX : Hid (exF s.data.toList = (stands s.data.toList (i3F s.data.toList) 101 || stands s.data.toList (i3F s.data.toList) 69)) := Lib.hid rfl
        cases hb : stands s.data.toList (i3F s.data.toList) 101
        · have Hb := Lib.hid hb; clear hb
          go_wp2_with fail
          refine (mark_sW 69 _ rfl w s _ _ _ false ⟨#[]⟩ (i3F s.data.toList) hs).mono ?_
          rintro e w1 ⟨rfl, rfl⟩
          unfold sW
          cases hc : stands s.data.toList (i3F s.data.toList) 69
          · have Hc := Lib.hid hc; clear hc
            have HY : Hid (exF s.data.toList = false) := Lib.hid (by rw [HX.out, Hb.out, Hc.out]; rfl)
            clear HX
            go_wp2_with fail
            go_meet
            exact ⟨by rw [HY.out], by rw [HY.out]; rfl⟩
          · have Hc := Lib.hid hc; clear hc
            have HY : Hid (exF s.data.toList = true) := Lib.hid (by rw [HX.out, Hb.out, Hc.out]; rfl)
            clear HX
            go_wp2_with fail
            go_meet
            exact ⟨by rw [HY.out], by rw [HY.out]; rfl⟩
        · have Hb := Lib.hid hb; clear hb
          have HY : Hid (exF s.data.toList = true) := Lib.hid (by rw [HX.out, Hb.out]; rfl)
          clear HX
          go_wp2_with fail
          go_meet
          exact ⟨by rw [HY.out], by rw [HY.out]; rfl⟩
      case rest =>
        obtain ⟨rfl, rfl⟩ := hcut
        unfold sW
        go_upto_if 38 with fail
        go_cut [] (fun wx => bad3 s.data.toList = false ∧ wx = sW w s (stands s.data.toList 0 45) ⟨(wholeF s.data.toList).toArray⟩ ⟨(partF s.data.toList).toArray⟩ (downF s.data.toList) ⟨(powF s.data.toList).toArray⟩ (i6F s.data.toList))
        case first =>
          cases hx : exF s.data.toList
          · obtain ⟨e1, e2, e3, e4⟩ := at3_no hx
            have H1 := Lib.hid e1
            have H2 := Lib.hid e2
            have H3 := Lib.hid e3
            have H4 := Lib.hid e4
            have Hx := Lib.hid hx; clear hx e1 e2 e3 e4
            go_wp2_with fail
            go_meet
            exact ⟨H1.out, by rw [H2.out, H3.out, H4.out]; rfl⟩
          · obtain ⟨e1, e2, e3⟩ := at3_yes hx
            have H1 := Lib.hid e1
            have H2 := Lib.hid e2
            have H3 := Lib.hid e3
            have Hx := Lib.hid hx; clear hx e1 e2 e3
            go_upto_region 13 with fail
            go_cut [] (fun wx => wx = sW w s (stands s.data.toList 0 45) ⟨(wholeF s.data.toList).toArray⟩ ⟨(partF s.data.toList).toArray⟩ (downF s.data.toList) ⟨#[]⟩ (i5F s.data.toList))
            case first =>
              go_wp2_with fail
              refine (mark_sW 43 _ rfl w s _ _ _ false ⟨#[]⟩ (i3F s.data.toList + 1) hs).mono ?_
              rintro e w1 ⟨rfl, rfl⟩
              unfold sW
              cases hp : stands s.data.toList (i3F s.data.toList + 1) 43
              · obtain ⟨e1, e2⟩ := at5_rest Hx.out hp
                have H4 := Lib.hid e1
                have H5 := Lib.hid e2
                have Hp := Lib.hid hp; clear hp e1 e2
                go_wp2_with fail
                refine (mark_sW 45 _ rfl w s _ _ _ false ⟨#[]⟩ (i3F s.data.toList + 1) hs).mono ?_
                rintro e w1 ⟨rfl, rfl⟩
                rw [← H5.out, ← H4.out]
                unfold sW
                go_wp2_with fail
                go_meet
                rfl
              · obtain ⟨e1, e2⟩ := at5_plus Hx.out hp
                have H4 := Lib.hid e1
                have H5 := Lib.hid e2
                have Hp := Lib.hid hp; clear hp e1 e2
                go_wp2_with fail
                go_meet
                rw [H4.out, H5.out]
                rfl
            case rest =>
              obtain rfl := hcut
              unfold sW
              go_wp2_with fail
              refine (figures_sW w s _ _ _ _ ⟨#[]⟩ (i5F s.data.toList) hle5 hs).mono ?_
              rintro e w1 ⟨rfl, rfl⟩
              unfold sW
              generalize hr : run s.data.toList (i5F s.data.toList) = r at *
              have Hr := Lib.hid hr; clear hr
              cases r with
              | nil =>
                have HF := Lib.hid (scanF_3 Hb1.out Hb2.out H1.out)
                go_wp2_with fail
                go_region
                all_goals
                  go_wp2_with fail
                  refine bodyPost_ret (v := .tuple #[wrv wr0, .int .i64 (i5F s.data.toList), .bool false]) ?_ rfl (scanEnd_bad HF.out ?_)
                  · simp [results, Tryz.results137, go_sem, wrv, wr0]
                  · exact (sW_below w s false ⟨#[]⟩ ⟨#[]⟩ false ⟨#[]⟩ (i5F s.data.toList)).drew
              | cons c t =>
                go_wp2_with fail
                go_meet
                exact ⟨by rw [H1.out]; rfl, by rw [H2.out, H3.out]; rfl⟩
        case rest =>
          obtain ⟨hb3, rfl⟩ := hcut
          have Hb3 := Lib.hid hb3
          clear hb3
          unfold sW
          go_wp2_with fail
          have HF := Lib.hid (scanF_4 Hb1.out Hb2.out Hb3.out)
          go_region
          all_goals
            go_wp2_with fail
            refine bodyPost_ret (v := .tuple #[wrv ⟨stands s.data.toList 0 45, wholeF s.data.toList, partF s.data.toList, downF s.data.toList, powF s.data.toList⟩, .int .i64 (i6F s.data.toList), .bool (i6F s.data.toList == s.data.toList.length)]) ?_ rfl ?_
            · simp [results, Tryz.results137, go_sem, wrv]
              rw [Bool.eq_iff_iff, beq_iff_eq, beq_iff_eq]; omega
            · unfold ScanEnd
              rw [HF.out]
              exact ⟨rfl, (sW_below w s _ _ _ _ _ _).drew⟩

end Go.Proofs.YtafbojiojeemoaaGreatDoor
