/-
  Joined: TyB.
-/
import Derived.Test.YtfeiolklhkclgaaGreatDoorTextBlanksJ17

/-
  The walk of TextBlanks: it answers true.
-/
namespace Go.Proofs.YtfeiolklhkclgaaGreatDoor
open Go.RowKit Np Rw Vp Up Qp Tp

/-- What goes round with the walk. -/
structure Bk (v : Value) (l : List Nd) (a b B : Nat) (w w' : World) : Prop where
  c0 : w'.cell? ⟨B, 0, none⟩ = some (.int .u8 a)
  c1 : w'.cell? ⟨B, 1, none⟩ = some (.int .u8 b)
  lt : B < w'.heap.size
  nd : Nds w' v l
  tv : Tv w'
  bel : Below w.heap.size w w'
theorem Bk.step {v : Value} {l : List Nd} {a b B : Nat} {w w' w'' : World} (h : Bk v l a b B w w') (hb : Below w'.heap.size w' w'') : Bk v l a b B w w'' :=
  ⟨(hb.cell (p := ⟨B, 0, none⟩) h.lt).trans h.c0, (hb.cell (p := ⟨B, 1, none⟩) h.lt).trans h.c1, Nat.lt_of_lt_of_le h.lt hb.size, h.nd.below hb, h.tv.below hb, Below.after h.bel hb⟩
theorem Bk.start {v : Value} {l : List Nd} {a b : Nat} {w : World} (hv : Nds w v l) (hT : Tv w) : Bk v l a b w.heap.size w (w.alloc (.cells #[.int .u8 a, .int .u8 b] 33)) := by
  have hb : Below w.heap.size w (w.alloc (.cells #[.int .u8 a, .int .u8 b] 33)) := (Below.refl _ _).alloc (Nat.le_refl _) _
  exact ⟨by simp, by simp, by simp, hv.below hb, hT.below hb, hb⟩
theorem bl_pre {k : Nat} (hk : k < 6) : ∃ c : UInt8, blk c.toNat = true ∧ ∀ X : List UInt8, (ByteArray.mk #[32, 9, 10, 13]).extract (k % 4) (k % 4 + 1) ++ ByteArray.mk X.toArray = ⟨(c :: X).toArray⟩ := by
  have key : ∀ k : Fin 6, blk ((ByteArray.mk #[32, 9, 10, 13]).extract (k.val % 4) (k.val % 4 + 1)).data[0]!.toNat = true ∧ ((ByteArray.mk #[32, 9, 10, 13]).extract (k.val % 4) (k.val % 4 + 1)).data.toList = [((ByteArray.mk #[32, 9, 10, 13]).extract (k.val % 4) (k.val % 4 + 1)).data[0]!] := by decide +kernel
  refine ⟨_, (key ⟨k, hk⟩).1, fun X => ?_⟩
  apply ByteArray.ext
  apply Array.toList_inj.1
  rw [ByteArray.data_append, Array.toList_append, (key ⟨k, hk⟩).2]
  rfl

theorem bl_post {k : Nat} (hk : k < 6) : ∃ c : UInt8, blk c.toNat = true ∧ ∀ X : List UInt8, ByteArray.mk X.toArray ++ (ByteArray.mk #[32, 9, 10, 13]).extract (k % 4) (k % 4 + 1) = ⟨(X ++ [c]).toArray⟩ := by
  have key : ∀ k : Fin 6, blk ((ByteArray.mk #[32, 9, 10, 13]).extract (k.val % 4) (k.val % 4 + 1)).data[0]!.toNat = true ∧ ((ByteArray.mk #[32, 9, 10, 13]).extract (k.val % 4) (k.val % 4 + 1)).data.toList = [((ByteArray.mk #[32, 9, 10, 13]).extract (k.val % 4) (k.val % 4 + 1)).data[0]!] := by decide +kernel
  refine ⟨_, (key ⟨k, hk⟩).1, fun X => ?_⟩
  apply ByteArray.ext
  apply Array.toList_inj.1
  rw [ByteArray.data_append, Array.toList_append, (key ⟨k, hk⟩).2]

/-- What a region of the walk holds fast: the walk's facts, what was read, two cells. -/
def Hl (v vx : Value) (l : List Nd) (a b B g p q : Nat) (x : Nd) (w w' : World) : Prop := w'.cell? ⟨g, q, none⟩ = some (.string ⟨x.s.toArray⟩) ∧ w'.cell? ⟨g, p, none⟩ = some (.string ⟨x.name.toArray⟩) ∧ Bk v l a b B w w' ∧ Nds w' vx l ∧ g < w'.heap.size
theorem Hl.step {v vx : Value} {l : List Nd} {a b B g p q : Nat} {x : Nd} {w w' w'' : World} (h : Hl v vx l a b B g p q x w w') (hb : Below w'.heap.size w' w'') : Hl v vx l a b B g p q x w w'' := by
  obtain ⟨h1, h2, h3, h4, h5⟩ := h
  exact ⟨(hb.cell (p := ⟨g, q, none⟩) h5).trans h1, (hb.cell (p := ⟨g, p, none⟩) h5).trans h2, h3.step hb, h4.below hb, Nat.lt_of_lt_of_le h5 hb.size⟩
theorem bare_calls (x : List UInt8) (hx : x.length ≤ 1000000) (w : World) : Calls Tryz.prog 17 #[.string ⟨x.toArray⟩] w fun e w' => e = .returned (.string ⟨(bareL x).toArray⟩) ∧ Below w.heap.size w w' := by
  have := bare_any ⟨x.toArray⟩ w (by rw [mk_size]; exact hx)
  simpa using this
theorem mk_ne {x y : List UInt8} (h : ¬ x = y) : ¬ (ByteArray.mk x.toArray = ByteArray.mk y.toArray) := fun h2 => h (by injection h2 with h2; exact Array.toList_inj.2 h2 |> fun e => by simpa using e)
theorem bl_calls {t : Tr Nd} (hK : Known t) {B E X : List UInt8} (hX : X = prT false 0 t) (hB : Blk B) (hE : Blk E) (hz : (B ++ X ++ E).length ≤ 200000) (w : World) (hT : Tv w) :
    Calls Tryz.prog 9 #[.string ⟨(B ++ X ++ E).toArray⟩] w (BackE t w) := by
  refine (parse_any ⟨(B ++ X ++ E).toArray⟩ w (by rw [mk_size]; exact hz) hT.er hT.tabs hT.wds).mono ?_
  rintro e w' ⟨V, he, hV, hb⟩
  change e = .returned (.tuple #[V, .int .i64 ((prsR (B ++ X ++ E)).2.1 : Nat), .int .i64 (prsR (B ++ X ++ E)).2.2]) at he
  change OwnN w.heap.size w' V (prsR (B ++ X ++ E)).1 at hV
  rw [List.append_assoc, hX, blanks_parse hK.val (by have := hK.dep; omega) false hB hE] at he hV
  obtain ⟨A, c, rfl, h⟩ := hV.row ndc_len
  exact ⟨A, _, c, he, Lib.hid ⟨A, c, rfl, h⟩, Lib.hid hb⟩

set_option maxRecDepth 100000 in
set_option maxHeartbeats 40000000 in
theorem textBlanks_any (v : Value) (l : List Nd) (a b : Nat) (w : World) (ha : a < 256) (hb : b < 256) (hv : Nds w v l) (hT : Tv w) :
    Calls Tryz.prog 5 #[v, .agg #[.int .u8 a, .int .u8 b]] w fun e w' => e = .returned (.bool true) ∧ Below w.heap.size w w' := by
  have K0 := Lib.hid (Bk.start (a := a) (b := b) hv hT)
  have HFE := Lib.hid (refFew_any v l 60 (w.alloc (.cells #[.int .u8 a, .int .u8 b] 33)) K0.out.nd (by omega))
  obtain ⟨A0, N0, c0, rfl⟩ : ∃ (A : Option Addr) (N c : Nat), v = .slice A N c := by obtain ⟨A, c, h, -⟩ := hv; exact ⟨A, _, c, h⟩
  clear hv hT
  obtain ⟨ka, hka, hka2⟩ : ∃ k : Nat, (a : Int) % 6 = (k : Int) ∧ k < 6 := ⟨a % 6, by omega, Nat.mod_lt _ (by decide)⟩
  obtain ⟨kb, hkb, hkb2⟩ : ∃ k : Nat, (b : Int) % 6 = (k : Int) ∧ k < 6 := ⟨b % 6, by omega, Nat.mod_lt _ (by decide)⟩
  cases hf : few 60 l with
  | false =>
    rw [hf] at HFE
    go_enter Tryz.func5, Tryz.ntmps5
    go_wp2_with fail
    go_at_call 12
    refine HFE.out.mono ?_
    rintro e w1 ⟨rfl, hb1⟩
    have K1 := Lib.hid (K0.out.step hb1)
    clear hb1
    go_wp2_with fail
    go_at_call 8
    refine (alive_any _ K1.out.tv).mono ?_
    rintro e w2 ⟨rfl, hb2⟩
    go_wp2_with fail
    go_ret
    exact ⟨rfl, Below.after K1.out.bel hb2⟩
  | true =>
    rw [hf] at HFE
    go_enter Tryz.func5, Tryz.ntmps5
    go_wp2_with fail
    go_at_call 12
    refine HFE.out.mono ?_
    rintro e w1 ⟨rfl, hb1⟩
    have K1 := Lib.hid (K0.out.step hb1)
    clear hb1
    obtain ⟨t, rfl, hK, hX⟩ := texts_known hf
    obtain ⟨X, hXe⟩ : ∃ X, X = prT false 0 t := ⟨_, rfl⟩
    have hzX : X.length ≤ 170000 := by rw [hXe]; exact hK.zc
    rw [← hXe] at hX
    have HX := Lib.hid hX
    have HK := Lib.hid hK
    have HXE := Lib.hid hXe
    clear hX hf hK hXe
    go_wp2_with fail
    go_at_call 13
    refine (HX.out.c _ _ K1.out.nd K1.out.tv).mono ?_
    rintro e w2 ⟨rfl, hb2⟩
    have K2 := Lib.hid (K1.out.step hb2)
    clear hb2
    have x0 := K2.out.c0
    have x1 := K2.out.c1
    go_wp2_with fail
    go_loopw [6, 7] (fun sv iv wr => ∃ (k : Nat) (B : List UInt8), k ≤ ka ∧ iv = .int .i64 k ∧ Hid (Blk B) ∧ B.length = k ∧ sv = .string ⟨(B ++ X).toArray⟩ ∧ wr = w2) (fun _ iv _ => ka - (intOf iv).toNat)
    case atStart => exact ⟨0, [], Nat.zero_le _, rfl, Lib.hid Blk.nil, rfl, rfl, rfl⟩
    case round =>
      obtain ⟨k, B, hk, rfl, HBB, hBl, rfl, rfl⟩ := hrel
      by_cases hlt : k < ka
      · obtain ⟨c, hc1, hc2⟩ := bl_pre (k := k) (by omega)
        have HC := Lib.hid (hc2 (B ++ X))
        have HBC : Hid (Blk (c :: B)) := Lib.hid (by intro x hx; rcases List.mem_cons.1 hx with rfl | hx; exact hc1; exact HBB.out x hx)
        have hsz : (ByteArray.mk (B ++ X).toArray).size ≤ 180000 := by rw [mk_size, List.length_append]; omega
        clear hc2 hc1
        generalize ByteArray.mk (B ++ X).toArray = Y at HC hsz ⊢
        obtain ⟨m, k4, k5, k6⟩ : ∃ m : Nat, (k : Int) % 4 = (m : Int) ∧ k % 4 = m ∧ m < 4 := ⟨k % 4, by omega, rfl, Nat.mod_lt _ (by decide)⟩
        rw [k5] at HC
        clear k5
        go_wp2_with fail
        go_roundw
        case rel =>
          exact ⟨k + 1, c :: B, by omega, by go_num, HBC, by simp [hBl], by rw [HC.out]; rfl, trivial⟩
        case measure => simp [intOf]; omega
      · obtain rfl : k = ka := by omega
        obtain ⟨P, hP⟩ : ∃ P, P = B ++ X := ⟨_, rfl⟩
        have hzP : P.length ≤ 170010 := by rw [hP, List.length_append]; omega
        rw [← hP]
        have HP := Lib.hid hP
        clear hP hBl hzX
        go_wp2_with fail
        go_loopw [6, 8] (fun sv iv wq => ∃ (j : Nat) (E : List UInt8), j ≤ kb ∧ iv = .int .i64 j ∧ Hid (Blk E) ∧ E.length = j ∧ sv = .string ⟨(P ++ E).toArray⟩ ∧ wq = wr) (fun _ iv _ => kb - (intOf iv).toNat)
        case atStart => exact ⟨0, [], Nat.zero_le _, rfl, Lib.hid Blk.nil, rfl, by rw [List.append_nil], rfl⟩
        case round =>
          obtain ⟨j, E, hj, rfl, HEE, hEl, rfl, rfl⟩ := hrel
          by_cases hltj : j < kb
          · obtain ⟨c, hc1, hc2⟩ := bl_post (k := j) (by omega)
            have HC := Lib.hid (hc2 (P ++ E))
            have HBC : Hid (Blk (E ++ [c])) := Lib.hid (by intro x hx; rcases List.mem_append.1 hx with hx | hx; exact HEE.out x hx; rw [List.mem_singleton.1 hx]; exact hc1)
            have hsz : (ByteArray.mk (P ++ E).toArray).size ≤ 180000 := by rw [mk_size, List.length_append]; omega
            clear hc2 hc1
            generalize ByteArray.mk (P ++ E).toArray = Y at HC hsz ⊢
            obtain ⟨m, k4, k5, k6⟩ : ∃ m : Nat, (j : Int) % 4 = (m : Int) ∧ j % 4 = m ∧ m < 4 := ⟨j % 4, by omega, rfl, Nat.mod_lt _ (by decide)⟩
            rw [k5] at HC
            clear k5
            go_wp2_with fail
            go_roundw
            case rel =>
              exact ⟨j + 1, E ++ [c], by omega, by go_num, HBC, by simp [hEl], by rw [HC.out, List.append_assoc], trivial⟩
            case measure => simp [intOf]; omega
          · obtain rfl : j = kb := by omega
            have HPA := Lib.hid (bl_calls HK.out HXE.out HBB.out HEE.out (by rw [← HP.out, List.length_append]; omega) wr K2.out.tv)
            rw [← HP.out] at HPA
            go_wp2_with fail
            go_at_call 9
            refine HPA.out.mono ?_
            rintro e w3 ⟨A3, m3, c3, rfl, HX3, HB3⟩
            have K3 := Lib.hid (K2.out.step HB3.out)
            clear x0 x1 hzP hEl
            obtain ⟨g, o, cc, hvv, -, -, hg, hx⟩ := K3.out.nd.opened (flat_pos t)
            injection hvv with e1 e2 e3
            subst e1 e2 e3
            have HN := Lib.hid hx
            have HLN := Lib.hid HK.out.len
            clear hx
            generalize hn : (flat t).length = n at *
            have HNL := Lib.hid hn
            clear hn
            go_wp2_with fail
            go_loopw [12] (fun iv wi => ∃ i : Nat, i ≤ n ∧ iv = .int .i64 i ∧ Hid (Bk (.slice (some ⟨g, o, none⟩) n c0) (flat t) a b w.heap.size w wi) ∧ Hid (Nds wi (.slice A3 m3 c3) (flat t)) ∧ Hid (∀ x ∈ (flat t).take i, bareL x.s = x.s ∧ bareL x.name = x.name)) (fun iv _ => n - (intOf iv).toNat)
            case atStart => exact ⟨0, Nat.zero_le _, rfl, K3, HX3, Lib.hid (by simp)⟩
            case round =>
              obtain ⟨i, hi, rfl, KI, HXI, HBA⟩ := hrel
              by_cases hlti : i < n
              · obtain ⟨x, hx⟩ : ∃ y, (flat t)[i]? = some y := ⟨_, List.getElem?_eq_getElem (by rw [HNL.out]; exact hlti)⟩
                obtain ⟨g', o', cc', hvv, -, -, hg', hxx⟩ := KI.out.nd.opened (flat_pos t)
                injection hvv with e1 e2 e3
                injection e1 with e1
                injection e1 with e4 e5 e6
                subst e4 e5 e3
                clear e6 e2
                obtain ⟨-, -, a2, a3, -, -⟩ := (hxx i _ hx).nd
                clear hxx
                have hsh := HK.out.sh x (List.mem_of_getElem? hx)
                have HS := Lib.hid (bare_calls x.s (by omega))
                have HM := Lib.hid (bare_calls x.name (by omega))
                have HXI2 := Lib.hid hx
                have a2' := Lib.hid a2
                clear hx hsh
                by_cases h1 : bareL x.s = x.s
                · rw [h1] at HS
                  by_cases h2 : bareL x.name = x.name
                  · rw [h2] at HM
                    have HBA2 : Hid (∀ y ∈ (flat t).take (i + 1), bareL y.s = y.s ∧ bareL y.name = y.name) := Lib.hid (by
                      intro y hy
                      rw [List.take_add_one, HXI2.out] at hy
                      rcases List.mem_append.1 hy with hy | hy
                      · exact HBA.out y hy
                      · simp at hy; subst hy; exact ⟨h1, h2⟩)
                    clear h1 h2
                    have hStart : Hl (.slice (some ⟨g, o, none⟩) n c0) (.slice A3 m3 c3) (flat t) a b w.heap.size g (o + i * 6 + 2) (o + i * 6 + 3) x  w wr := ⟨a3, a2, KI.out, HXI.out, hg'⟩
                    have HST := Lib.hid hStart
                    clear hStart
                    have hn60 : n ≤ 60 := by have := HLN.out; omega
                    clear HBB HEE HP HPA K0 K1 K2 K3 HX HXE HX3 HB3 HFE HK HLN HN KI HXI
                    go_upto_region 17 with fail
                    go_region_held3 (fun w' => w'.cell? ⟨g, o + i * 6 + 3, none⟩ = some (.string ⟨x.s.toArray⟩) ∧ w'.cell? ⟨g, o + i * 6 + 2, none⟩ = some (.string ⟨x.name.toArray⟩) ∧ Bk (.slice (some ⟨g, o, none⟩) n c0) (flat t) a b w.heap.size w w' ∧ Nds w' (.slice A3 m3 c3) (flat t) ∧ g < w'.heap.size) (first | exact Hl.step (by assumption : Hl (.slice (some ⟨g, o, none⟩) n c0) (.slice A3 m3 c3) (flat t) a b w.heap.size g (o + i * 6 + 2) (o + i * 6 + 3) x w _) hb3 | exact Hl.step HST.out (Below.refl _ _).drew | go_keep)
                      (first
                        | (go_at_call_of 17 x.s; refine (HS.out _).mono ?_; rintro e w3 ⟨rfl, hb3⟩)
                        | (go_at_call_of 17 x.name; refine (HM.out _).mono ?_; rintro e w3 ⟨rfl, hb3⟩))
                    obtain ⟨-, -, k1, k2, -⟩ : Hl (.slice (some ⟨g, o, none⟩) n c0) (.slice A3 m3 c3) (flat t) a b w.heap.size g (o + i * 6 + 2) (o + i * 6 + 3) x w _ := by assumption
                    go_wp2_with fail
                    go_roundw
                    case rel => exact ⟨i + 1, by omega, by go_num, Lib.hid k1, Lib.hid k2, HBA2⟩
                    case measure => simp [intOf]; omega
                  · have hne2 : (!bareL x.name == x.name) = true := by simpa using h2
                    clear h1 h2
                    have hStart : Hl (.slice (some ⟨g, o, none⟩) n c0) (.slice A3 m3 c3) (flat t) a b w.heap.size g (o + i * 6 + 2) (o + i * 6 + 3) x  w wr := ⟨a3, a2, KI.out, HXI.out, hg'⟩
                    have HST := Lib.hid hStart
                    clear hStart
                    clear HBB HEE HP HPA K0 K1 K2 K3 HX HXE HX3 HB3 HFE HK HLN HN KI HXI HBA
                    go_upto_region 17 with fail
                    go_region_held3 (fun w' => w'.cell? ⟨g, o + i * 6 + 3, none⟩ = some (.string ⟨x.s.toArray⟩) ∧ w'.cell? ⟨g, o + i * 6 + 2, none⟩ = some (.string ⟨x.name.toArray⟩) ∧ Bk (.slice (some ⟨g, o, none⟩) n c0) (flat t) a b w.heap.size w w' ∧ Nds w' (.slice A3 m3 c3) (flat t) ∧ g < w'.heap.size) (first | exact Hl.step (by assumption : Hl (.slice (some ⟨g, o, none⟩) n c0) (.slice A3 m3 c3) (flat t) a b w.heap.size g (o + i * 6 + 2) (o + i * 6 + 3) x w _) hb3 | exact Hl.step HST.out (Below.refl _ _).drew | go_keep)
                      (first
                        | (go_at_call_of 17 x.s; refine (HS.out _).mono ?_; rintro e w3 ⟨rfl, hb3⟩)
                        | (go_at_call_of 17 x.name; refine (HM.out _).mono ?_; rintro e w3 ⟨rfl, hb3⟩))
                    all_goals
                      obtain ⟨-, -, k1, k2, -⟩ : Hl (.slice (some ⟨g, o, none⟩) n c0) (.slice A3 m3 c3) (flat t) a b w.heap.size g (o + i * 6 + 2) (o + i * 6 + 3) x w _ := by assumption
                    go_wp2_with fail
                    go_at_call 8
                    refine (alive_any _ k1.tv).mono ?_
                    rintro e w4 ⟨rfl, hb5⟩
                    have HS4 := Lib.hid (same_true (.slice A3 m3 c3) (.slice (some ⟨g, o, none⟩) n c0) (flat t) w4 (k2.below hb5) (k1.nd.below hb5))
                    have HB4 := Lib.hid (Below.after k1.bel hb5)
                    clear k1 k2 hb5
                    go_wp2_with fail
                    go_at_call 11
                    refine HS4.out.mono ?_
                    rintro e w5 ⟨rfl, hb6⟩
                    go_wp2_with fail
                    go_ret
                    exact ⟨rfl, Below.after HB4.out hb6⟩
                · have hne2 : (!bareL x.s == x.s) = true := by simpa using h1
                  clear h1
                  have HSW : Hid (∀ W, Below wr.heap.size wr W → W.cell? ⟨g, o + i * 6 + 3, none⟩ = some (.string ⟨x.s.toArray⟩)) := Lib.hid fun W hb => (hb.cell (p := ⟨g, o + i * 6 + 3, none⟩) hg').trans a3
                  have HST : Hid (∀ W, Below wr.heap.size wr W → Bk (.slice (some ⟨g, o, none⟩) n c0) (flat t) a b w.heap.size w W ∧ Nds W (.slice A3 m3 c3) (flat t)) := Lib.hid fun W hb => ⟨KI.out.step hb, HXI.out.below hb⟩
                  clear HBB HEE HP HPA K0 K1 K2 K3 HX HXE HX3 HB3 HFE HK HLN HN KI HXI HBA HM a2 a2' HXI2
                  generalize bareL x.s = y at *
                  go_upto_region 17 with fail
                  refine wp_region_held_drew (S := (fun w' => w'.cell? ⟨g, o + i * 6 + 3, none⟩ = some (.string ⟨x.s.toArray⟩) ∧ Below wr.heap.size wr w')) (by kernel_rfl) ⟨a3, (Below.refl _ wr).drew⟩ (fun hH => ?_)
                  refine wpAnyH_take (i := 0) (v := .slice (some ⟨g, o, none⟩) n c0) rfl (by kernel_rfl) (by kernel_rfl) (by kernel_rfl) (fun _ _ _ h => h) (Or.inl ⟨by kernel_rfl, ?_⟩) (by assumption) ?_
                  · intro w' hSw; (try dsimp only at hSw); go_simp
                  try simp only [Act.put, List.getElem_toArray, List.getElem_cons_zero, List.setIfInBounds_toArray, List.set_cons_zero, List.set_cons_succ]
                  refine wpAnyH_take (i := 1) (v := .int .i64 i) rfl (by kernel_rfl) (by kernel_rfl) (by kernel_rfl) (fun _ _ _ h => h) (Or.inl ⟨by kernel_rfl, ?_⟩) (by assumption) ?_
                  · intro w' hSw; (try dsimp only at hSw); go_simp
                  try simp only [Act.put, List.getElem_toArray, List.getElem_cons_succ, List.getElem_cons_zero, List.setIfInBounds_toArray, List.set_cons_zero, List.set_cons_succ]
                  refine wpAnyH_take (i := 2) (v := .pointer (some ⟨g, o + i * 6, none⟩)) rfl (by kernel_rfl) (by kernel_rfl) (by kernel_rfl) (fun _ _ _ h => h) (Or.inl ⟨by kernel_rfl, ?_⟩) (by assumption) ?_
                  · intro w' hSw; (try dsimp only at hSw); go_simp
                  try simp only [Act.put, List.getElem_toArray, List.getElem_cons_succ, List.getElem_cons_zero, List.setIfInBounds_toArray, List.set_cons_zero, List.set_cons_succ]
                  refine wpAnyH_take (i := 3) (v := .pointer (some ⟨g, o + i * 6 + 3, none⟩)) rfl (by kernel_rfl) (by kernel_rfl) (by kernel_rfl) (fun _ _ _ h => h) (Or.inl ⟨by kernel_rfl, ?_⟩) (by assumption) ?_
                  · intro w' hSw; (try dsimp only at hSw); go_simp
                  try simp only [Act.put, List.getElem_toArray, List.getElem_cons_succ, List.getElem_cons_zero, List.setIfInBounds_toArray, List.set_cons_zero, List.set_cons_succ]
                  refine wpAnyH_take (i := 4) (v := .string ⟨x.s.toArray⟩) rfl (by kernel_rfl) (by kernel_rfl) (by kernel_rfl) (fun _ _ _ h => h) (Or.inl ⟨by kernel_rfl, ?_⟩) (by assumption) ?_
                  · intro w' hSw; (try dsimp only at hSw); go_simp
                  try simp only [Act.put, List.getElem_toArray, List.getElem_cons_succ, List.getElem_cons_zero, List.setIfInBounds_toArray, List.set_cons_zero, List.set_cons_succ]
                  refine wpAnyH_take (i := 6) (v := .slice (some ⟨g, o, none⟩) n c0) rfl (by kernel_rfl) (by kernel_rfl) (by kernel_rfl) (fun _ _ _ h => h) (Or.inl ⟨by kernel_rfl, ?_⟩) (by assumption) ?_
                  · intro w' hSw; (try dsimp only at hSw); go_simp
                  try simp only [Act.put, List.getElem_toArray, List.getElem_cons_succ, List.getElem_cons_zero, List.setIfInBounds_toArray, List.set_cons_zero, List.set_cons_succ]
                  refine wpAnyH_take (i := 7) (v := .int .i64 i) rfl (by kernel_rfl) (by kernel_rfl) (by kernel_rfl) (fun _ _ _ h => h) (Or.inl ⟨by kernel_rfl, ?_⟩) (by assumption) ?_
                  · intro w' hSw; (try dsimp only at hSw); go_simp
                  try simp only [Act.put, List.getElem_toArray, List.getElem_cons_succ, List.getElem_cons_zero, List.setIfInBounds_toArray, List.set_cons_zero, List.set_cons_succ]
                  refine wpAnyH_take (i := 8) (v := .pointer (some ⟨g, o + i * 6, none⟩)) rfl (by kernel_rfl) (by kernel_rfl) (by kernel_rfl) (fun _ _ _ h => h) (Or.inl ⟨by kernel_rfl, ?_⟩) (by assumption) ?_
                  · intro w' hSw; (try dsimp only at hSw); go_simp
                  try simp only [Act.put, List.getElem_toArray, List.getElem_cons_succ, List.getElem_cons_zero, List.setIfInBounds_toArray, List.set_cons_zero, List.set_cons_succ]
                  refine wpAnyH_take (i := 9) (v := .pointer (some ⟨g, o + i * 6 + 3, none⟩)) rfl (by kernel_rfl) (by kernel_rfl) (by kernel_rfl) (fun _ _ _ h => h) (Or.inl ⟨by kernel_rfl, ?_⟩) (by assumption) ?_
                  · intro w' hSw; (try dsimp only at hSw); go_simp
                  try simp only [Act.put, List.getElem_toArray, List.getElem_cons_succ, List.getElem_cons_zero, List.setIfInBounds_toArray, List.set_cons_zero, List.set_cons_succ]
                  refine wpAnyH_take (i := 10) (v := .string ⟨x.s.toArray⟩) rfl (by kernel_rfl) (by kernel_rfl) (by kernel_rfl) (fun _ _ _ h => h) (Or.inl ⟨by kernel_rfl, ?_⟩) (by assumption) ?_
                  · intro w' hSw; (try dsimp only at hSw); go_simp
                  try simp only [Act.put, List.getElem_toArray, List.getElem_cons_succ, List.getElem_cons_zero, List.setIfInBounds_toArray, List.set_cons_zero, List.set_cons_succ]
                  refine wpAnyH_ready (rs := [5]) (by kernel_rfl) (by simp) ?_
                  refine AllReadyH.cons rfl (fun K hK => ?_) AllReadyH.nil
                  go_simp
                  go_at_call 17
                  refine (HS.out _).mono ?_
                  rintro e w3 ⟨rfl, hb3⟩
                  have hb4 : Below wr.heap.size wr w3 := ((Below.refl _ wr).drew).trans hb3
                  go_wp2_with fail
                  refine hK.out _ _ ⟨HSW.out w3 hb4, hb4⟩ (fun hHeld => ?_)
                  clear hK K
                  try simp only [Act.put, List.getElem_toArray, List.getElem_cons_succ, List.getElem_cons_zero, List.setIfInBounds_toArray, List.set_cons_zero, List.set_cons_succ]
                  refine wpAnyH_take (i := 11) (v := .bool true) rfl (by kernel_rfl) (by kernel_rfl) (by kernel_rfl) (fun _ _ _ h => h) (Or.inl ⟨by kernel_rfl, ?_⟩) (by assumption) ?_
                  · intro w' hSw; (try dsimp only at hSw); go_simp
                  try simp only [Act.put, List.getElem_toArray, List.getElem_cons_succ, List.getElem_cons_zero, List.setIfInBounds_toArray, List.set_cons_zero, List.set_cons_succ]
                  refine wpAnyH_take (i := 12) (v := .bool true) rfl (by kernel_rfl) (by kernel_rfl) (by kernel_rfl) (fun _ _ _ h => h) (Or.inl ⟨by kernel_rfl, ?_⟩) (by assumption) ?_
                  · intro w' hSw; (try dsimp only at hSw); go_simp
                  try simp only [Act.put, List.getElem_toArray, List.getElem_cons_succ, List.getElem_cons_zero, List.setIfInBounds_toArray, List.set_cons_zero, List.set_cons_succ]
                  refine wpAnyH_take (i := 13) (v := undef) rfl (by kernel_rfl) (by kernel_rfl) (by kernel_rfl) (fun _ _ _ h => h) (Or.inr ⟨by kernel_rfl, rfl⟩) (by assumption) ?_
                  try simp only [Act.put, List.getElem_toArray, List.getElem_cons_succ, List.getElem_cons_zero, List.setIfInBounds_toArray, List.set_cons_zero, List.set_cons_succ]
                  refine wpAnyH_take (i := 14) (v := undef) rfl (by kernel_rfl) (by kernel_rfl) (by kernel_rfl) (fun _ _ _ h => h) (Or.inr ⟨by kernel_rfl, rfl⟩) (by assumption) ?_
                  try simp only [Act.put, List.getElem_toArray, List.getElem_cons_succ, List.getElem_cons_zero, List.setIfInBounds_toArray, List.set_cons_zero, List.set_cons_succ]
                  refine wpAnyH_take (i := 15) (v := undef) rfl (by kernel_rfl) (by kernel_rfl) (by kernel_rfl) (fun _ _ _ h => h) (Or.inr ⟨by kernel_rfl, rfl⟩) (by assumption) ?_
                  try simp only [Act.put, List.getElem_toArray, List.getElem_cons_succ, List.getElem_cons_zero, List.setIfInBounds_toArray, List.set_cons_zero, List.set_cons_succ]
                  refine wpAnyH_take (i := 16) (v := undef) rfl (by kernel_rfl) (by kernel_rfl) (by kernel_rfl) (fun _ _ _ h => h) (Or.inr ⟨by kernel_rfl, rfl⟩) (by assumption) ?_
                  try simp only [Act.put, List.getElem_toArray, List.getElem_cons_succ, List.getElem_cons_zero, List.setIfInBounds_toArray, List.set_cons_zero, List.set_cons_succ]
                  refine wpAnyH_take (i := 17) (v := undef) rfl (by kernel_rfl) (by kernel_rfl) (by kernel_rfl) (fun _ _ _ h => h) (Or.inr ⟨by kernel_rfl, rfl⟩) (by assumption) ?_
                  try simp only [Act.put, List.getElem_toArray, List.getElem_cons_succ, List.getElem_cons_zero, List.setIfInBounds_toArray, List.set_cons_zero, List.set_cons_succ]
                  refine wpAnyH_take (i := 18) (v := undef) rfl (by kernel_rfl) (by kernel_rfl) (by kernel_rfl) (fun _ _ _ h => h) (Or.inr ⟨by kernel_rfl, rfl⟩) (by assumption) ?_
                  try simp only [Act.put, List.getElem_toArray, List.getElem_cons_succ, List.getElem_cons_zero, List.setIfInBounds_toArray, List.set_cons_zero, List.set_cons_succ]
                  refine wpAnyH_take (i := 19) (v := undef) rfl (by kernel_rfl) (by kernel_rfl) (by kernel_rfl) (fun _ _ _ h => h) (Or.inr ⟨by kernel_rfl, rfl⟩) (by assumption) ?_
                  try simp only [Act.put, List.getElem_toArray, List.getElem_cons_succ, List.getElem_cons_zero, List.setIfInBounds_toArray, List.set_cons_zero, List.set_cons_succ]
                  refine wpAnyH_take (i := 20) (v := undef) rfl (by kernel_rfl) (by kernel_rfl) (by kernel_rfl) (fun _ _ _ h => h) (Or.inr ⟨by kernel_rfl, rfl⟩) (by assumption) ?_
                  try simp only [Act.put, List.getElem_toArray, List.getElem_cons_succ, List.getElem_cons_zero, List.setIfInBounds_toArray, List.set_cons_zero, List.set_cons_succ]
                  refine wpAnyH_take (i := 21) (v := undef) rfl (by kernel_rfl) (by kernel_rfl) (by kernel_rfl) (fun _ _ _ h => h) (Or.inr ⟨by kernel_rfl, rfl⟩) (by assumption) ?_
                  try simp only [Act.put, List.getElem_toArray, List.getElem_cons_succ, List.getElem_cons_zero, List.setIfInBounds_toArray, List.set_cons_zero, List.set_cons_succ]
                  refine wpAnyH_take (i := 22) (v := undef) rfl (by kernel_rfl) (by kernel_rfl) (by kernel_rfl) (fun _ _ _ h => h) (Or.inr ⟨by kernel_rfl, rfl⟩) (by assumption) ?_
                  try simp only [Act.put, List.getElem_toArray, List.getElem_cons_succ, List.getElem_cons_zero, List.setIfInBounds_toArray, List.set_cons_zero, List.set_cons_succ]
                  refine wpAnyH_take (i := 23) (v := undef) rfl (by kernel_rfl) (by kernel_rfl) (by kernel_rfl) (fun _ _ _ h => h) (Or.inr ⟨by kernel_rfl, rfl⟩) (by assumption) ?_
                  try simp only [Act.put, List.getElem_toArray, List.getElem_cons_succ, List.getElem_cons_zero, List.setIfInBounds_toArray, List.set_cons_zero, List.set_cons_succ]
                  refine wpAnyH_take (i := 24) (v := undef) rfl (by kernel_rfl) (by kernel_rfl) (by kernel_rfl) (fun _ _ _ h => h) (Or.inr ⟨by kernel_rfl, rfl⟩) (by assumption) ?_
                  try simp only [Act.put, List.getElem_toArray, List.getElem_cons_succ, List.getElem_cons_zero, List.setIfInBounds_toArray, List.set_cons_zero, List.set_cons_succ]
                  refine wpAnyH_take (i := 25) (v := .bool true) rfl (by kernel_rfl) (by kernel_rfl) (by kernel_rfl) (fun _ _ _ h => h) (Or.inl ⟨by kernel_rfl, ?_⟩) (by assumption) ?_
                  · intro w' hSw; (try dsimp only at hSw); go_simp
                  try simp only [Act.put, List.getElem_toArray, List.getElem_cons_succ, List.getElem_cons_zero, List.setIfInBounds_toArray, List.set_cons_zero, List.set_cons_succ]
                  refine wpAnyH_done (by kernel_rfl) ?_ _
                  obtain ⟨k1, k2⟩ := HST.out w3 hb4
                  go_wp2_with fail
                  go_at_call 8
                  refine (alive_any _ k1.tv).mono ?_
                  rintro e w4 ⟨rfl, hb5⟩
                  have HS4 := Lib.hid (same_true (.slice A3 m3 c3) (.slice (some ⟨g, o, none⟩) n c0) (flat t) w4 (k2.below hb5) (k1.nd.below hb5))
                  have HB4 := Lib.hid (Below.after k1.bel hb5)
                  clear k1 k2 hb5
                  go_wp2_with fail
                  go_at_call 11
                  refine HS4.out.mono ?_
                  rintro e w5 ⟨rfl, hb6⟩
                  go_wp2_with fail
                  go_ret
                  exact ⟨rfl, Below.after HB4.out hb6⟩
              · obtain rfl : i = n := by omega
                have HBL : Hid (bareL (prT true 0 t) = X) := Lib.hid (by rw [HXE.out]; exact prT_bare _ t 0 (Nat.le_refl _) HK.out.val.ok HK.out.val.rt fun x hx => ⟨List.filter_eq_self.1 (HBA.out x (by rw [← HNL.out, List.take_length]; exact hx)).1, List.filter_eq_self.1 (HBA.out x (by rw [← HNL.out, List.take_length]; exact hx)).2⟩)
                have HBC : Hid (∀ W, Calls Tryz.prog 17 #[.string ⟨(prT true 0 t).toArray⟩] W fun e w' => e = .returned (.string ⟨X.toArray⟩) ∧ Below W.heap.size W w') := Lib.hid fun W => by
                  have := bare_calls (prT true 0 t) (by have := HK.out.zi; omega) W
                  rwa [HBL.out] at this
                clear HBB HEE HP HPA K0 K1 K2 K3 HX3 HB3 HFE HK HLN HN HBA HXE HBL
                go_wp2_with fail
                go_at_call 8
                refine (alive_any _ KI.out.tv).mono ?_
                rintro e w4 ⟨rfl, hb5⟩
                have K4 := Lib.hid (KI.out.step hb5)
                have HS4 := Lib.hid (same_true (.slice A3 m3 c3) (.slice (some ⟨g, o, none⟩) i c0) (flat t) w4 (HXI.out.below hb5) K4.out.nd)
                clear hb5 KI HXI
                go_wp2_with fail
                go_at_call 11
                refine HS4.out.mono ?_
                rintro e w5 ⟨rfl, hb6⟩
                have K5 := Lib.hid (K4.out.step hb6)
                clear hb6 K4 HS4
                go_wp2_with fail
                go_at_call 15
                refine (HX.out.i _ _ K5.out.nd K5.out.tv).mono ?_
                rintro e w6 ⟨rfl, hb7⟩
                have K6 := Lib.hid (K5.out.step hb7)
                clear hb7 K5
                go_wp2_with fail
                go_at_call 17
                refine (HBC.out _).mono ?_
                rintro e w7 ⟨rfl, hb8⟩
                have K7 := Lib.hid (K6.out.step hb8)
                clear hb8 K6
                go_wp2_with fail
                go_at_call 13
                refine (HX.out.c _ _ K7.out.nd K7.out.tv).mono ?_
                rintro e w8 ⟨rfl, hb9⟩
                have K8 := Lib.hid (K7.out.step hb9)
                clear hb9 K7
                go_wp2_with fail
                go_ret
                exact ⟨rfl, K8.out.bel⟩
end Go.Proofs.YtfeiolklhkclgaaGreatDoor
