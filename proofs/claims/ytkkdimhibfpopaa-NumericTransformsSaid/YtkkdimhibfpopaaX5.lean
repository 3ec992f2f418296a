/- Contracts: the reference's transform of a list, the recursion. -/
import Derived.Test.YtkkdimhibfpopaaX4
namespace Go.Proofs.Ytkkdimhibfpopaa
open Go.ChangeShapes Go.WideShapes Go.ChangeAt Go.RowKit Go.WideMaps Go.Maps
namespace Nu

theorem own_someT {W : World} {base n size : Nat} {t : TypeId} {v : Value} {xs : List Value} (h : W.ownsRow base t size v n xs) (hn : 0 < n) : ∃ g cap, v = .slice (some ⟨g, 0, none⟩) n cap ∧ base ≤ g := by
  rcases h.2 with ⟨_, h0⟩ | ⟨g, cap, cur, h1, h2, _⟩
  · omega
  · exact ⟨g, cap, h1, h2⟩

theorem cellsN_one : ∀ (L : List (Nat × Nat)), ∀ u ∈ cellsN L, u.oneCell' = true
  | [], u, h => by simp [cellsN] at h
  | x :: l, u, h => by
    simp only [cellsN, List.mem_cons] at h
    rcases h with rfl | rfl | h
    · rfl
    · rfl
    · exact cellsN_one l u h

set_option maxRecDepth 100000 in
set_option maxHeartbeats 8000000 in
theorem rfw_succ (k : Nat) (hk : k + 1 ≤ 6) (ih : ∀ (n cap b : Nat) (L : List (Nat × Nat)) (w : World), n = 2 ^ k → L.length = n → Num w b L →
      Calls Try.prog 63 #[.slice (some ⟨b, 0, none⟩) n cap] w fun e w' => ∃ g cap', e = .returned (.slice (some ⟨g, 0, none⟩) n cap') ∧ Num w' g (trL k L) ∧ w.heap.size ≤ g ∧ Below w.heap.size w w')
    (n cap b : Nat) (L : List (Nat × Nat)) (w : World) (hn : n = 2 ^ (k + 1)) (hL : L.length = n) (hN : Num w b L) :
    Calls Try.prog 63 #[.slice (some ⟨b, 0, none⟩) n cap] w fun e w' => ∃ g cap', e = .returned (.slice (some ⟨g, 0, none⟩) n cap') ∧ Num w' g (trL (k + 1) L) ∧ w.heap.size ≤ g ∧ Below w.heap.size w w' := by
  obtain ⟨h, hh⟩ : ∃ h, h = 2 ^ k := ⟨_, rfl⟩
  have hnh : n = h + h := by rw [hn, Nat.pow_succ, ← hh]; omega
  have h1 : 1 ≤ h := by rw [hh]; exact Nat.two_pow_pos k
  have h64 : n ≤ 64 := by rw [hn]; exact Nat.le_trans (Nat.pow_le_pow_right (by omega) hk) (by decide)
  have HL := Lib.hid hL
  have Hn := Lib.hid hn
  have Hh := Lib.hid hh
  have Hnh := Lib.hid hnh
  have H1 := Lib.hid h1
  have H64 := Lib.hid h64
  have HN := Lib.hid hN
  have IH := Lib.hid ih
  have HK := Lib.hid hk
  have i1 : ((n : Int) == 1) = false := by simp; omega
  have i0 : (n : Int) ≤ 64 := by omega
  clear hN hL hn hh hnh ih hk h1 h64
  obtain ⟨z0, hz0, hz1, hz2, hz3⟩ := info_parts info38
  have HLIT := Lib.hid (Rw.lit w)
  go_enter Try.func63, Try.ntmps63
  go_wp2_with fail
  go_loopw [4, 5, 6] (fun ev od v wr => ∃ j q : Nat, q = 2 * j ∧ v = .int .i64 q ∧ j ≤ h ∧ Rw w wr ev od j j (picks L 0 j) (picks L 1 j)) (fun _ _ v _ => 200 - (intOf v).toNat)
  case atStart => exact ⟨0, 0, rfl, rfl, Nat.zero_le _, HLIT.out⟩
  case round =>
    rename World => W1
    obtain ⟨j, q, hq, rfl, hj, hrw⟩ := hrel
    have HRW := Lib.hid hrw
    have HJ := Lib.hid hj
    have HQ := Lib.hid hq
    clear hj hrw hq
    by_cases hlt : j < h
    · obtain ⟨x, hx⟩ : ∃ x, x = pick L 0 j := ⟨_, rfl⟩
      obtain ⟨y, hy⟩ : ∃ y, y = pick L 1 j := ⟨_, rfl⟩
      obtain ⟨p, hp⟩ : ∃ p, p = q + 1 := ⟨_, rfl⟩
      obtain ⟨r, hr⟩ : ∃ r, r = q + 2 := ⟨_, rfl⟩
      have hq := HQ.out
      have hnh := Hnh.out
      obtain ⟨x0, x1⟩ := (HN.out.below rfl HRW.out.below) q x (by rw [hx, hq]; have := pick_at (L := L) (f := 0) (k := j) (by rw [HL.out]; omega); simpa using this)
      rw [Nat.mul_comm] at x0 x1
      have i2 : (q : Int) < n := by omega
      have i3 : (0 : Int) ≤ q := by omega
      have i4 : (q : Int) + 1 = (p : Int) := by omega
      have i5 : (q : Int) + 2 = (r : Int) := by omega
      have i6 : (p : Int) < n := by omega
      have i7 : (0 : Int) ≤ p := by omega
      have i8 : IntKind.i64.wrap (p : Int) = (p : Int) := IntWalk.i64_in _ (by omega)
      have i9 : IntKind.i64.wrap (r : Int) = (r : Int) := IntWalk.i64_in _ (by omega)
      have hpat : L[p]? = some y := by
        rw [hy, hp, hq]
        have := pick_at (L := L) (f := 1) (k := j) (by rw [HL.out]; omega)
        rw [show 2 * j + 1 = 1 + 2 * j by omega]; exact this
      have HX := Lib.hid hx
      have HY := Lib.hid hy
      have HP := Lib.hid hpat
      have HR := Lib.hid hr
      have HLT := Lib.hid hlt
      clear hx hy hp hr hq hnh hpat hlt
      go_upto_region 9 with (at_builtin; refine wpList_append_lies _ rfl _ _ 27 rfl w.heap.size 38 z0 (.agg #[.int .u32 0, .int .u32 0]) 2 8 Try.underlying27 hz0 hz1 hz2 hz3 rfl (by decide) _ j _ rfl (HRW.out.own1.alloc (.cells #[.int .u32 x.1, .int .u32 x.2] 38)) ⟨W1.heap.size, 0, none⟩ 1 1 [.int .u32 x.1, .int .u32 x.2] rfl rfl (cell_two_new _ _ _ _) (by simp [Value.oneCell']) (by omega) (by have := H64.out; have := Hnh.out; have := HLT.out; unfold maxLen; omega) (by have := H64.out; have := Hnh.out; have := HLT.out; omega) (by have := HRW.out.below.size; simp; omega) _ rfl ?_
                             intro g5 cap5 w5 hown5 hgrow5 hat5 hlt5
                             have HR5 := Lib.hid ((HRW.out.alloc (.cells #[.int .u32 x.1, .int .u32 x.2] 38)).app1 (L' := picks L 0 (j + 1)) (by rw [picks_snoc, cellsN_append, ← HX.out]; exact hown5) hgrow5 hat5)
                             clear hown5 hgrow5 hat5 hlt5 x0 x1)
      obtain ⟨y0, y1⟩ := (HN.out.below rfl HR5.out.below) p y HP.out
      rw [Nat.mul_comm] at y0 y1
      go_wp2_with (at_builtin; refine wpList_append_lies _ rfl _ _ 27 rfl w.heap.size 38 z0 (.agg #[.int .u32 0, .int .u32 0]) 2 8 Try.underlying27 hz0 hz1 hz2 hz3 rfl (by decide) _ j _ rfl (HR5.out.own2.alloc (.cells #[.int .u32 y.1, .int .u32 y.2] 38)) ⟨w5.heap.size, 0, none⟩ 1 1 [.int .u32 y.1, .int .u32 y.2] rfl rfl (cell_two_new _ _ _ _) (by simp [Value.oneCell']) (by omega) (by have := H64.out; have := Hnh.out; have := HLT.out; unfold maxLen; omega) (by have := H64.out; have := Hnh.out; have := HLT.out; omega) (by have := HR5.out.below.size; simp; omega) _ rfl ?_
                   intro g6 cap6 w6 hown5 hgrow5 hat5 hlt5
                   have HR6 := Lib.hid ((HR5.out.alloc (.cells #[.int .u32 y.1, .int .u32 y.2] 38)).app2 (M' := picks L 1 (j + 1)) (by rw [picks_snoc, cellsN_append, ← HY.out]; exact hown5) hgrow5 hat5)
                   clear hown5 hgrow5 hat5 hlt5 y0 y1)
      go_roundw
      case rel => exact ⟨j + 1, r, by have := HR.out; have := HQ.out; omega, rfl, by have := HLT.out; omega, HR6.out⟩
      case measure => have := HLT.out; have := H64.out; have := Hnh.out; have := HQ.out; have := HR.out; simp [intOf]; omega
    · have hjh : j = h := by have := HJ.out; omega
      have i2 : ¬ (q : Int) < n := by have := HQ.out; have := Hnh.out; omega
      have hl := HRW.out
      rw [hjh] at hl
      obtain ⟨gv, capv, rfl, -⟩ := own_someT hl.own1 H1.out
      obtain ⟨gd, capd, rfl, -⟩ := own_someT hl.own2 H1.out
      have hAw := (((Aw.first w).step (X := w) hl.below).add (Num.of_row hl.own2)).add (Num.of_row hl.own1)
      have HA1 := Lib.hid hAw
      clear hl hAw hjh hlt HRW HJ HQ
      go_upto_region 12 with (first
        | (go_at_call 33
           refine (rtwiddles_two (k + 1) n HK.out Hn.out _).mono ?_
           rintro e w5 ⟨gW, capW, rfl, hn5, -, hb5⟩
           have HA4 := Lib.hid ((HA3.out.step hb5).add hn5)
           clear hn5 hb5)
        | (go_at_call 63
           first
             | (have hq := HA2.out
                refine (IH.out h capd gd (picks L 1 h) _ Hh.out (picks_len _ _ _) (hq.num (gd, picks L 1 h) (by simp))).mono ?_
                rintro e w4 ⟨gO, capO, rfl, hn4, -, hb4⟩
                have HA3 := Lib.hid ((hq.step hb4).add hn4)
                clear hn4 hb4 hq)
             | (have hq := HA1.out
                refine (IH.out h capv gv (picks L 0 h) _ Hh.out (picks_len _ _ _) (hq.num (gv, picks L 0 h) (by simp))).mono ?_
                rintro e w3 ⟨gE, capE, rfl, hn3, -, hb3⟩
                have HA2 := Lib.hid ((hq.step hb3).add hn3)
                clear hn3 hb3 hq)))
      clear HA1 HA2 HA3
      obtain ⟨E, hE⟩ : ∃ E, E = trL k (picks L 0 h) := ⟨_, rfl⟩
      obtain ⟨O, hO⟩ : ∃ O, O = trL k (picks L 1 h) := ⟨_, rfl⟩
      obtain ⟨WL, hWL⟩ : ∃ WL, WL = facL (firstW (k + 1)) n := ⟨_, rfl⟩
      have h4 := HA4.out
      rw [← hE, ← hO, ← hWL] at h4
      have HA4 := Lib.hid h4
      have HLE : Hid (E.length = h) := by rw [hE, trL_len, Hh.out]; exact rfl
      have HLO : Hid (O.length = h) := by rw [hO, trL_len, Hh.out]; exact rfl
      have HLW : Hid (WL.length = n) := by rw [hWL]; exact facL_len _ _
      have HE := Lib.hid hE
      have HO := Lib.hid hO
      have HW := Lib.hid hWL
      clear h4 hE hO hWL
      have HLIT2 := Lib.hid (Rw.lit w5)
      have q1 : (n : Int).tdiv 2 = (h : Int) := by have := Hnh.out; rw [Int.tdiv_eq_ediv_of_nonneg (by omega)]; omega
      have q2 : (n : Int) / 2 = (h : Int) := by have := Hnh.out; omega
      have q3 : (0 : Int) ≤ (h : Int) := by omega
      have q4 : (h : Int) ≤ 32 := by have := Hnh.out; have := H64.out; omega
      go_wp2_with fail
      go_loopw [11, 12, 13] (fun fi se v wr => ∃ j : Nat, v = .int .i64 j ∧ j ≤ h ∧ Rw w5 wr fi se j j (addL (at2 E) (turn (k + 1) O) j) (subL (at2 E) (turn (k + 1) O) j)) (fun _ _ v _ => 100 - (intOf v).toNat)
      case atStart => exact ⟨0, rfl, Nat.zero_le _, HLIT2.out⟩
      case round =>
        rename World => wa
        obtain ⟨j, rfl, hj, hrw⟩ := hrel
        have HRW := Lib.hid hrw
        have HJ := Lib.hid hj
        clear hj hrw
        by_cases hlt : j < h
        · obtain ⟨x, hx⟩ : ∃ x, x = at2 WL j := ⟨_, rfl⟩
          obtain ⟨y, hy⟩ : ∃ y, y = at2 O j := ⟨_, rfl⟩
          obtain ⟨z, hz⟩ : ∃ z, z = at2 E j := ⟨_, rfl⟩
          obtain ⟨c0, c1⟩ := ((HA4.out.num (gW, WL) (by simp)).below rfl HRW.out.below) j x (by rw [hx]; exact at2_at (by rw [HLW.out]; have := Hnh.out; omega))
          obtain ⟨y0, y1⟩ := ((HA4.out.num (gO, O) (by simp)).below rfl HRW.out.below) j y (by rw [hy]; exact at2_at (by rw [HLO.out]; exact hlt))
          dsimp only at c0 c1 y0 y1
          rw [Nat.mul_comm] at c0 c1 y0 y1
          have i2 : (j : Int) < h := by omega
          have i3 : (0 : Int) ≤ j := by omega
          have i4 : (j : Int) < n := by have := Hnh.out; omega
          have HX := Lib.hid hx
          have HY := Lib.hid hy
          have HZ := Lib.hid hz
          have HLT := Lib.hid hlt
          have hxw : x = fac (firstW (k + 1)) j := by
            rw [hx, HW.out]; unfold at2
            rw [List.getD_eq_getElem?_getD, facL_at _ _ _ (by have := Hnh.out; omega)]; rfl
          have HXW := Lib.hid hxw
          clear hx hy hz hxw hlt
          go_wp2_with fail
          have hgc := World.grownBy_alloc wa (.cells #[.int .u32 0, .int .u32 0] 38) none
          have c4 := hgc.cell c0 (by simp)
          have c5 := hgc.cell c1 (by simp)
          have y4 := hgc.cell y0 (by simp)
          have y5 := hgc.cell y1 (by simp)
          have HAN := Lib.hid (And.intro (new_cell wa #[.int .u32 0, .int .u32 0] 38 0 _ rfl) (new_cell wa #[.int .u32 0, .int .u32 0] 38 1 _ rfl))
          clear hgc
          go_region_held3 (fun w' => w'.cell? ⟨gW, j * 2, none⟩ = some (.int .u32 x.1) ∧ w'.cell? ⟨gW, j * 2 + 1, none⟩ = some (.int .u32 x.2) ∧ w'.cell? ⟨gO, j * 2, none⟩ = some (.int .u32 y.1) ∧ w'.cell? ⟨gO, j * 2 + 1, none⟩ = some (.int .u32 y.2)) (first | exact ⟨d8, d9, e8, e9⟩ | exact ⟨d6, d7, e6, e7⟩ | exact ⟨d4, d5, e4, e5⟩ | exact ⟨d0, d1, e0, e1⟩ | exact ⟨c4, c5, y4, y5⟩ | exact ⟨c0, c1, y0, y1⟩)
            (first
              | (go_at_call 21; refine (rmul_any x.1 x.2 y.1 y.2 _).mono ?_; rintro e wb ⟨rfl, hb⟩
                 first
                   | (have hgb := below_grown (w := wa) hb rfl rfl rfl rfl none
                      have d0 := hgb.cell c0 (by simp)
                      have d1 := hgb.cell c1 (by simp)
                      have e0 := hgb.cell y0 (by simp)
                      have e1 := hgb.cell y1 (by simp)
                      have hgc := World.grownBy_alloc wb (.cells #[.int .u32 0, .int .u32 0] 38) none
                      have d4 := hgc.cell d0 (by simp)
                      have d5 := hgc.cell d1 (by simp)
                      have e4 := hgc.cell e0 (by simp)
                      have e5 := hgc.cell e1 (by simp)
                      have HGB := Lib.hid hgb
                      have hcase : Hid (0 = 0) := rfl
                      clear hb hgb hgc)
                   | (have hgb := below_grown (w := wa.alloc (.cells #[.int .u32 0, .int .u32 0] 38)) hb rfl rfl rfl rfl none
                      have d0 := hgb.cell c4 (by simp)
                      have d1 := hgb.cell c5 (by simp)
                      have e0 := hgb.cell y4 (by simp)
                      have e1 := hgb.cell y5 (by simp)
                      have n0 := hgb.cell HAN.out.1.1 (by simp)
                      have n1 := hgb.cell HAN.out.2.1 (by simp)
                      have g0 : wb.frozen? ⟨wa.heap.size, 0, none⟩ = false := (hgb.frozen_far _ (by simp) (by simp)).trans HAN.out.1.2
                      have g1 : wb.frozen? ⟨wa.heap.size, 1, none⟩ = false := (hgb.frozen_far _ (by simp) (by simp)).trans HAN.out.2.2
                      have HGB := Lib.hid hgb
                      have hcase : Hid (1 = 1) := rfl
                      clear hb hgb)
                 obtain ⟨mw, hmw⟩ : ∃ mw, mw = mulW (x.1, x.2) (y.1, y.2) := ⟨_, rfl⟩
                 rw [← hmw]
                 have hmw2 : mw = turn (k + 1) O j := by unfold turn; rw [← HXW.out, ← HY.out]; exact hmw
                 have HM := Lib.hid hmw2
                 clear hmw hmw2
                 have hBa : gW < wa.heap.size := cell_lt c0
                 have hOa : gO < wa.heap.size := cell_lt y0
                 have hga := World.grownBy_alloc wb (.cells #[.int .u32 mw.1, .int .u32 mw.2] 38) none
                 have hgs := grown_set2 wb wa.heap.size 0 1 (.int .u32 mw.1) (.int .u32 mw.2)
                 have d8 := hga.cell d0 (by simp)
                 have d9 := hga.cell d1 (by simp)
                 have e8 := hga.cell e0 (by simp)
                 have e9 := hga.cell e1 (by simp)
                 have d6 := hgs.cell d0 (fun e => by have := Option.some.inj e; dsimp only at this; omega)
                 have d7 := hgs.cell d1 (fun e => by have := Option.some.inj e; dsimp only at this; omega)
                 have e6 := hgs.cell e0 (fun e => by have := Option.some.inj e; dsimp only at this; omega)
                 have e7 := hgs.cell e1 (fun e => by have := Option.some.inj e; dsimp only at this; omega)
                 clear hBa hOa hga hgs
                 unfold num
                 go_simp))
          all_goals
            first
              | (have hgw : wa.grownBy (wb.alloc (.cells #[.int .u32 mw.1, .int .u32 mw.2] 38)) none := grown_trans HGB.out (World.grownBy_alloc _ _ _)
                 have m0 := (new_cell wb #[.int .u32 mw.1, .int .u32 mw.2] 38 0 (.int .u32 mw.1) rfl).1
                 have m1 := (new_cell wb #[.int .u32 mw.1, .int .u32 mw.2] 38 1 (.int .u32 mw.2) rfl).1
                 obtain ⟨wc, hwc⟩ : ∃ wc, wc = wb.alloc (.cells #[.int .u32 mw.1, .int .u32 mw.2] 38) := ⟨_, rfl⟩
                 obtain ⟨B2, hB2⟩ : ∃ B2, B2 = wb.heap.size := ⟨_, rfl⟩
                 have hb2 : wa.heap.size ≤ B2 := by rw [hB2]; exact HGB.out.size
                 clear d0 d1 d4 d5 d6 d7 d8 d9 e0 e1 e4 e5 e6 e7 e8 e9
                 rw [← hwc, ← hB2] at m0 m1
                 rw [← hwc] at hgw ⊢
                 rw [← hB2]
                 clear hwc hB2)
              | (have hgw : wa.grownBy ((wb.setCell ⟨wa.heap.size, 0, none⟩ (.int .u32 mw.1)).setCell ⟨wa.heap.size, 1, none⟩ (.int .u32 mw.2)) none := ((World.grownBy_alloc wa _ none).trans HGB.out).andThen (grown_set2 wb wa.heap.size 0 1 _ _) (fun _ e => .inl (by cases e; exact Nat.le_refl _))
                 have m0 : ((wb.setCell ⟨wa.heap.size, 0, none⟩ (.int .u32 mw.1)).setCell ⟨wa.heap.size, 1, none⟩ (.int .u32 mw.2)).cell? ⟨wa.heap.size, 0, none⟩ = some (.int .u32 mw.1) := by
                   rw [World.cell?_setCell_other _ _ _ _ (by simp)]; exact World.cell?_setCell_same _ _ _ n0
                 have m1 : ((wb.setCell ⟨wa.heap.size, 0, none⟩ (.int .u32 mw.1)).setCell ⟨wa.heap.size, 1, none⟩ (.int .u32 mw.2)).cell? ⟨wa.heap.size, 1, none⟩ = some (.int .u32 mw.2) :=
                   World.cell?_setCell_same _ _ _ (by rw [World.cell?_setCell_other _ _ _ _ (by simp)]; exact n1)
                 obtain ⟨wc, hwc⟩ : ∃ wc, wc = (wb.setCell ⟨wa.heap.size, 0, none⟩ (.int .u32 mw.1)).setCell ⟨wa.heap.size, 1, none⟩ (.int .u32 mw.2) := ⟨_, rfl⟩
                 obtain ⟨B2, hB2⟩ : ∃ B2, B2 = wa.heap.size := ⟨_, rfl⟩
                 have hb2 : wa.heap.size ≤ B2 := by rw [hB2]; exact Nat.le_refl _
                 clear d0 d1 d6 d7 d8 d9 e0 e1 e6 e7 e8 e9 n0 n1 g0 g1
                 rw [← hwc] at m0 m1 hgw ⊢
                 rw [← hB2] at m0 m1 ⊢
                 clear hwc hB2)
            have hrc := HRW.out.step (X := wa) (below_of hgw)
            obtain ⟨v0, v1⟩ := ((HA4.out.num (gE, E) (by simp)).below rfl hrc.below) j z (by rw [HZ.out]; exact at2_at (by rw [HLE.out]; exact HLT.out))
            dsimp only at v0 v1
            rw [Nat.mul_comm] at v0 v1
            have HRC := Lib.hid hrc
            have HB2 := Lib.hid hb2
            have HM0 := Lib.hid m0
            have HM1 := Lib.hid m1
            have hfo : ∀ g, g = B2 → (∀ u j L, wa.ownsRow w5.heap.size 38 2 u j L → u.ownBlock = some g → False) := fun g hg u j L ho he => by
              have := (ho.lt g he).2
              omega
            have HFO := Lib.hid hfo
            have i5 : (j : Int) < h := by have := HLT.out; omega
            clear hb2 hrc hgw c0 c1 c4 c5 y0 y1 y4 y5 hfo
            go_wp2_with fail
            go_region_law ((first
              | (go_simp; go_at_call 19; refine (radd_any z.1 z.2 mw.1 mw.2 _).mono ?_; rintro e w7 ⟨rfl, hb7⟩; clear v0 v1 m0 m1; have HR7 := Lib.hid (HRC.out.step hb7); have HM70 := Lib.hid ((hb7.cell (p := ⟨B2, 0, none⟩) (cell_lt HM0.out)).trans HM0.out); have HM71 := Lib.hid ((hb7.cell (p := ⟨B2, 1, none⟩) (cell_lt HM1.out)).trans HM1.out); clear hb7; obtain ⟨s, hs⟩ : ∃ s, s = addW (z.1, z.2) (mw.1, mw.2) := ⟨_, rfl⟩; rw [← hs]; have HS := Lib.hid hs; clear hs; unfold num; go_simp)
              | (refine step_append_lies _ (by rfl) _ _ _ (by rfl) w5.heap.size 38 z0 (.agg #[.int .u32 0, .int .u32 0]) 2 8 Try.underlying27 hz0 hz1 hz2 hz3 rfl (by decide) _ j _ (by rfl) (HR7.out.own1.alloc _) ⟨w7.heap.size, 0, none⟩ 1 1 [.int .u32 s.1, .int .u32 s.2] (by rfl) rfl (cell_two_new _ _ _ _) (by simp [Value.oneCell']) (by omega) (by have := HLT.out; have := Hnh.out; have := H64.out; unfold maxLen; omega) (by have := HLT.out; have := Hnh.out; have := H64.out; omega) (by have := HR7.out.below.size; simp; omega) (w7.heap.size + 1) (by simp) ?_; intro g8 cap8 w8 hown8 hgrow8 hat8 hlt8; have HM80 := Lib.hid (hgrow8.cell (((Below.refl _ w7).alloc (Nat.le_refl _) (.cells #[.int .u32 s.1, .int .u32 s.2] 38)).cell (p := ⟨B2, 0, none⟩) (cell_lt HM70.out) |>.trans HM70.out) (fun e => HFO.out B2 rfl _ _ _ HRW.out.own1 e.symm)); have HM81 := Lib.hid (hgrow8.cell (((Below.refl _ w7).alloc (Nat.le_refl _) (.cells #[.int .u32 s.1, .int .u32 s.2] 38)).cell (p := ⟨B2, 1, none⟩) (cell_lt HM71.out) |>.trans HM71.out) (fun e => HFO.out B2 rfl _ _ _ HRW.out.own1 e.symm)); have HR8 := Lib.hid ((HR7.out.alloc (.cells #[.int .u32 s.1, .int .u32 s.2] 38)).app1 (L' := addL (at2 E) (turn (k + 1) O) (j + 1)) (by rw [addL_snoc, cellsN_append]; show w8.ownsRow _ _ _ _ _ (_ ++ [.int .u32 (addW (at2 E j) (turn (k + 1) O j)).1, .int .u32 (addW (at2 E j) (turn (k + 1) O j)).2]); rw [← HZ.out, ← HM.out]; rw [HS.out] at hown8; exact hown8) hgrow8 (by simpa using hat8)); clear hown8 hgrow8 hat8 hlt8)))
            all_goals
              simp only [List.getElem_toArray, List.getElem_cons_succ, List.getElem_cons_zero]
              simp only [Act.put, List.setIfInBounds_toArray, List.set_cons_zero, List.set_cons_succ]
              obtain ⟨v0, v1⟩ := ((HA4.out.num (gE, E) (by simp)).below rfl HR8.out.below) j z (by rw [HZ.out]; exact at2_at (by rw [HLE.out]; exact HLT.out))
              dsimp only at v0 v1
              rw [Nat.mul_comm] at v0 v1
              have m0 := HM80.out
              have m1 := HM81.out
              go_wp2_with fail
              go_region_law ((first
                | (go_simp; go_at_call 20; refine (rsub_any z.1 z.2 mw.1 mw.2 _).mono ?_; rintro e w9 ⟨rfl, hb9⟩; clear v0 v1 m0 m1; have HR9 := Lib.hid (HR8.out.step hb9); clear hb9; obtain ⟨d, hd⟩ : ∃ d, d = subW (z.1, z.2) (mw.1, mw.2) := ⟨_, rfl⟩; rw [← hd]; have HD := Lib.hid hd; clear hd; unfold num; go_simp)
                | (refine step_append_lies _ (by rfl) _ _ _ (by rfl) w5.heap.size 38 z0 (.agg #[.int .u32 0, .int .u32 0]) 2 8 Try.underlying27 hz0 hz1 hz2 hz3 rfl (by decide) _ j _ (by rfl) (HR9.out.own2.alloc _) ⟨w9.heap.size, 0, none⟩ 1 1 [.int .u32 d.1, .int .u32 d.2] (by rfl) rfl (cell_two_new _ _ _ _) (by simp [Value.oneCell']) (by omega) (by have := HLT.out; have := Hnh.out; have := H64.out; unfold maxLen; omega) (by have := HLT.out; have := Hnh.out; have := H64.out; omega) (by have := HR9.out.below.size; simp; omega) (w9.heap.size + 1) (by simp) ?_; intro g10 cap10 w10 hown10 hgrow10 hat10 hlt10; have HR10 := Lib.hid ((HR9.out.alloc (.cells #[.int .u32 d.1, .int .u32 d.2] 38)).app2 (M' := subL (at2 E) (turn (k + 1) O) (j + 1)) (by rw [subL_snoc, cellsN_append]; show w10.ownsRow _ _ _ _ _ (_ ++ [.int .u32 (subW (at2 E j) (turn (k + 1) O j)).1, .int .u32 (subW (at2 E j) (turn (k + 1) O j)).2]); rw [← HZ.out, ← HM.out]; rw [HD.out] at hown10; exact hown10) hgrow10 (by simpa using hat10)); clear hown10 hgrow10 hat10 hlt10)))
              all_goals
                simp only [List.getElem_toArray, List.getElem_cons_succ, List.getElem_cons_zero]
                simp only [Act.put, List.setIfInBounds_toArray, List.set_cons_zero, List.set_cons_succ]
                go_wp2_with fail
                go_roundw
                case rel => exact ⟨j + 1, congrArg (Value.int .i64) (by omega), by have := HLT.out; omega, HR10.out⟩
                case measure => have := HLT.out; have := Hnh.out; have := H64.out; simp [intOf]; omega
        · have hjh : j = h := by have := HJ.out; omega
          have i2 : ¬ (j : Int) < h := by omega
          have hl := HRW.out
          rw [hjh] at hl
          obtain ⟨gF, capF, rfl, -⟩ := own_someT hl.own1 H1.out
          obtain ⟨gS, capS, rfl, -⟩ := own_someT hl.own2 H1.out
          have hN2 := Num.of_row hl.own2
          have hcs : ∀ (i : Nat) (u : Value), (cellsN (subL (at2 E) (turn (k + 1) O) h))[i]? = some u → wa.cell? ((⟨gS, 0, none⟩ : Addr).add i) = some u := fun i u hu => by
            have hi : i < h * 2 := by
              have h1 := (List.getElem?_eq_some_iff.1 hu).1
              rw [cellsN_len, subL_len] at h1
              omega
            have := (hl.own2.cellAt i hi).trans hu
            rw [Go.WideShapes.add_plain, Nat.zero_add]
            exact this
          have HL1 := Lib.hid hl
          have HCS := Lib.hid hcs
          clear hl hN2 hcs hjh hlt
          go_wp2_with (at_builtin; refine wpList_append_lies _ rfl _ _ 27 rfl w5.heap.size 38 z0 (.agg #[.int .u32 0, .int .u32 0]) 2 8 Try.underlying27 hz0 hz1 hz2 hz3 rfl (by decide) _ h _ rfl HL1.out.own1 ⟨gS, 0, none⟩ h capS (cellsN (subL (at2 E) (turn (k + 1) O) h)) rfl (by rw [cellsN_len, subL_len]; omega) HCS.out (cellsN_one _) (by have := H1.out; omega) (by have := Hnh.out; have := H64.out; unfold maxLen; omega) (by have := Hnh.out; have := H64.out; omega) (by exact HL1.out.below.size) _ rfl ?_
                       intro g11 cap11 w11 hown11 hgrow11 hat11 hlt11
                       have HO11 := Lib.hid hown11
                       have HG11 := Lib.hid hgrow11
                       clear hown11 hgrow11 hat11 hlt11)
          go_ret
          have hb5 := HA4.out.below
          have hb6 : Below w.heap.size w wa := hb5.grown (below_grown HL1.out.below rfl rfl rfl rfl none) hb5.size (by simp)
          have hb7 : Below w.heap.size w w11 := hb6.grown HG11.out hb6.size (fun q e => by have := (HL1.out.own1.lt q e).1; have := hb5.size; omega)
          have ho := HO11.out
          rw [← cellsN_append, halves, ← Hnh.out] at ho
          rw [← Hnh.out]
          refine ⟨g11, ⟨cap11, rfl⟩, ?_, Nat.le_trans hb5.size (ho.lt g11 rfl).1, hb7⟩
          have hN3 := Num.of_row ho
          show Num w11 g11 (partL (2 ^ k) (turn (k + 1) (trL k (picks L 1 (2 ^ k)))) (at2 (trL k (picks L 0 (2 ^ k)))) (2 ^ k))
          rw [← Hh.out, ← HE.out, ← HO.out]
          exact hN3

theorem rfw_any : ∀ (k : Nat), k ≤ 6 → ∀ (n cap b : Nat) (L : List (Nat × Nat)) (w : World), n = 2 ^ k → L.length = n → Num w b L →
      Calls Try.prog 63 #[.slice (some ⟨b, 0, none⟩) n cap] w fun e w' => ∃ g cap', e = .returned (.slice (some ⟨g, 0, none⟩) n cap') ∧ Num w' g (trL k L) ∧ w.heap.size ≤ g ∧ Below w.heap.size w w'
  | 0, _, n, cap, b, L, w, hn, hL, hN => by
    have hn1 : n = 1 := hn
    subst hn1
    exact rfw_zero cap b L w hL hN
  | k + 1, hk, n, cap, b, L, w, hn, hL, hN => rfw_succ k hk (rfw_any k (by omega)) n cap b L w hn hL hN

end Nu
end Go.Proofs.Ytkkdimhibfpopaa
