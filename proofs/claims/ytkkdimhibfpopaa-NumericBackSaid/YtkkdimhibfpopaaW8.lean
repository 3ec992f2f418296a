/- NumericBack: the walk. -/
import Derived.Test.YtkkdimhibfpopaaW7
namespace Go.Proofs.Ytkkdimhibfpopaa
open Go.ChangeShapes Go.WideShapes Go.ChangeAt Go.RowKit Go.WideMaps Go.Maps
namespace Nu

set_option maxRecDepth 100000 in
set_option maxHeartbeats 8000000 in
theorem back_any (a0 a1 a2 a3 a4 a5 a6 a7 b0 b1 b2 b3 b4 b5 b6 b7 k : Int) (w : World) (hk : 0 ≤ k) (ha : ∀ x ∈ [a0, a1, a2, a3, a4, a5, a6, a7], -32768 ≤ x ∧ x ≤ 32767) (hb : ∀ x ∈ [b0, b1, b2, b3, b4, b5, b6, b7], -32768 ≤ x ∧ x ≤ 32767) :
    Calls Try.prog 7 #[.agg #[.int .i16 a0, .int .i16 a1, .int .i16 a2, .int .i16 a3, .int .i16 a4, .int .i16 a5, .int .i16 a6, .int .i16 a7], .agg #[.int .i16 b0, .int .i16 b1, .int .i16 b2, .int .i16 b3, .int .i16 b4, .int .i16 b5, .int .i16 b6, .int .i16 b7], .int .u8 k] w fun e w' => e = .returned (.bool true) ∧ Below w.heap.size w w' := by
  obtain ⟨r, hr, hr2⟩ := tmod_three k hk
  obtain ⟨n, hn⟩ : ∃ n, n = 2 ^ r := ⟨_, rfl⟩
  have hn4 : n ≤ 4 := by rw [hn]; exact Nat.le_trans (Nat.pow_le_pow_right (by omega) hr2) (by decide)
  have hn1 : 1 ≤ n := by rw [hn]; exact Nat.two_pow_pos r
  have s1 : wrap64 ((2 : Int) ^ r) = (n : Int) := by
    rcases (show r = 0 ∨ r = 1 ∨ r = 2 by omega) with rfl | rfl | rfl <;> subst hn <;> decide +kernel
  have s2 : (n : Int) ≤ 4 := by omega
  have s3 : (0 : Int) ≤ n := by omega
  have s4 : ¬ (n : Int) = 0 := by omega
  obtain ⟨KX, hKX⟩ : ∃ K, K = K8 a0 a1 a2 a3 a4 a5 a6 a7 := ⟨_, rfl⟩
  obtain ⟨KY, hKY⟩ : ∃ K, K = K8 b0 b1 b2 b3 b4 b5 b6 b7 := ⟨_, rfl⟩
  have hXB : ∀ j, -32768 ≤ (KX j).1 ∧ (KX j).1 ≤ 32767 ∧ -32768 ≤ (KX j).2 ∧ (KX j).2 ≤ 32767 := by rw [hKX]; exact K8_bound ha
  have hYB : ∀ j, -32768 ≤ (KY j).1 ∧ (KY j).1 ≤ 32767 ∧ -32768 ≤ (KY j).2 ∧ (KY j).2 ≤ 32767 := by rw [hKY]; exact K8_bound hb
  have hx0 := K8_cells w 69 a0 a1 a2 a3 a4 a5 a6 a7
  have hy0 := K8_cells (w.alloc (.cells #[.int .i16 a0, .int .i16 a1, .int .i16 a2, .int .i16 a3, .int .i16 a4, .int .i16 a5, .int .i16 a6, .int .i16 a7] 69)) 69 b0 b1 b2 b3 b4 b5 b6 b7
  rw [← hKX] at hx0
  rw [← hKY] at hy0
  have hz : (w.alloc (.cells #[.int .i16 a0, .int .i16 a1, .int .i16 a2, .int .i16 a3, .int .i16 a4, .int .i16 a5, .int .i16 a6, .int .i16 a7] 69)).heap.size = w.heap.size + 1 := by simp
  rw [hz] at hy0
  have hx1 := Arr.below hx0 ((Below.refl _ _).alloc (Nat.le_refl _) (.cells #[.int .i16 b0, .int .i16 b1, .int .i16 b2, .int .i16 b3, .int .i16 b4, .int .i16 b5, .int .i16 b6, .int .i16 b7] 69)) (show w.heap.size < (w.alloc (.cells #[.int .i16 a0, .int .i16 a1, .int .i16 a2, .int .i16 a3, .int .i16 a4, .int .i16 a5, .int .i16 a6, .int .i16 a7] 69)).heap.size by rw [hz]; omega)
  obtain ⟨W0, hW0⟩ : ∃ W0, W0 = (w.alloc (.cells #[.int .i16 a0, .int .i16 a1, .int .i16 a2, .int .i16 a3, .int .i16 a4, .int .i16 a5, .int .i16 a6, .int .i16 a7] 69)).alloc (.cells #[.int .i16 b0, .int .i16 b1, .int .i16 b2, .int .i16 b3, .int .i16 b4, .int .i16 b5, .int .i16 b6, .int .i16 b7] 69) := ⟨_, rfl⟩
  have hB0 : Below w.heap.size w W0 := by rw [hW0]; exact ((Below.refl _ w).alloc (Nat.le_refl _) _).alloc (by simp) _
  have hZ0 : W0.heap.size = w.heap.size + 2 := by rw [hW0]; simp
  rw [← hW0] at hx1
  have hy1 : Arr W0 (w.heap.size + 1) KY := by rw [hW0]; exact hy0
  have HX := Lib.hid (show Arr W0 w.heap.size KX from hx1)
  have HY := Lib.hid hy1
  have HB0 := Lib.hid hB0
  have HZ0 := Lib.hid hZ0
  have HW := Lib.hid hW0
  have HXB := Lib.hid hXB
  have HYB := Lib.hid hYB
  have Hn := Lib.hid hn
  have H4 := Lib.hid hn4
  have H1 := Lib.hid hn1
  clear hx0 hy0 hz hx1 hy1 hB0 hZ0 hW0 hXB hYB hn hn4 hn1 hKX hKY ha hb
  obtain ⟨z0, hz0, hz1, hz2, hz3⟩ := info_parts info32
  go_enter Try.func7, Try.ntmps7
  go_upto_region 2 with fail
  rw [← HW.out]
  simp only [s1]
  clear HW s1
  go_region_with (go_at_call 42
                  first
                    | (have hq := HA.out
                       refine (numbers_any n (w.heap.size + 1) 4 KY _ H4.out HYB.out ?_ ?_).mono ?_
                       exact fun j hj => (HY.out.below hq.below (by have := HZ0.out; omega)) j (by have := H4.out; omega)
                       have h1 := hq.below.size; have h2 := HZ0.out; omega
                       rintro e w2 ⟨vB, rfl, hrB, hbB⟩
                       have HB := Lib.hid (hq.step hbB)
                       have HRA := Lib.hid (own_below HRA.out hbB)
                       have HRB := Lib.hid hrB
                       clear hrB hbB hq)
                    | (refine (numbers_any n w.heap.size 4 KX _ H4.out HXB.out ?_ ?_).mono ?_
                       exact fun j hj => HX.out j (by have := H4.out; omega)
                       have h2 := HZ0.out; show w.heap.size < W0.heap.size; omega
                       rintro e w1 ⟨vA, rfl, hrA, hbA⟩
                       have HA : Hid (Aw W0 w1 []) := (Aw.first W0).step hbA
                       have HRA := Lib.hid hrA
                       clear hrA hbA))
  obtain ⟨gA, capA, rfl, -⟩ := own_some HRA.out H1.out
  obtain ⟨gB, capB, rfl, -⟩ := own_some HRB.out H1.out
  obtain ⟨A, hA⟩ : ∃ A, A = numL KX n := ⟨_, rfl⟩
  obtain ⟨B, hB⟩ : ∃ B, B = numL KY n := ⟨_, rfl⟩
  have hAw := (HB.out.add (Num.of_own HRB.out)).add (Num.of_own HRA.out)
  rw [← hA, ← hB] at hAw
  have HAW := Lib.hid hAw
  have HLA : Hid (A.length = n) := by rw [hA]; exact numL_len _ _
  have HLB : Hid (B.length = n) := by rw [hB]; exact numL_len _ _
  have HAA := Lib.hid hA
  have HBB := Lib.hid hB
  clear hAw hA hB HA HB HRA HRB
  go_upto_region 4 with fail
  go_wp2_with fail
  go_loopw [10, 11, 44] (fun su tu v wr => ∃ j : Nat, v = .int .i64 j ∧ j ≤ n ∧ Lw w2 wr su tu j j (sumL j A B) (turnP n j A)) (fun _ _ v _ => 100 - (intOf v).toNat)
  case atStart => exact ⟨0, rfl, Nat.zero_le _, Lw.nil _⟩
  case round =>
    obtain ⟨j, rfl, hj, hlw⟩ := hrel
    have HLW := Lib.hid hlw
    have HJ := Lib.hid hj
    clear hj hlw
    by_cases hlt : j < n
    · obtain ⟨x, hx⟩ : ∃ x, x = at2 A j := ⟨_, rfl⟩
      obtain ⟨y, hy⟩ : ∃ y, y = at2 B j := ⟨_, rfl⟩
      obtain ⟨q, hq⟩ : ∃ q, q = (j + n - 1) % n := ⟨_, rfl⟩
      obtain ⟨z, hz⟩ : ∃ z, z = at2 A q := ⟨_, rfl⟩
      have hqn : q < n := by rw [hq]; exact Nat.mod_lt _ (by have := H1.out; omega)
      obtain ⟨x0, x1⟩ := ((HAW.out.num (gA, A) (by simp)).below rfl HLW.out.below) j x (by rw [hx]; exact at2_at (by rw [HLA.out]; exact hlt))
      obtain ⟨y0, y1⟩ := ((HAW.out.num (gB, B) (by simp)).below rfl HLW.out.below) j y (by rw [hy]; exact at2_at (by rw [HLB.out]; exact hlt))
      dsimp only at x0 x1 y0 y1
      rw [Nat.mul_comm] at x0 x1 y0 y1
      have i2 : (j : Int) < n := by omega
      have i3 : (0 : Int) ≤ j := by omega
      have i4 : (q : Int) < n := by omega
      have i5 : (0 : Int) ≤ q := by omega
      have i6 : ((j : Int) + n - 1).tmod n = (q : Int) := by
        have h1 := H1.out
        have e1 : ((j + n - 1 : Nat) : Int) = (j : Int) + n - 1 := by omega
        rw [Int.tmod_eq_emod_of_nonneg (by omega), hq, ← e1]
        norm_cast
      have HX2 := Lib.hid hx
      have HY2 := Lib.hid hy
      have HZ2 := Lib.hid hz
      have HQ := Lib.hid hq
      have HQN := Lib.hid hqn
      have HLT := Lib.hid hlt
      have HI6 := Lib.hid i6
      clear hx hy hz hq hqn hlt i6
      go_wp2_with fail
      go_region_law ((first
        | (go_simp; go_at_call 13; refine (add_any x.1 x.2 y.1 y.2 _).mono ?_; rintro e w3 ⟨rfl, hb3⟩; clear x0 x1 y0 y1; have HL3 := Lib.hid (HLW.out.step hb3); clear hb3; obtain ⟨m1, hm1⟩ : ∃ m, m = fop .add x.1 y.1 := ⟨_, rfl⟩; obtain ⟨m2, hm2⟩ : ∃ m, m = fop .add x.2 y.2 := ⟨_, rfl⟩; rw [← hm1, ← hm2]; have HM1 := Lib.hid hm1; have HM2 := Lib.hid hm2; clear hm1 hm2; go_simp)
        | (refine step_append_lies _ (by rfl) _ _ _ (by rfl) w2.heap.size 32 z0 (.agg #[.int .u32 0, .int .u32 0]) 2 8 Try.underlying24 hz0 hz1 hz2 hz3 rfl (by decide) _ j _ (by rfl) (HL3.out.own1.alloc _) ⟨w3.heap.size, 0, none⟩ 1 1 [.int .u32 m1, .int .u32 m2] (by rfl) rfl (cell_two_new _ _ _ _) (by simp [Value.oneCell']) (by omega) (by have := H4.out; have := HLT.out; unfold maxLen; omega) (by have := H4.out; have := HLT.out; omega) (by have := HL3.out.below.size; simp; omega) (w3.heap.size + 1) (by simp) ?_; intro g4 cap4 w4 hown4 hgrow4 hat4 hlt4; have HL4 := Lib.hid ((HL3.out.alloc (.cells #[.int .u32 m1, .int .u32 m2] 32)).app1 (L' := sumL (j + 1) A B) (by rw [sumL_snoc, cellsN_append]; show w4.ownsRow _ _ _ _ _ (_ ++ [.int .u32 (fop .add (at2 A j).1 (at2 B j).1), .int .u32 (fop .add (at2 A j).2 (at2 B j).2)]); rw [← HX2.out, ← HY2.out, ← HM1.out, ← HM2.out]; exact hown4) hgrow4 (by simpa using hat4)); clear hown4 hgrow4 hat4 hlt4)))
      all_goals
        simp only [List.getElem_toArray, List.getElem_cons_succ, List.getElem_cons_zero]
        simp only [Act.put, List.setIfInBounds_toArray, List.set_cons_zero, List.set_cons_succ]
        obtain ⟨e0, e1⟩ := ((HAW.out.num (gA, A) (by simp)).below rfl HL4.out.below) q z (by rw [HZ2.out]; exact at2_at (by rw [HLA.out]; exact HQN.out))
        dsimp only at e0 e1
        rw [Nat.mul_comm] at e0 e1
        have i6 := HI6.out
        go_wp2_with (at_builtin; refine wpList_append_lies _ rfl _ _ 24 rfl w2.heap.size 32 z0 (.agg #[.int .u32 0, .int .u32 0]) 2 8 Try.underlying24 hz0 hz1 hz2 hz3 rfl (by decide) _ j _ rfl (HL4.out.own2.alloc (.cells #[.int .u32 z.1, .int .u32 z.2] 32)) ⟨w4.heap.size, 0, none⟩ 1 1 [.int .u32 z.1, .int .u32 z.2] rfl rfl (cell_two_new _ _ _ _) (by simp [Value.oneCell']) (by omega) (by have := H4.out; have := HLT.out; unfold maxLen; omega) (by have := H4.out; have := HLT.out; omega) (by have := HL4.out.below.size; simp; omega) _ rfl ?_
                     intro g5 cap5 w5 hown5 hgrow5 hat5 hlt5
                     have HL5 := Lib.hid ((HL4.out.alloc (.cells #[.int .u32 z.1, .int .u32 z.2] 32)).app2 (M' := turnP n (j + 1) A) (by rw [turnP_snoc, cellsN_append, ← HQ.out, ← HZ2.out]; exact hown5) hgrow5 hat5)
                     clear hown5 hgrow5 hat5 hlt5 e0 e1)
        go_roundw
        case rel => exact ⟨j + 1, congrArg (Value.int .i64) (by omega), by have := HLT.out; omega, HL5.out⟩
        case measure => have := HLT.out; have := H4.out; simp [intOf]; omega
    · have hjn : j = n := by have := HJ.out; omega
      have i2 : ¬ (j : Int) < n := by omega
      have hl := HLW.out
      rw [hjn] at hl
      obtain ⟨gS, capS, rfl, -⟩ := own_some hl.own1 H1.out
      obtain ⟨gT, capT, rfl, -⟩ := own_some hl.own2 H1.out
      obtain ⟨SL, hSL⟩ : ∃ L, L = sumL n A B := ⟨_, rfl⟩
      obtain ⟨TL, hTL⟩ : ∃ L, L = turnL n A := ⟨_, rfl⟩
      have hAw := ((HAW.out.step (X := w2) hl.below).add (Num.of_own hl.own2)).add (Num.of_own hl.own1)
      rw [show turnP n n A = turnL n A from rfl, ← hSL, ← hTL] at hAw
      have HLS : Hid (SL.length = n) := by rw [hSL]; exact sumL_len _ _ _
      have HLT : Hid (TL.length = n) := by rw [hTL]; exact turnL_len _ _
      have HAW2 := Lib.hid hAw
      have HSL := Lib.hid hSL
      have HTL := Lib.hid hTL
      have HR2 : Hid (r ≤ 6) := by show r ≤ 6; omega
      clear hl hAw hSL hTL hjn hlt HLW HJ
      go_upto_region 16 with (first
        | (go_at_call 32
           refine (twiddles_two r n HR2.out Hn.out _).mono ?_
           rintro e w8 ⟨gW, capW, rfl, hn8, -, hb8⟩
           have HA8 := Lib.hid ((HA7.out.step hb8).add hn8)
           clear hn8 hb8)
        | (go_at_call 34
           first
             | (have hq := HA6.out
                refine (transform_fwd r n capT gT TL _ HR2.out Hn.out HLT.out (hq.num (gT, TL) (by simp))).mono ?_
                rintro e w7 ⟨gU, capU, rfl, hn7, -, hb7⟩
                have HA7 := Lib.hid ((hq.step hb7).add hn7)
                clear hn7 hb7 hq)
             | (have hq := HA5.out
                refine (transform_inv r n capP gP (trL r A) _ HR2.out Hn.out (by rw [trL_len, Hn.out]) (hq.num (gP, trL r A) (by simp))).mono ?_
                rintro e w6 ⟨gK, capK, rfl, hn6, -, hb6⟩
                have HA6 := Lib.hid ((hq.step hb6).add hn6)
                clear hn6 hb6 hq)
             | (have hq := HA4.out
                refine (transform_fwd r n capS gS SL _ HR2.out Hn.out HLS.out (hq.num (gS, SL) (by simp))).mono ?_
                rintro e w5 ⟨gR, capR, rfl, hn5, -, hb5⟩
                have HA5 := Lib.hid ((hq.step hb5).add hn5)
                clear hn5 hb5 hq)
             | (have hq := HA3.out
                refine (transform_fwd r n capB gB B _ HR2.out Hn.out HLB.out (hq.num (gB, B) (by simp))).mono ?_
                rintro e w4 ⟨gQ, capQ, rfl, hn4, -, hb4⟩
                have HA4 := Lib.hid ((hq.step hb4).add hn4)
                clear hn4 hb4 hq)
             | (have hq := HAW2.out
                refine (transform_fwd r n capA gA A _ HR2.out Hn.out HLA.out (hq.num (gA, A) (by simp))).mono ?_
                rintro e w3 ⟨gP, capP, rfl, hn3, -, hb3⟩
                have HA3 := Lib.hid ((hq.step hb3).add hn3)
                clear hn3 hb3 hq)))
      clear HAW2 HA3 HA4 HA5 HA6 HA7
      obtain ⟨P, hP⟩ : ∃ L, L = trL r A := ⟨_, rfl⟩
      obtain ⟨Q, hQ⟩ : ∃ L, L = trL r B := ⟨_, rfl⟩
      obtain ⟨WL, hWL⟩ : ∃ L, L = facL (firstW r) n := ⟨_, rfl⟩
      have h8 := HA8.out
      rw [← hP, ← hQ, ← hWL] at h8
      have HA8 := Lib.hid h8
      have HLP : Hid (P.length = n) := by rw [hP, trL_len, Hn.out]; exact rfl
      have HLQ : Hid (Q.length = n) := by rw [hQ, trL_len, Hn.out]; exact rfl
      have HLW : Hid (WL.length = n) := by rw [hWL]; exact facL_len _ _
      have HPP := Lib.hid hP
      have HQQ := Lib.hid hQ
      have HWW := Lib.hid hWL
      have HR3 := Lib.hid hr2
      clear h8 hP hQ hWL
      have hmax : ∀ w, (Builtin.max_ #[48, 48, 48, 48, 48, 48] 48 #[.int .i64 0, .int .i64 0, .int .i64 0, .int .i64 0, .int .i64 0, .int .i64 0]).run Try.prog w = .ok (.int .i64 0) w := fun w => by kernel_rfl
      go_upto_region 18 with (first
        | (go_at_call 43
           refine (same_yes n gK gA capK capA (invL r P) A _ ?_ HLA.out ?_ ?_ ?_ ?_).mono ?_
           unfold invL; rw [List.length_map, trL_len, Hn.out]
           have := H4.out; omega
           exact HA8.out.num (gK, invL r P) (by simp)
           exact HA8.out.num (gA, A) (by simp)
           rw [HPP.out, HAA.out]; exact back_eq r n HR3.out Hn.out KX
           rintro e w9 ⟨rfl, hb9⟩
           have HA9 := Lib.hid (HA8.out.step hb9)
           clear hb9))
      clear hmax
      go_wp2_with fail
      go_loopw [26, 12, 135] (fun su tu v wr => ∃ j : Nat, v = .int .i64 j ∧ j ≤ n ∧ Lw w9 wr su tu j j (sumL j P Q) (shiftL j WL P)) (fun _ _ v _ => 100 - (intOf v).toNat)
      case atStart => exact ⟨0, rfl, Nat.zero_le _, Lw.nil _⟩
      case round =>
        rename World => W3
        obtain ⟨j, rfl, hj, hlw⟩ := hrel
        have HLW2 := Lib.hid hlw
        have HJ := Lib.hid hj
        clear hj hlw
        by_cases hlt : j < n
        · obtain ⟨x, hx⟩ : ∃ x, x = at2 P j := ⟨_, rfl⟩
          obtain ⟨y, hy⟩ : ∃ y, y = at2 Q j := ⟨_, rfl⟩
          obtain ⟨t, ht⟩ : ∃ t, t = at2 WL j := ⟨_, rfl⟩
          obtain ⟨x0, x1⟩ := ((HA9.out.num (gP, P) (by simp)).below rfl HLW2.out.below) j x (by rw [hx]; exact at2_at (by rw [HLP.out]; exact hlt))
          obtain ⟨y0, y1⟩ := ((HA9.out.num (gQ, Q) (by simp)).below rfl HLW2.out.below) j y (by rw [hy]; exact at2_at (by rw [HLQ.out]; exact hlt))
          dsimp only at x0 x1 y0 y1
          rw [Nat.mul_comm] at x0 x1 y0 y1
          have i2 : (j : Int) < n := by omega
          have i3 : (0 : Int) ≤ j := by omega
          have HX2 := Lib.hid hx
          have HY2 := Lib.hid hy
          have HT2 := Lib.hid ht
          have HLT2 := Lib.hid hlt
          clear hx hy ht hlt
          go_wp2_with fail
          go_region_law ((first
          | (go_simp; go_at_call 13; refine (add_any x.1 x.2 y.1 y.2 _).mono ?_; rintro e w10 ⟨rfl, hb3⟩; clear x0 x1 y0 y1; have HL10 := Lib.hid (HLW2.out.step hb3); clear hb3; obtain ⟨m1, hm1⟩ : ∃ m, m = fop .add x.1 y.1 := ⟨_, rfl⟩; obtain ⟨m2, hm2⟩ : ∃ m, m = fop .add x.2 y.2 := ⟨_, rfl⟩; rw [← hm1, ← hm2]; have HM1 := Lib.hid hm1; have HM2 := Lib.hid hm2; clear hm1 hm2; go_simp)
          | (refine step_append_lies _ (by rfl) _ _ _ (by rfl) w9.heap.size 32 z0 (.agg #[.int .u32 0, .int .u32 0]) 2 8 Try.underlying24 hz0 hz1 hz2 hz3 rfl (by decide) _ j _ (by rfl) (HL10.out.own1.alloc _) ⟨w10.heap.size, 0, none⟩ 1 1 [.int .u32 m1, .int .u32 m2] (by rfl) rfl (cell_two_new _ _ _ _) (by simp [Value.oneCell']) (by omega) (by have := H4.out; have := HLT2.out; unfold maxLen; omega) (by have := H4.out; have := HLT2.out; omega) (by have := HL10.out.below.size; simp; omega) (w10.heap.size + 1) (by simp) ?_; intro g4 cap4 w11 hown4 hgrow4 hat4 hlt4; have HL11 := Lib.hid ((HL10.out.alloc (.cells #[.int .u32 m1, .int .u32 m2] 32)).app1 (L' := sumL (j + 1) P Q) (by rw [sumL_snoc, cellsN_append]; show w11.ownsRow _ _ _ _ _ (_ ++ [.int .u32 (fop .add (at2 P j).1 (at2 Q j).1), .int .u32 (fop .add (at2 P j).2 (at2 Q j).2)]); rw [← HX2.out, ← HY2.out, ← HM1.out, ← HM2.out]; exact hown4) hgrow4 (by simpa using hat4)); clear hown4 hgrow4 hat4 hlt4 HM1 HM2)))
          all_goals
            simp only [List.getElem_toArray, List.getElem_cons_succ, List.getElem_cons_zero]
            simp only [Act.put, List.setIfInBounds_toArray, List.set_cons_zero, List.set_cons_succ]
            obtain ⟨x0, x1⟩ := ((HA9.out.num (gP, P) (by simp)).below rfl HL11.out.below) j x (by rw [HX2.out]; exact at2_at (by rw [HLP.out]; exact HLT2.out))
            obtain ⟨t0, t1⟩ := ((HA9.out.num (gW, WL) (by simp)).below rfl HL11.out.below) j t (by rw [HT2.out]; exact at2_at (by rw [HLW.out]; exact HLT2.out))
            dsimp only at x0 x1 t0 t1
            rw [Nat.mul_comm] at x0 x1 t0 t1
            go_wp2_with fail
            go_region_law ((first
          | (go_simp; go_at_call 15; refine (mul_any t.1 t.2 x.1 x.2 _).mono ?_; rintro e w12 ⟨rfl, hb3⟩; clear t0 t1 x0 x1; have HL12 := Lib.hid (HL11.out.step hb3); clear hb3; obtain ⟨m1, hm1⟩ : ∃ m, m = (mulW (t.1, t.2) (x.1, x.2)).1 := ⟨_, rfl⟩; obtain ⟨m2, hm2⟩ : ∃ m, m = (mulW (t.1, t.2) (x.1, x.2)).2 := ⟨_, rfl⟩; rw [show mulW (t.1, t.2) (x.1, x.2) = (m1, m2) by rw [hm1, hm2]]; unfold num; have HM1 := Lib.hid hm1; have HM2 := Lib.hid hm2; clear hm1 hm2; go_simp)
          | (refine step_append_lies _ (by rfl) _ _ _ (by rfl) w9.heap.size 32 z0 (.agg #[.int .u32 0, .int .u32 0]) 2 8 Try.underlying24 hz0 hz1 hz2 hz3 rfl (by decide) _ j _ (by rfl) (HL12.out.own2.alloc _) ⟨w12.heap.size, 0, none⟩ 1 1 [.int .u32 m1, .int .u32 m2] (by rfl) rfl (cell_two_new _ _ _ _) (by simp [Value.oneCell']) (by omega) (by have := H4.out; have := HLT2.out; unfold maxLen; omega) (by have := H4.out; have := HLT2.out; omega) (by have := HL12.out.below.size; simp; omega) (w12.heap.size + 1) (by simp) ?_; intro g4 cap4 w13 hown4 hgrow4 hat4 hlt4; have HL13 := Lib.hid ((HL12.out.alloc (.cells #[.int .u32 m1, .int .u32 m2] 32)).app2 (M' := shiftL (j + 1) WL P) (by rw [shiftL_snoc, cellsN_append]; show w13.ownsRow _ _ _ _ _ (_ ++ [.int .u32 (mulW (at2 WL j) (at2 P j)).1, .int .u32 (mulW (at2 WL j) (at2 P j)).2]); rw [← HT2.out, ← HX2.out, ← HM1.out, ← HM2.out]; exact hown4) hgrow4 (by simpa using hat4)); clear hown4 hgrow4 hat4 hlt4 HM1 HM2)))
            all_goals
              simp only [List.getElem_toArray, List.getElem_cons_succ, List.getElem_cons_zero]
              simp only [Act.put, List.setIfInBounds_toArray, List.set_cons_zero, List.set_cons_succ]
              go_wp2_with fail
              go_roundw
              case rel => exact ⟨j + 1, congrArg (Value.int .i64) (by omega), by have := HLT2.out; omega, HL13.out⟩
              case measure => have := HLT2.out; have := H4.out; simp [intOf]; omega
        · have hjn : j = n := by have := HJ.out; omega
          have i2 : ¬ (j : Int) < n := by omega
          have hl := HLW2.out
          rw [hjn] at hl
          obtain ⟨gY, capY, rfl, -⟩ := own_some hl.own1 H1.out
          obtain ⟨gZ, capZ, rfl, -⟩ := own_some hl.own2 H1.out
          obtain ⟨YL, hYL⟩ : ∃ L, L = sumL n P Q := ⟨_, rfl⟩
          obtain ⟨ZL, hZL⟩ : ∃ L, L = shiftL n WL P := ⟨_, rfl⟩
          have hAw := ((HA9.out.step (X := w9) hl.below).add (Num.of_own hl.own2)).add (Num.of_own hl.own1)
          rw [← hYL, ← hZL] at hAw
          have HLY : Hid (YL.length = n) := by rw [hYL]; exact sumL_len _ _ _
          have HLZ : Hid (ZL.length = n) := by rw [hZL]; exact shiftL_len _ _ _
          have HA10 := Lib.hid hAw
          have HYL := Lib.hid hYL
          have HZL := Lib.hid hZL
          have hXC : Arr W3 w.heap.size KX := HX.out.below hAw.below (by have := HZ0.out; omega)
          have hXl : w.heap.size < W3.heap.size := by have h1 := hAw.below.size; have h2 := HZ0.out; omega
          have HXC := Lib.hid hXC
          have HXL := Lib.hid hXl
          clear hl hAw hYL hZL hjn hlt HLW2 HJ hXC hXl
          obtain ⟨y0, hy0, hy1, hy2, hy3⟩ := info_parts info22
          have htb := tobits_run
          have hsi : (Try.prog.underlying 3).isSome = true := by kernel_rfl
          have hsd : Try.prog.underlying 29 = some (.float .f32) := by kernel_rfl
          have hcv : ∀ (m : Int) (w : World), (convert 3 29 (.int .i64 m)).run Try.prog w = .ok (.float .f32 (floatOfInt .f32 m)) w := fun m w => run_convert_int_float w _ _ _ _ _ hsi hsd
          clear hsi hsd
          go_wp2_with fail
          go_loopw [28, 164] (fun out v wr => ∃ j : Nat, v = .int .i64 j ∧ j ≤ n ∧ Below W3.heap.size W3 wr ∧ wr.ownsRow W3.heap.size 22 1 out j ((smpL KX j).map u32v)) (fun _ v _ => 100 - (intOf v).toNat)
          case atStart => exact ⟨0, rfl, Nat.zero_le _, Below.refl _ _, World.ownsRow_nil _ _ _ _⟩
          case round =>
            rename World => W4
            obtain ⟨j, rfl, hj, hbl, hown⟩ := hrel
            have HBL := Lib.hid hbl
            have HOW := Lib.hid hown
            have HJ := Lib.hid hj
            clear hj hbl hown
            by_cases hlt : j < n
            · obtain ⟨c, hc⟩ : ∃ c, c = (KX j).1 := ⟨_, rfl⟩
              obtain ⟨c0, -⟩ := (HXC.out.below HBL.out HXL.out) j (by have := H4.out; omega)
              have hcb := HXB.out j
              rw [← hc] at c0 hcb
              obtain ⟨fl, hfl⟩ : ∃ fl, fl = floatOfInt .f32 (c.tmod 1001) := ⟨_, rfl⟩
              have i2 : (j : Int) < n := by omega
              have i3 : (0 : Int) ≤ j := by omega
              have i4 : (j : Int) < 4 := by omega
              have HC := Lib.hid hc
              have HCB := Lib.hid hcb
              have HFL := Lib.hid hfl
              have HLT2 := Lib.hid hlt
              clear hc hcb hfl hlt
              go_wp2_with (first
                | (go_at_call 40; refine (small_any c _ HCB.out.1 HCB.out.2.1).mono ?_; rintro e w' ⟨rfl, rfl⟩)
                | (at_builtin; refine wpList_append_lies _ rfl _ _ 54 rfl W3.heap.size 22 y0 (.int .u32 0) 1 4 Try.underlying54 hy0 hy1 hy2 hy3 rfl (by decide) _ j _ rfl (HOW.out.alloc (.cells #[.int .u32 (floatOfInt .f32 (c.tmod 1001))] 22)) ⟨w'.heap.size, 0, none⟩ 1 1 [.int .u32 (floatOfInt .f32 (c.tmod 1001))] rfl rfl (cell_one_new _ _ _) (by simp [Value.oneCell']) (by omega) (by have := H4.out; have := HLT2.out; unfold maxLen; omega) (by have := H4.out; have := HLT2.out; omega) (by have := HBL.out.size; simp; omega) _ rfl ?_
                   intro g5 cap5 w5 hown5 hgrow5 hat5 hlt5
                   have HO5 := Lib.hid hown5
                   have HG5 := Lib.hid hgrow5
                   clear hown5 hgrow5 hat5 hlt5))
              have hF5 : Below W3.heap.size W3 w5 := (HBL.out.alloc HBL.out.size _).grown HG5.out (by have := HBL.out.size; simp; omega) (fun k e => (HOW.out.lt k e).1)
              have hO5 : w5.ownsRow W3.heap.size 22 1 (.slice (some ⟨g5, 0, none⟩) (j + 1) cap5) (j + 1) ((smpL KX (j + 1)).map u32v) := by
                rw [smpL_snoc, List.map_append, ← HC.out]
                exact HO5.out
              have HF5 := Lib.hid hF5
              have HO6 := Lib.hid hO5
              clear hF5 hO5
              go_roundw
              case rel => exact ⟨j + 1, congrArg (Value.int .i64) (by omega), by have := HLT2.out; omega, HF5.out, HO6.out⟩
              case measure => have := HLT2.out; have := H4.out; simp [intOf]; omega
            · have hjn : j = n := by have := HJ.out; omega
              have i2 : ¬ (j : Int) < n := by omega
              have hl := HOW.out
              rw [hjn] at hl
              obtain ⟨gM, capM, rfl, -⟩ := own_some1 hl H1.out
              obtain ⟨S, hS⟩ : ∃ S, S = smpL KX n := ⟨_, rfl⟩
              have hM := Wrd.of_own hl
              rw [← hS] at hM
              have HM := Lib.hid hM
              have HSS := Lib.hid hS
              have HLS2 : Hid (S.length = n) := by rw [hS]; exact smpL_len _ _
              have HA11 := Lib.hid (HA10.out.step (X := W3) HBL.out)
              clear hl hM hS hjn hlt HOW HJ HBL hcv htb
              go_wp2_with fail
              go_loopw [29, 179] (fun out v wr => ∃ j : Nat, v = .int .i64 j ∧ j ≤ n ∧ Below W4.heap.size W4 wr ∧ wr.ownsRow W4.heap.size 22 1 out j ((laterP n j S).map u32v)) (fun _ v _ => 100 - (intOf v).toNat)
              case atStart => exact ⟨0, rfl, Nat.zero_le _, Below.refl _ _, World.ownsRow_nil _ _ _ _⟩
              case round =>
                rename World => W5
                obtain ⟨j, rfl, hj, hbl, hown⟩ := hrel
                have HBL := Lib.hid hbl
                have HOW := Lib.hid hown
                have HJ := Lib.hid hj
                clear hj hbl hown
                by_cases hlt : j < n
                · obtain ⟨q, hq⟩ : ∃ q, q = (j + n - 1) % n := ⟨_, rfl⟩
                  obtain ⟨z, hz⟩ : ∃ z, z = at1 S q := ⟨_, rfl⟩
                  have hqn : q < n := by rw [hq]; exact Nat.mod_lt _ (by have := H1.out; omega)
                  have e0 := (HM.out.below rfl HBL.out) q z (by rw [hz]; exact at1_at (by rw [HLS2.out]; exact hqn))
                  have i2 : (j : Int) < n := by omega
                  have i3 : (0 : Int) ≤ j := by omega
                  have i4 : (q : Int) < n := by omega
                  have i5 : (0 : Int) ≤ q := by omega
                  have i6 : ((j : Int) + n - 1).tmod n = (q : Int) := by
                    have h1 := H1.out
                    have e1 : ((j + n - 1 : Nat) : Int) = (j : Int) + n - 1 := by omega
                    rw [Int.tmod_eq_emod_of_nonneg (by omega), hq, ← e1]
                    norm_cast
                  have HQ2 := Lib.hid hq
                  have HZ2 := Lib.hid hz
                  have HLT2 := Lib.hid hlt
                  clear hq hz hqn hlt
                  go_wp2_with (at_builtin; refine wpList_append_lies _ rfl _ _ 54 rfl W4.heap.size 22 y0 (.int .u32 0) 1 4 Try.underlying54 hy0 hy1 hy2 hy3 rfl (by decide) _ j _ rfl (HOW.out.alloc (.cells #[.int .u32 z] 22)) ⟨W5.heap.size, 0, none⟩ 1 1 [.int .u32 z] rfl rfl (cell_one_new _ _ _) (by simp [Value.oneCell']) (by omega) (by have := H4.out; have := HLT2.out; unfold maxLen; omega) (by have := H4.out; have := HLT2.out; omega) (by have := HBL.out.size; simp; omega) _ rfl ?_
                               intro g5 cap5 w5 hown5 hgrow5 hat5 hlt5
                               have HO5 := Lib.hid hown5
                               have HG5 := Lib.hid hgrow5
                               clear hown5 hgrow5 hat5 hlt5)
                  have hF5 : Below W4.heap.size W4 w5 := (HBL.out.alloc HBL.out.size _).grown HG5.out (by have := HBL.out.size; simp; omega) (fun k e => (HOW.out.lt k e).1)
                  have hO5 : w5.ownsRow W4.heap.size 22 1 (.slice (some ⟨g5, 0, none⟩) (j + 1) cap5) (j + 1) ((laterP n (j + 1) S).map u32v) := by
                    rw [laterP_snoc, List.map_append, ← HQ2.out, ← HZ2.out]
                    exact HO5.out
                  have HF5 := Lib.hid hF5
                  have HO6 := Lib.hid hO5
                  clear hF5 hO5
                  go_roundw
                  case rel => exact ⟨j + 1, congrArg (Value.int .i64) (by omega), by have := HLT2.out; omega, HF5.out, HO6.out⟩
                  case measure => have := HLT2.out; have := H4.out; simp [intOf]; omega
                · have hjn : j = n := by have := HJ.out; omega
                  have i2 : ¬ (j : Int) < n := by omega
                  have hl := HOW.out
                  rw [hjn] at hl
                  obtain ⟨gN, capN, rfl, -⟩ := own_some1 hl H1.out
                  obtain ⟨L, hL⟩ : ∃ L, L = laterL n S := ⟨_, rfl⟩
                  have hNN := Wrd.of_own hl
                  rw [show laterP n n S = laterL n S from rfl, ← hL] at hNN
                  have HM2 := Lib.hid (HM.out.below rfl HBL.out)
                  have HN2 := Lib.hid hNN
                  have HLL := Lib.hid hL
                  have HLL2 : Hid (L.length = n) := by rw [hL]; exact laterL_len _ _
                  have HA12 := Lib.hid (HA11.out.step (X := W4) HBL.out)
                  clear hl hNN hL hjn hlt HOW HJ HBL
                  have HP0 : Hid (0 < n / 2 + 1) := by show 0 < n / 2 + 1; omega
                  go_upto_region 38 with (first
                    | (go_at_call 36
                       first
                         | (have hq := HV1.out
                            refine (spectrum_any r n capN gN L _ HR2.out Hn.out HLL2.out (HN2.out.below rfl HB14.out)).mono ?_
                            rintro e w15 ⟨vv, rfl, hv, hb15⟩
                            have HB15 := Lib.hid hb15
                            have HV1 := Lib.hid (own_below hq hb15)
                            have HV2 := Lib.hid hv
                            clear hb15 hv hq)
                         | (refine (spectrum_any r n capM gM S _ HR2.out Hn.out HLS2.out HM2.out).mono ?_
                            rintro e w14 ⟨vu, rfl, hv, hb14⟩
                            have HB14 := Lib.hid hb14
                            have HV1 := Lib.hid hv
                            clear hb14 hv)))
                  have HA15 := Lib.hid ((HA12.out.step (X := W5) HB14.out).step (X := w14) HB15.out)
                  have hv1 := HV1.out
                  have hv2 := HV2.out
                  obtain ⟨gv1, cv1, rfl, -⟩ := own_some1 hv1 HP0.out
                  obtain ⟨gv2, cv2, rfl, -⟩ := own_some1 hv2 HP0.out
                  obtain ⟨SP, hSP⟩ : ∃ L, L = specT (trL r (rl S)) (n / 2 + 1) := ⟨_, rfl⟩
                  have hwv1 := Wrd.of_own hv1
                  have hwv2 := Wrd.of_own hv2
                  rw [HLL.out, HSS.out, ← spec_eq r n HR3.out Hn.out KX, ← HSS.out, ← hSP] at hwv2
                  rw [← hSP] at hwv1
                  have HW1 := Lib.hid hwv1
                  have HW2 := Lib.hid hwv2
                  have HLSP : Hid (SP.length = n / 2 + 1) := by rw [hSP]; exact specT_len _ _
                  obtain ⟨h, hh⟩ : ∃ h, h = n / 2 + 1 := ⟨_, rfl⟩
                  rw [← hh] at HLSP ⊢
                  have HH : Hid (h ≤ 100) := by show h ≤ 100; have := H4.out; omega
                  clear hv1 hv2 hwv1 hwv2 hSP hh HV1 HV2 HP0
                  go_wp2_with (first
                    | (go_at_call 27
                       refine (awake_true _).mono ?_
                       rintro e w19 ⟨rfl, hb19⟩
                       have HA19 := Lib.hid (HA18.out.step hb19)
                       clear hb19)
                    | (go_at_call 38
                       refine (equal32_yes h gv1 gv2 cv1 cv2 SP _ HLSP.out HH.out HW1b.out HW2b.out).mono ?_
                       rintro e w18 ⟨rfl, hb18⟩
                       have HA18 := Lib.hid (HA17.out.step hb18)
                       clear hb18)
                    | (go_at_call 43
                       first
                         | (have hq := HA16.out
                            refine (same_yes n gU gZ capU capZ (trL r TL) ZL _ ?_ HLZ.out ?_ ?_ ?_ ?_).mono ?_
                            rw [trL_len, Hn.out]
                            have := H4.out; omega
                            exact hq.num (gU, trL r TL) (by simp)
                            exact hq.num (gZ, ZL) (by simp)
                            rw [HTL.out, HZL.out, HAA.out, HWW.out, HPP.out, HAA.out]; exact shift_eq r n HR3.out Hn.out KX
                            rintro e w17 ⟨rfl, hb17⟩
                            have HA17 := Lib.hid (hq.step hb17)
                            have HW1b := Lib.hid (HW1b.out.below rfl hb17)
                            have HW2b := Lib.hid (HW2b.out.below rfl hb17)
                            clear hb17 hq)
                         | (have hq := HA15.out
                            refine (same_yes n gR gY capR capY (trL r SL) YL _ ?_ HLY.out ?_ ?_ ?_ ?_).mono ?_
                            rw [trL_len, Hn.out]
                            have := H4.out; omega
                            exact hq.num (gR, trL r SL) (by simp)
                            exact hq.num (gY, YL) (by simp)
                            rw [HSL.out, HYL.out, HPP.out, HQQ.out, HAA.out, HBB.out]; exact sum_eq r n HR3.out Hn.out KX KY
                            rintro e w16 ⟨rfl, hb16⟩
                            have HA16 := Lib.hid (hq.step hb16)
                            have HW1b := Lib.hid (HW1.out.below rfl hb16)
                            have HW2b := Lib.hid (HW2.out.below rfl hb16)
                            clear hb16 hq)))
                  go_ret
                  exact ⟨rfl, HB0.out.grown (below_grown HA19.out.below rfl rfl rfl rfl none) HB0.out.size (by simp)⟩

end Nu
end Go.Proofs.Ytkkdimhibfpopaa
