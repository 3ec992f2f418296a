/- Contracts: the reference's factors. -/
import Derived.Test.YtkkdimhibfpopaaX2
namespace Go.Proofs.Ytkkdimhibfpopaa
open Go.ChangeShapes Go.WideShapes Go.ChangeAt Go.RowKit Go.WideMaps Go.Maps
namespace Nu

attribute [local go_sem] run_fneg32

theorem rof_to (a b x y : Nat) (h1 : canon a = x) (h2 : canon b = y) (w : World) : Calls Try.prog 24 #[.float .f32 a, .float .f32 b] w fun e w' => e = .returned (.agg #[.int .u32 x, .int .u32 y]) ∧ Below w.heap.size w w' := by
  have := rof_any a b w
  rw [h1, h2] at this
  exact this

theorem Num.of_row {W : World} {base g n cap : Nat} {t : TypeId} {L : List (Nat × Nat)} (h : W.ownsRow base t 2 (.slice (some ⟨g, 0, none⟩) n cap) n (cellsN L)) : Num W g L := by
  have hl := h.1
  rw [cellsN_len] at hl
  intro j x hx
  have hj : j < L.length := (List.getElem?_eq_some_iff.1 hx).1
  obtain ⟨a, b⟩ := cellsN_at L j x hx
  exact ⟨(h.cellAt (2 * j) (by omega)).trans a, (h.cellAt (2 * j + 1) (by omega)).trans b⟩

set_option maxRecDepth 100000 in
set_option maxHeartbeats 4000000 in
theorem rtwiddles1 (w : World) : Calls Try.prog 33 #[.int .i64 1] w fun e w' => ∃ g cap, e = .returned (.tuple #[.slice (some ⟨g, 0, none⟩) 1 cap, .int .i64 0]) ∧ Num w' g (facL (firstW 0) 1) ∧ w.heap.size ≤ g ∧ Below w.heap.size w w' := by
  have k1 : ∀ w, (convert 86 29 (.float .f64 4607182418800017408)).run Try.prog w = .ok (.float .f32 1065353216) w := fun w => run_convert_float_float w _ _ _ _ _ _ (by kernel_rfl) (by kernel_rfl) (by decide +kernel)
  have k2 : ∀ w, (convert 86 29 (.float .f64 0)).run Try.prog w = .ok (.float .f32 0) w := fun w => run_convert_float_float w _ _ _ _ _ _ (by kernel_rfl) (by kernel_rfl) (by decide +kernel)
  have h11 : canon 1065353216 = 1065353216 := by decide
  have h10 : canon 0 = 0 := by decide
  have H1 := Lib.hid (And.intro h11 h10)
  clear h11 h10
  obtain ⟨i0, hi0, hz0, hz1, hz2⟩ := info_parts info38
  go_enter Try.func33, Try.ntmps33
  go_wp2_with (go_at_call 59; refine (points_yes 1 (by unfold Pt; omega) _).mono ?_; rintro e w' ⟨rfl, rfl⟩)
  go_loopw [4, 5, 6] (fun c d i wr => wr = w ∧ ((c = .float .f64 4607182418800017408 ∧ d = .float .f64 0 ∧ i = .int .i64 8))) (fun _ _ v _ => 300 - (intOf v).toNat)
  case atStart => exact ⟨rfl, ⟨rfl, rfl, rfl⟩⟩
  case round =>
    obtain ⟨rfl, hr⟩ := hrel
    rename World => wq
    rcases hr with ⟨rfl, rfl, rfl⟩
    · skip
      go_wp2_with (first
        | (go_at_call 24
           first
             | (have hq := HB2.out
                refine (rof_to 1065353216 (Op.negFloat .f32 0) (firstW 0).1 (firstW 0).2 (by decide) (by decide) _).mono ?_
                rintro e w3 ⟨rfl, hb3⟩
                have HB3 := Lib.hid hb3
                clear hb3 hq)
             | (refine (rof_to 1065353216 0 1065353216 0 H1.out.1 H1.out.2 _).mono ?_
                rintro e w2 ⟨rfl, hb2⟩
                have HB2 := Lib.hid hb2
                clear hb2)))
      obtain ⟨x, hx⟩ : ∃ x, x = (firstW 0).1 := ⟨_, rfl⟩
      obtain ⟨y, hy⟩ : ∃ y, y = (firstW 0).2 := ⟨_, rfl⟩
      rw [← hx, ← hy]
      have HX := Lib.hid hx
      have HY := Lib.hid hy
      clear hx hy
      have hA2 : At wq (w2.alloc (.cells #[.int .u32 1065353216, .int .u32 0] 38)) [] := (At.mk HB2.out trivial : At wq w2 []).alloc _
      have hA3 := (hA2.step HB3.out).two (.int .u32 x) (.int .u32 y) 38 _ rfl
      have hO2 := own_one w2 w2.heap.size (Nat.le_refl _) (.int .u32 1065353216) (.int .u32 0) 38
      have hO3 := (own_below hO2 HB3.out).alloc (.cells #[.int .u32 x, .int .u32 y] 38)
      have hz : w2.heap.size < w3.heap.size := by have := HB3.out.size; simp at this; omega
      have hw : wq.heap.size ≤ w2.heap.size := HB2.out.size
      obtain ⟨B, hB⟩ : ∃ B, B = w3.heap.size := ⟨_, rfl⟩
      obtain ⟨R, hR⟩ : ∃ R, R = w2.heap.size := ⟨_, rfl⟩
      obtain ⟨W, hW⟩ : ∃ W, W = w3.alloc (.cells #[.int .u32 x, .int .u32 y] 38) := ⟨_, rfl⟩
      rw [← hW, ← hB] at hA3
      rw [← hW, ← hR] at hO3
      rw [← hB, ← hR] at hz
      rw [← hR] at hw
      rw [← hW, ← hB, ← hR]
      have HA := Lib.hid hA3
      have HO := Lib.hid hO3
      have HZ := Lib.hid hz
      have HWL := Lib.hid hw
      clear hA2 hA3 hO2 hO3 hz hB hR hW hw HB2 HB3
      go_loopw [9, 11] (fun out v wr => ∃ j g cap : Nat, out = .slice (some ⟨g, 0, none⟩) (j + 1) cap ∧ v = .int .i64 ((j + 1 : Nat) : Int) ∧ j + 1 ≤ 1 ∧ g ≠ B ∧ wr.ownsRow R 38 2 (.slice (some ⟨g, 0, none⟩) (j + 1) cap) (j + 1) (cellsN (facL (x, y) (j + 1))) ∧ R ≤ wr.heap.size ∧ At wq wr [(B, 0, .int .u32 x), (B, 1, .int .u32 y)]) (fun _ v _ => 200 - (intOf v).toNat)
      case atStart => exact ⟨0, R, 1, rfl, rfl, by omega, by have := HZ.out; omega, HO.out, Nat.le_of_lt (HO.out.lt R rfl).2, HA.out⟩
      case round =>
        obtain ⟨j, g, cap, rfl, rfl, hj, hgB, hown, hsz, hA⟩ := hrel
        have HO := Lib.hid hown
        have HA := Lib.hid hA
        have HS := Lib.hid hsz
        have HG := Lib.hid hgB
        clear hown hA hsz hgB
        by_cases hlt : j + 1 < 1
        · obtain ⟨u, hu⟩ : ∃ u, u = fac (x, y) j := ⟨_, rfl⟩
          obtain ⟨n0, n1⟩ := Num.of_row HO.out j u (by rw [hu]; exact facL_at _ _ _ (by omega))
          rw [Nat.mul_comm] at n0 n1
          obtain ⟨⟨c0, -⟩, ⟨c1, -⟩, -⟩ := HA.out.mem
          have HU := Lib.hid hu
          clear hu
          obtain ⟨q, hq⟩ : ∃ q, q = j + 1 := ⟨_, rfl⟩
          have i1 : (q : Int) < 1 := by omega
          have i2 : (0 : Int) ≤ q := by omega
          have i3 : IntKind.i64.wrap ((q : Int) - 1) = (j : Int) := by rw [show (q : Int) - 1 = (j : Int) by omega]; exact IntWalk.i64_in _ (by omega)
          have i4 : (j : Int) < q := by omega
          have i5 : (0 : Int) ≤ j := by omega
          have i6 : IntKind.i64.wrap ((q : Int) + 1) = ((q + 1 : Nat) : Int) := by rw [show (q : Int) + 1 = ((q + 1 : Nat) : Int) by omega]; exact IntWalk.i64_in _ (by omega)
          rw [← hq] at HO ⊢
          have HQ := Lib.hid hq
          have HLT := Lib.hid hlt
          clear hq hlt hj
          go_wp2_with fail
          go_region_law ((first
            | (go_simp; go_at_call 21; refine (rmul_any u.1 u.2 x y _).mono ?_; rintro e w4 ⟨rfl, hb4⟩; clear n0 n1 c0 c1; have HO3 := Lib.hid (own_below HO.out hb4); have HA3 := Lib.hid (HA.out.step hb4); have HS3 : Hid (R ≤ w4.heap.size) := (Nat.le_trans HS.out hb4.size); clear hb4; obtain ⟨m, hm⟩ : ∃ m, m = mulW (u.1, u.2) (x, y) := ⟨_, rfl⟩; rw [← hm]; have HM := Lib.hid hm; clear hm; unfold num; go_simp)
            | (refine step_append_lies _ (by rfl) _ _ _ (by rfl) R 38 i0 (.agg #[.int .u32 0, .int .u32 0]) 2 8 Try.underlying27 hi0 hz0 hz1 hz2 rfl (by decide) _ q _ (by rfl) (HO3.out.alloc _) ⟨w4.heap.size, 0, none⟩ 1 1 [.int .u32 m.1, .int .u32 m.2] (by rfl) rfl (cell_two_new _ _ _ _) (by simp [Value.oneCell']) (by omega) (by unfold maxLen; omega) (by omega) (by have := HS3.out; simp; omega) (w4.heap.size + 1) (by simp) ?_; intro g4 cap4 w5 hown4 hgrow4 hat4 hlt4; have HO4 := Lib.hid hown4; have HG4 := Lib.hid hgrow4; have hat : g = g4 ∨ g4 = w4.heap.size + 1 := (by simpa [Value.ownBlock] using hat4); have HAT := Lib.hid hat; clear hat hown4 hgrow4 hat4 hlt4)))
          all_goals
            have hBs : B < w4.heap.size := cell_lt HA3.out.mem.1.1
            have hgw : wq.heap.size ≤ g := Nat.le_trans HWL.out ((HO3.out.lt) g rfl).1
            have hA4 : At wq w5 [(B, 0, .int .u32 x), (B, 1, .int .u32 y)] := (HA3.out.alloc _).grown HG4.out (fun k e => by have e2 : g = k := Option.some.inj e; omega) (fun z hz e => by
              have hb : z.1 = B := by simp at hz; rcases hz with rfl | rfl <;> rfl
              have e2 : z.1 = g := Option.some.inj e
              have := HG.out
              omega)
            have hO4 : w5.ownsRow R 38 2 (.slice (some ⟨g4, 0, none⟩) (q + 1) cap4) (q + 1) (cellsN (facL (x, y) (q + 1))) := by
              rw [facL_snoc, cellsN_append]
              have e : fac (x, y) q = mulW (u.1, u.2) (x, y) := by rw [HQ.out, HU.out]; rfl
              rw [e, ← HM.out]
              exact HO4.out
            have hs4 : R ≤ w5.heap.size := by have := HG4.out.size; have := HS3.out; simp at *; omega
            have hg4 : g4 ≠ B := by have := HG.out; rcases HAT.out with h | h <;> omega
            have HA4 := Lib.hid hA4
            have HO5 := Lib.hid hO4
            have HS4 := Lib.hid hs4
            have HG5 := Lib.hid hg4
            clear hA4 hO4 hs4 hg4 hBs hgw
            simp only [List.getElem_toArray, List.getElem_cons_succ, List.getElem_cons_zero]
            simp only [Act.put, List.setIfInBounds_toArray, List.set_cons_zero, List.set_cons_succ]
            go_wp2
            go_roundw
            case rel => exact ⟨q, g4, cap4, rfl, rfl, by have := HLT.out; have := HQ.out; omega, HG5.out, HO5.out, HS4.out, HA4.out⟩
            case measure => have := HLT.out; have := HQ.out; simp [intOf]; omega
        · have hjn : j + 1 = 1 := by omega
          have i1 : ¬ ((j + 1 : Nat) : Int) < 1 := by omega
          rw [hjn] at HO i1 ⊢
          go_wp2
          go_ret2
          refine ⟨g, ⟨cap, rfl⟩, ?_, Nat.le_trans HWL.out (HO.out.lt g rfl).1, HA.out.below⟩
          have := Num.of_row HO.out
          rw [HX.out, HY.out] at this
          exact this

set_option maxRecDepth 100000 in
set_option maxHeartbeats 4000000 in
theorem rtwiddles2 (w : World) : Calls Try.prog 33 #[.int .i64 2] w fun e w' => ∃ g cap, e = .returned (.tuple #[.slice (some ⟨g, 0, none⟩) 2 cap, .int .i64 0]) ∧ Num w' g (facL (firstW 1) 2) ∧ w.heap.size ≤ g ∧ Below w.heap.size w w' := by
  have k1 : ∀ w, (convert 86 29 (.float .f64 13830554455654793216)).run Try.prog w = .ok (.float .f32 3212836864) w := fun w => run_convert_float_float w _ _ _ _ _ _ (by kernel_rfl) (by kernel_rfl) (by decide +kernel)
  have k2 : ∀ w, (convert 86 29 (.float .f64 0)).run Try.prog w = .ok (.float .f32 0) w := fun w => run_convert_float_float w _ _ _ _ _ _ (by kernel_rfl) (by kernel_rfl) (by decide +kernel)
  have h11 : canon 1065353216 = 1065353216 := by decide
  have h10 : canon 0 = 0 := by decide
  have H1 := Lib.hid (And.intro h11 h10)
  clear h11 h10
  obtain ⟨i0, hi0, hz0, hz1, hz2⟩ := info_parts info38
  go_enter Try.func33, Try.ntmps33
  go_wp2_with (go_at_call 59; refine (points_yes 2 (by unfold Pt; omega) _).mono ?_; rintro e w' ⟨rfl, rfl⟩)
  go_loopw [4, 5, 6] (fun c d i wr => wr = w ∧ ((c = .float .f64 13830554455654793216 ∧ d = .float .f64 0 ∧ i = .int .i64 8))) (fun _ _ v _ => 300 - (intOf v).toNat)
  case atStart => exact ⟨rfl, ⟨rfl, rfl, rfl⟩⟩
  case round =>
    obtain ⟨rfl, hr⟩ := hrel
    rename World => wq
    rcases hr with ⟨rfl, rfl, rfl⟩
    · skip
      go_wp2_with (first
        | (go_at_call 24
           first
             | (have hq := HB2.out
                refine (rof_to 3212836864 (Op.negFloat .f32 0) (firstW 1).1 (firstW 1).2 (by decide) (by decide) _).mono ?_
                rintro e w3 ⟨rfl, hb3⟩
                have HB3 := Lib.hid hb3
                clear hb3 hq)
             | (refine (rof_to 1065353216 0 1065353216 0 H1.out.1 H1.out.2 _).mono ?_
                rintro e w2 ⟨rfl, hb2⟩
                have HB2 := Lib.hid hb2
                clear hb2)))
      obtain ⟨x, hx⟩ : ∃ x, x = (firstW 1).1 := ⟨_, rfl⟩
      obtain ⟨y, hy⟩ : ∃ y, y = (firstW 1).2 := ⟨_, rfl⟩
      rw [← hx, ← hy]
      have HX := Lib.hid hx
      have HY := Lib.hid hy
      clear hx hy
      have hA2 : At wq (w2.alloc (.cells #[.int .u32 1065353216, .int .u32 0] 38)) [] := (At.mk HB2.out trivial : At wq w2 []).alloc _
      have hA3 := (hA2.step HB3.out).two (.int .u32 x) (.int .u32 y) 38 _ rfl
      have hO2 := own_one w2 w2.heap.size (Nat.le_refl _) (.int .u32 1065353216) (.int .u32 0) 38
      have hO3 := (own_below hO2 HB3.out).alloc (.cells #[.int .u32 x, .int .u32 y] 38)
      have hz : w2.heap.size < w3.heap.size := by have := HB3.out.size; simp at this; omega
      have hw : wq.heap.size ≤ w2.heap.size := HB2.out.size
      obtain ⟨B, hB⟩ : ∃ B, B = w3.heap.size := ⟨_, rfl⟩
      obtain ⟨R, hR⟩ : ∃ R, R = w2.heap.size := ⟨_, rfl⟩
      obtain ⟨W, hW⟩ : ∃ W, W = w3.alloc (.cells #[.int .u32 x, .int .u32 y] 38) := ⟨_, rfl⟩
      rw [← hW, ← hB] at hA3
      rw [← hW, ← hR] at hO3
      rw [← hB, ← hR] at hz
      rw [← hR] at hw
      rw [← hW, ← hB, ← hR]
      have HA := Lib.hid hA3
      have HO := Lib.hid hO3
      have HZ := Lib.hid hz
      have HWL := Lib.hid hw
      clear hA2 hA3 hO2 hO3 hz hB hR hW hw HB2 HB3
      go_loopw [9, 11] (fun out v wr => ∃ j g cap : Nat, out = .slice (some ⟨g, 0, none⟩) (j + 1) cap ∧ v = .int .i64 ((j + 1 : Nat) : Int) ∧ j + 1 ≤ 2 ∧ g ≠ B ∧ wr.ownsRow R 38 2 (.slice (some ⟨g, 0, none⟩) (j + 1) cap) (j + 1) (cellsN (facL (x, y) (j + 1))) ∧ R ≤ wr.heap.size ∧ At wq wr [(B, 0, .int .u32 x), (B, 1, .int .u32 y)]) (fun _ v _ => 200 - (intOf v).toNat)
      case atStart => exact ⟨0, R, 1, rfl, rfl, by omega, by have := HZ.out; omega, HO.out, Nat.le_of_lt (HO.out.lt R rfl).2, HA.out⟩
      case round =>
        obtain ⟨j, g, cap, rfl, rfl, hj, hgB, hown, hsz, hA⟩ := hrel
        have HO := Lib.hid hown
        have HA := Lib.hid hA
        have HS := Lib.hid hsz
        have HG := Lib.hid hgB
        clear hown hA hsz hgB
        by_cases hlt : j + 1 < 2
        · obtain ⟨u, hu⟩ : ∃ u, u = fac (x, y) j := ⟨_, rfl⟩
          obtain ⟨n0, n1⟩ := Num.of_row HO.out j u (by rw [hu]; exact facL_at _ _ _ (by omega))
          rw [Nat.mul_comm] at n0 n1
          obtain ⟨⟨c0, -⟩, ⟨c1, -⟩, -⟩ := HA.out.mem
          have HU := Lib.hid hu
          clear hu
          obtain ⟨q, hq⟩ : ∃ q, q = j + 1 := ⟨_, rfl⟩
          have i1 : (q : Int) < 2 := by omega
          have i2 : (0 : Int) ≤ q := by omega
          have i3 : IntKind.i64.wrap ((q : Int) - 1) = (j : Int) := by rw [show (q : Int) - 1 = (j : Int) by omega]; exact IntWalk.i64_in _ (by omega)
          have i4 : (j : Int) < q := by omega
          have i5 : (0 : Int) ≤ j := by omega
          have i6 : IntKind.i64.wrap ((q : Int) + 1) = ((q + 1 : Nat) : Int) := by rw [show (q : Int) + 1 = ((q + 1 : Nat) : Int) by omega]; exact IntWalk.i64_in _ (by omega)
          rw [← hq] at HO ⊢
          have HQ := Lib.hid hq
          have HLT := Lib.hid hlt
          clear hq hlt hj
          go_wp2_with fail
          go_region_law ((first
            | (go_simp; go_at_call 21; refine (rmul_any u.1 u.2 x y _).mono ?_; rintro e w4 ⟨rfl, hb4⟩; clear n0 n1 c0 c1; have HO3 := Lib.hid (own_below HO.out hb4); have HA3 := Lib.hid (HA.out.step hb4); have HS3 : Hid (R ≤ w4.heap.size) := (Nat.le_trans HS.out hb4.size); clear hb4; obtain ⟨m, hm⟩ : ∃ m, m = mulW (u.1, u.2) (x, y) := ⟨_, rfl⟩; rw [← hm]; have HM := Lib.hid hm; clear hm; unfold num; go_simp)
            | (refine step_append_lies _ (by rfl) _ _ _ (by rfl) R 38 i0 (.agg #[.int .u32 0, .int .u32 0]) 2 8 Try.underlying27 hi0 hz0 hz1 hz2 rfl (by decide) _ q _ (by rfl) (HO3.out.alloc _) ⟨w4.heap.size, 0, none⟩ 1 1 [.int .u32 m.1, .int .u32 m.2] (by rfl) rfl (cell_two_new _ _ _ _) (by simp [Value.oneCell']) (by omega) (by unfold maxLen; omega) (by omega) (by have := HS3.out; simp; omega) (w4.heap.size + 1) (by simp) ?_; intro g4 cap4 w5 hown4 hgrow4 hat4 hlt4; have HO4 := Lib.hid hown4; have HG4 := Lib.hid hgrow4; have hat : g = g4 ∨ g4 = w4.heap.size + 1 := (by simpa [Value.ownBlock] using hat4); have HAT := Lib.hid hat; clear hat hown4 hgrow4 hat4 hlt4)))
          all_goals
            have hBs : B < w4.heap.size := cell_lt HA3.out.mem.1.1
            have hgw : wq.heap.size ≤ g := Nat.le_trans HWL.out ((HO3.out.lt) g rfl).1
            have hA4 : At wq w5 [(B, 0, .int .u32 x), (B, 1, .int .u32 y)] := (HA3.out.alloc _).grown HG4.out (fun k e => by have e2 : g = k := Option.some.inj e; omega) (fun z hz e => by
              have hb : z.1 = B := by simp at hz; rcases hz with rfl | rfl <;> rfl
              have e2 : z.1 = g := Option.some.inj e
              have := HG.out
              omega)
            have hO4 : w5.ownsRow R 38 2 (.slice (some ⟨g4, 0, none⟩) (q + 1) cap4) (q + 1) (cellsN (facL (x, y) (q + 1))) := by
              rw [facL_snoc, cellsN_append]
              have e : fac (x, y) q = mulW (u.1, u.2) (x, y) := by rw [HQ.out, HU.out]; rfl
              rw [e, ← HM.out]
              exact HO4.out
            have hs4 : R ≤ w5.heap.size := by have := HG4.out.size; have := HS3.out; simp at *; omega
            have hg4 : g4 ≠ B := by have := HG.out; rcases HAT.out with h | h <;> omega
            have HA4 := Lib.hid hA4
            have HO5 := Lib.hid hO4
            have HS4 := Lib.hid hs4
            have HG5 := Lib.hid hg4
            clear hA4 hO4 hs4 hg4 hBs hgw
            simp only [List.getElem_toArray, List.getElem_cons_succ, List.getElem_cons_zero]
            simp only [Act.put, List.setIfInBounds_toArray, List.set_cons_zero, List.set_cons_succ]
            go_wp2
            go_roundw
            case rel => exact ⟨q, g4, cap4, rfl, rfl, by have := HLT.out; have := HQ.out; omega, HG5.out, HO5.out, HS4.out, HA4.out⟩
            case measure => have := HLT.out; have := HQ.out; simp [intOf]; omega
        · have hjn : j + 1 = 2 := by omega
          have i1 : ¬ ((j + 1 : Nat) : Int) < 2 := by omega
          rw [hjn] at HO i1 ⊢
          go_wp2
          go_ret2
          refine ⟨g, ⟨cap, rfl⟩, ?_, Nat.le_trans HWL.out (HO.out.lt g rfl).1, HA.out.below⟩
          have := Num.of_row HO.out
          rw [HX.out, HY.out] at this
          exact this

set_option maxRecDepth 100000 in
set_option maxHeartbeats 4000000 in
theorem rtwiddles4 (w : World) : Calls Try.prog 33 #[.int .i64 4] w fun e w' => ∃ g cap, e = .returned (.tuple #[.slice (some ⟨g, 0, none⟩) 4 cap, .int .i64 0]) ∧ Num w' g (facL (firstW 2) 4) ∧ w.heap.size ≤ g ∧ Below w.heap.size w w' := by
  have k1 : ∀ w, (convert 86 29 (.float .f64 0)).run Try.prog w = .ok (.float .f32 0) w := fun w => run_convert_float_float w _ _ _ _ _ _ (by kernel_rfl) (by kernel_rfl) (by decide +kernel)
  have k2 : ∀ w, (convert 86 29 (.float .f64 4607182418800017408)).run Try.prog w = .ok (.float .f32 1065353216) w := fun w => run_convert_float_float w _ _ _ _ _ _ (by kernel_rfl) (by kernel_rfl) (by decide +kernel)
  have h11 : canon 1065353216 = 1065353216 := by decide
  have h10 : canon 0 = 0 := by decide
  have H1 := Lib.hid (And.intro h11 h10)
  clear h11 h10
  obtain ⟨i0, hi0, hz0, hz1, hz2⟩ := info_parts info38
  go_enter Try.func33, Try.ntmps33
  go_wp2_with (go_at_call 59; refine (points_yes 4 (by unfold Pt; omega) _).mono ?_; rintro e w' ⟨rfl, rfl⟩)
  go_loopw [4, 5, 6] (fun c d i wr => wr = w ∧ ((c = .float .f64 0 ∧ d = .float .f64 4607182418800017408 ∧ i = .int .i64 8))) (fun _ _ v _ => 300 - (intOf v).toNat)
  case atStart => exact ⟨rfl, ⟨rfl, rfl, rfl⟩⟩
  case round =>
    obtain ⟨rfl, hr⟩ := hrel
    rename World => wq
    rcases hr with ⟨rfl, rfl, rfl⟩
    · skip
      go_wp2_with (first
        | (go_at_call 24
           first
             | (have hq := HB2.out
                refine (rof_to 0 (Op.negFloat .f32 1065353216) (firstW 2).1 (firstW 2).2 (by decide) (by decide) _).mono ?_
                rintro e w3 ⟨rfl, hb3⟩
                have HB3 := Lib.hid hb3
                clear hb3 hq)
             | (refine (rof_to 1065353216 0 1065353216 0 H1.out.1 H1.out.2 _).mono ?_
                rintro e w2 ⟨rfl, hb2⟩
                have HB2 := Lib.hid hb2
                clear hb2)))
      obtain ⟨x, hx⟩ : ∃ x, x = (firstW 2).1 := ⟨_, rfl⟩
      obtain ⟨y, hy⟩ : ∃ y, y = (firstW 2).2 := ⟨_, rfl⟩
      rw [← hx, ← hy]
      have HX := Lib.hid hx
      have HY := Lib.hid hy
      clear hx hy
      have hA2 : At wq (w2.alloc (.cells #[.int .u32 1065353216, .int .u32 0] 38)) [] := (At.mk HB2.out trivial : At wq w2 []).alloc _
      have hA3 := (hA2.step HB3.out).two (.int .u32 x) (.int .u32 y) 38 _ rfl
      have hO2 := own_one w2 w2.heap.size (Nat.le_refl _) (.int .u32 1065353216) (.int .u32 0) 38
      have hO3 := (own_below hO2 HB3.out).alloc (.cells #[.int .u32 x, .int .u32 y] 38)
      have hz : w2.heap.size < w3.heap.size := by have := HB3.out.size; simp at this; omega
      have hw : wq.heap.size ≤ w2.heap.size := HB2.out.size
      obtain ⟨B, hB⟩ : ∃ B, B = w3.heap.size := ⟨_, rfl⟩
      obtain ⟨R, hR⟩ : ∃ R, R = w2.heap.size := ⟨_, rfl⟩
      obtain ⟨W, hW⟩ : ∃ W, W = w3.alloc (.cells #[.int .u32 x, .int .u32 y] 38) := ⟨_, rfl⟩
      rw [← hW, ← hB] at hA3
      rw [← hW, ← hR] at hO3
      rw [← hB, ← hR] at hz
      rw [← hR] at hw
      rw [← hW, ← hB, ← hR]
      have HA := Lib.hid hA3
      have HO := Lib.hid hO3
      have HZ := Lib.hid hz
      have HWL := Lib.hid hw
      clear hA2 hA3 hO2 hO3 hz hB hR hW hw HB2 HB3
      go_loopw [9, 11] (fun out v wr => ∃ j g cap : Nat, out = .slice (some ⟨g, 0, none⟩) (j + 1) cap ∧ v = .int .i64 ((j + 1 : Nat) : Int) ∧ j + 1 ≤ 4 ∧ g ≠ B ∧ wr.ownsRow R 38 2 (.slice (some ⟨g, 0, none⟩) (j + 1) cap) (j + 1) (cellsN (facL (x, y) (j + 1))) ∧ R ≤ wr.heap.size ∧ At wq wr [(B, 0, .int .u32 x), (B, 1, .int .u32 y)]) (fun _ v _ => 200 - (intOf v).toNat)
      case atStart => exact ⟨0, R, 1, rfl, rfl, by omega, by have := HZ.out; omega, HO.out, Nat.le_of_lt (HO.out.lt R rfl).2, HA.out⟩
      case round =>
        obtain ⟨j, g, cap, rfl, rfl, hj, hgB, hown, hsz, hA⟩ := hrel
        have HO := Lib.hid hown
        have HA := Lib.hid hA
        have HS := Lib.hid hsz
        have HG := Lib.hid hgB
        clear hown hA hsz hgB
        by_cases hlt : j + 1 < 4
        · obtain ⟨u, hu⟩ : ∃ u, u = fac (x, y) j := ⟨_, rfl⟩
          obtain ⟨n0, n1⟩ := Num.of_row HO.out j u (by rw [hu]; exact facL_at _ _ _ (by omega))
          rw [Nat.mul_comm] at n0 n1
          obtain ⟨⟨c0, -⟩, ⟨c1, -⟩, -⟩ := HA.out.mem
          have HU := Lib.hid hu
          clear hu
          obtain ⟨q, hq⟩ : ∃ q, q = j + 1 := ⟨_, rfl⟩
          have i1 : (q : Int) < 4 := by omega
          have i2 : (0 : Int) ≤ q := by omega
          have i3 : IntKind.i64.wrap ((q : Int) - 1) = (j : Int) := by rw [show (q : Int) - 1 = (j : Int) by omega]; exact IntWalk.i64_in _ (by omega)
          have i4 : (j : Int) < q := by omega
          have i5 : (0 : Int) ≤ j := by omega
          have i6 : IntKind.i64.wrap ((q : Int) + 1) = ((q + 1 : Nat) : Int) := by rw [show (q : Int) + 1 = ((q + 1 : Nat) : Int) by omega]; exact IntWalk.i64_in _ (by omega)
          rw [← hq] at HO ⊢
          have HQ := Lib.hid hq
          have HLT := Lib.hid hlt
          clear hq hlt hj
          go_wp2_with fail
          go_region_law ((first
            | (go_simp; go_at_call 21; refine (rmul_any u.1 u.2 x y _).mono ?_; rintro e w4 ⟨rfl, hb4⟩; clear n0 n1 c0 c1; have HO3 := Lib.hid (own_below HO.out hb4); have HA3 := Lib.hid (HA.out.step hb4); have HS3 : Hid (R ≤ w4.heap.size) := (Nat.le_trans HS.out hb4.size); clear hb4; obtain ⟨m, hm⟩ : ∃ m, m = mulW (u.1, u.2) (x, y) := ⟨_, rfl⟩; rw [← hm]; have HM := Lib.hid hm; clear hm; unfold num; go_simp)
            | (refine step_append_lies _ (by rfl) _ _ _ (by rfl) R 38 i0 (.agg #[.int .u32 0, .int .u32 0]) 2 8 Try.underlying27 hi0 hz0 hz1 hz2 rfl (by decide) _ q _ (by rfl) (HO3.out.alloc _) ⟨w4.heap.size, 0, none⟩ 1 1 [.int .u32 m.1, .int .u32 m.2] (by rfl) rfl (cell_two_new _ _ _ _) (by simp [Value.oneCell']) (by omega) (by unfold maxLen; omega) (by omega) (by have := HS3.out; simp; omega) (w4.heap.size + 1) (by simp) ?_; intro g4 cap4 w5 hown4 hgrow4 hat4 hlt4; have HO4 := Lib.hid hown4; have HG4 := Lib.hid hgrow4; have hat : g = g4 ∨ g4 = w4.heap.size + 1 := (by simpa [Value.ownBlock] using hat4); have HAT := Lib.hid hat; clear hat hown4 hgrow4 hat4 hlt4)))
          all_goals
            have hBs : B < w4.heap.size := cell_lt HA3.out.mem.1.1
            have hgw : wq.heap.size ≤ g := Nat.le_trans HWL.out ((HO3.out.lt) g rfl).1
            have hA4 : At wq w5 [(B, 0, .int .u32 x), (B, 1, .int .u32 y)] := (HA3.out.alloc _).grown HG4.out (fun k e => by have e2 : g = k := Option.some.inj e; omega) (fun z hz e => by
              have hb : z.1 = B := by simp at hz; rcases hz with rfl | rfl <;> rfl
              have e2 : z.1 = g := Option.some.inj e
              have := HG.out
              omega)
            have hO4 : w5.ownsRow R 38 2 (.slice (some ⟨g4, 0, none⟩) (q + 1) cap4) (q + 1) (cellsN (facL (x, y) (q + 1))) := by
              rw [facL_snoc, cellsN_append]
              have e : fac (x, y) q = mulW (u.1, u.2) (x, y) := by rw [HQ.out, HU.out]; rfl
              rw [e, ← HM.out]
              exact HO4.out
            have hs4 : R ≤ w5.heap.size := by have := HG4.out.size; have := HS3.out; simp at *; omega
            have hg4 : g4 ≠ B := by have := HG.out; rcases HAT.out with h | h <;> omega
            have HA4 := Lib.hid hA4
            have HO5 := Lib.hid hO4
            have HS4 := Lib.hid hs4
            have HG5 := Lib.hid hg4
            clear hA4 hO4 hs4 hg4 hBs hgw
            simp only [List.getElem_toArray, List.getElem_cons_succ, List.getElem_cons_zero]
            simp only [Act.put, List.setIfInBounds_toArray, List.set_cons_zero, List.set_cons_succ]
            go_wp2
            go_roundw
            case rel => exact ⟨q, g4, cap4, rfl, rfl, by have := HLT.out; have := HQ.out; omega, HG5.out, HO5.out, HS4.out, HA4.out⟩
            case measure => have := HLT.out; have := HQ.out; simp [intOf]; omega
        · have hjn : j + 1 = 4 := by omega
          have i1 : ¬ ((j + 1 : Nat) : Int) < 4 := by omega
          rw [hjn] at HO i1 ⊢
          go_wp2
          go_ret2
          refine ⟨g, ⟨cap, rfl⟩, ?_, Nat.le_trans HWL.out (HO.out.lt g rfl).1, HA.out.below⟩
          have := Num.of_row HO.out
          rw [HX.out, HY.out] at this
          exact this

set_option maxRecDepth 100000 in
set_option maxHeartbeats 4000000 in
theorem rtwiddles8 (w : World) : Calls Try.prog 33 #[.int .i64 8] w fun e w' => ∃ g cap, e = .returned (.tuple #[.slice (some ⟨g, 0, none⟩) 8 cap, .int .i64 0]) ∧ Num w' g (facL (firstW 3) 8) ∧ w.heap.size ≤ g ∧ Below w.heap.size w w' := by
  have k1 : ∀ w, (convert 86 29 (.float .f64 4604544271217802189)).run Try.prog w = .ok (.float .f32 1060439283) w := fun w => run_convert_float_float w _ _ _ _ _ _ (by kernel_rfl) (by kernel_rfl) (by decide +kernel)
  have a3 : ∀ t (w : World), (binOp .add t (.float .f64 4607182418800017408) (.float .f64 0)).run Try.prog w = .ok (.float .f64 4607182418800017408) w := fun t w => run_float_arith w .add t .f64 _ _ _ (by decide +kernel)
  have b3 : ∀ t (w : World), (binOp .sub t (.float .f64 4607182418800017408) (.float .f64 0)).run Try.prog w = .ok (.float .f64 4607182418800017408) w := fun t w => run_float_arith w .sub t .f64 _ _ _ (by decide +kernel)
  have c3 : ∀ t (w : World), (binOp .quo t (.float .f64 4607182418800017408) (.float .f64 4611686018427387904)).run Try.prog w = .ok (.float .f64 4602678819172646912) w := fun t w => run_float_arith w .quo t .f64 _ _ _ (by decide +kernel)
  have h11 : canon 1065353216 = 1065353216 := by decide
  have h10 : canon 0 = 0 := by decide
  have H1 := Lib.hid (And.intro h11 h10)
  clear h11 h10
  obtain ⟨i0, hi0, hz0, hz1, hz2⟩ := info_parts info38
  go_enter Try.func33, Try.ntmps33
  go_wp2_with (go_at_call 59; refine (points_yes 8 (by unfold Pt; omega) _).mono ?_; rintro e w' ⟨rfl, rfl⟩)
  go_loopw [4, 5, 6] (fun c d i wr => wr = w ∧ ((c = .float .f64 0 ∧ d = .float .f64 4607182418800017408 ∧ i = .int .i64 8) ∨ (c = .float .f64 4604544271217802189 ∧ d = .float .f64 4604544271217802189 ∧ i = .int .i64 16))) (fun _ _ v _ => 300 - (intOf v).toNat)
  case atStart => exact ⟨rfl, .inl ⟨rfl, rfl, rfl⟩⟩
  case round =>
    obtain ⟨rfl, hr⟩ := hrel
    rename World => wq
    rcases hr with ⟨rfl, rfl, rfl⟩ | ⟨rfl, rfl, rfl⟩
    · go_wp2_with (go_at_call 55; first | (refine (sqrt_any 4602678819172646912 4604544271217802189 (by decide +kernel) _).mono ?_; rintro e w' ⟨rfl, rfl⟩) | (refine (sqrt_any 4602678819172646912 4604544271217802189 (by decide +kernel) _).mono ?_; rintro e w' ⟨rfl, rfl⟩))
      go_roundw
      case rel => simp
      case measure => simp [intOf]
    · clear a3 b3 c3
      go_wp2_with (first
        | (go_at_call 24
           first
             | (have hq := HB2.out
                refine (rof_to 1060439283 (Op.negFloat .f32 1060439283) (firstW 3).1 (firstW 3).2 (by decide) (by decide) _).mono ?_
                rintro e w3 ⟨rfl, hb3⟩
                have HB3 := Lib.hid hb3
                clear hb3 hq)
             | (refine (rof_to 1065353216 0 1065353216 0 H1.out.1 H1.out.2 _).mono ?_
                rintro e w2 ⟨rfl, hb2⟩
                have HB2 := Lib.hid hb2
                clear hb2)))
      obtain ⟨x, hx⟩ : ∃ x, x = (firstW 3).1 := ⟨_, rfl⟩
      obtain ⟨y, hy⟩ : ∃ y, y = (firstW 3).2 := ⟨_, rfl⟩
      rw [← hx, ← hy]
      have HX := Lib.hid hx
      have HY := Lib.hid hy
      clear hx hy
      have hA2 : At wq (w2.alloc (.cells #[.int .u32 1065353216, .int .u32 0] 38)) [] := (At.mk HB2.out trivial : At wq w2 []).alloc _
      have hA3 := (hA2.step HB3.out).two (.int .u32 x) (.int .u32 y) 38 _ rfl
      have hO2 := own_one w2 w2.heap.size (Nat.le_refl _) (.int .u32 1065353216) (.int .u32 0) 38
      have hO3 := (own_below hO2 HB3.out).alloc (.cells #[.int .u32 x, .int .u32 y] 38)
      have hz : w2.heap.size < w3.heap.size := by have := HB3.out.size; simp at this; omega
      have hw : wq.heap.size ≤ w2.heap.size := HB2.out.size
      obtain ⟨B, hB⟩ : ∃ B, B = w3.heap.size := ⟨_, rfl⟩
      obtain ⟨R, hR⟩ : ∃ R, R = w2.heap.size := ⟨_, rfl⟩
      obtain ⟨W, hW⟩ : ∃ W, W = w3.alloc (.cells #[.int .u32 x, .int .u32 y] 38) := ⟨_, rfl⟩
      rw [← hW, ← hB] at hA3
      rw [← hW, ← hR] at hO3
      rw [← hB, ← hR] at hz
      rw [← hR] at hw
      rw [← hW, ← hB, ← hR]
      have HA := Lib.hid hA3
      have HO := Lib.hid hO3
      have HZ := Lib.hid hz
      have HWL := Lib.hid hw
      clear hA2 hA3 hO2 hO3 hz hB hR hW hw HB2 HB3
      go_loopw [9, 11] (fun out v wr => ∃ j g cap : Nat, out = .slice (some ⟨g, 0, none⟩) (j + 1) cap ∧ v = .int .i64 ((j + 1 : Nat) : Int) ∧ j + 1 ≤ 8 ∧ g ≠ B ∧ wr.ownsRow R 38 2 (.slice (some ⟨g, 0, none⟩) (j + 1) cap) (j + 1) (cellsN (facL (x, y) (j + 1))) ∧ R ≤ wr.heap.size ∧ At wq wr [(B, 0, .int .u32 x), (B, 1, .int .u32 y)]) (fun _ v _ => 200 - (intOf v).toNat)
      case atStart => exact ⟨0, R, 1, rfl, rfl, by omega, by have := HZ.out; omega, HO.out, Nat.le_of_lt (HO.out.lt R rfl).2, HA.out⟩
      case round =>
        obtain ⟨j, g, cap, rfl, rfl, hj, hgB, hown, hsz, hA⟩ := hrel
        have HO := Lib.hid hown
        have HA := Lib.hid hA
        have HS := Lib.hid hsz
        have HG := Lib.hid hgB
        clear hown hA hsz hgB
        by_cases hlt : j + 1 < 8
        · obtain ⟨u, hu⟩ : ∃ u, u = fac (x, y) j := ⟨_, rfl⟩
          obtain ⟨n0, n1⟩ := Num.of_row HO.out j u (by rw [hu]; exact facL_at _ _ _ (by omega))
          rw [Nat.mul_comm] at n0 n1
          obtain ⟨⟨c0, -⟩, ⟨c1, -⟩, -⟩ := HA.out.mem
          have HU := Lib.hid hu
          clear hu
          obtain ⟨q, hq⟩ : ∃ q, q = j + 1 := ⟨_, rfl⟩
          have i1 : (q : Int) < 8 := by omega
          have i2 : (0 : Int) ≤ q := by omega
          have i3 : IntKind.i64.wrap ((q : Int) - 1) = (j : Int) := by rw [show (q : Int) - 1 = (j : Int) by omega]; exact IntWalk.i64_in _ (by omega)
          have i4 : (j : Int) < q := by omega
          have i5 : (0 : Int) ≤ j := by omega
          have i6 : IntKind.i64.wrap ((q : Int) + 1) = ((q + 1 : Nat) : Int) := by rw [show (q : Int) + 1 = ((q + 1 : Nat) : Int) by omega]; exact IntWalk.i64_in _ (by omega)
          rw [← hq] at HO ⊢
          have HQ := Lib.hid hq
          have HLT := Lib.hid hlt
          clear hq hlt hj
          go_wp2_with fail
          go_region_law ((first
            | (go_simp; go_at_call 21; refine (rmul_any u.1 u.2 x y _).mono ?_; rintro e w4 ⟨rfl, hb4⟩; clear n0 n1 c0 c1; have HO3 := Lib.hid (own_below HO.out hb4); have HA3 := Lib.hid (HA.out.step hb4); have HS3 : Hid (R ≤ w4.heap.size) := (Nat.le_trans HS.out hb4.size); clear hb4; obtain ⟨m, hm⟩ : ∃ m, m = mulW (u.1, u.2) (x, y) := ⟨_, rfl⟩; rw [← hm]; have HM := Lib.hid hm; clear hm; unfold num; go_simp)
            | (refine step_append_lies _ (by rfl) _ _ _ (by rfl) R 38 i0 (.agg #[.int .u32 0, .int .u32 0]) 2 8 Try.underlying27 hi0 hz0 hz1 hz2 rfl (by decide) _ q _ (by rfl) (HO3.out.alloc _) ⟨w4.heap.size, 0, none⟩ 1 1 [.int .u32 m.1, .int .u32 m.2] (by rfl) rfl (cell_two_new _ _ _ _) (by simp [Value.oneCell']) (by omega) (by unfold maxLen; omega) (by omega) (by have := HS3.out; simp; omega) (w4.heap.size + 1) (by simp) ?_; intro g4 cap4 w5 hown4 hgrow4 hat4 hlt4; have HO4 := Lib.hid hown4; have HG4 := Lib.hid hgrow4; have hat : g = g4 ∨ g4 = w4.heap.size + 1 := (by simpa [Value.ownBlock] using hat4); have HAT := Lib.hid hat; clear hat hown4 hgrow4 hat4 hlt4)))
          all_goals
            have hBs : B < w4.heap.size := cell_lt HA3.out.mem.1.1
            have hgw : wq.heap.size ≤ g := Nat.le_trans HWL.out ((HO3.out.lt) g rfl).1
            have hA4 : At wq w5 [(B, 0, .int .u32 x), (B, 1, .int .u32 y)] := (HA3.out.alloc _).grown HG4.out (fun k e => by have e2 : g = k := Option.some.inj e; omega) (fun z hz e => by
              have hb : z.1 = B := by simp at hz; rcases hz with rfl | rfl <;> rfl
              have e2 : z.1 = g := Option.some.inj e
              have := HG.out
              omega)
            have hO4 : w5.ownsRow R 38 2 (.slice (some ⟨g4, 0, none⟩) (q + 1) cap4) (q + 1) (cellsN (facL (x, y) (q + 1))) := by
              rw [facL_snoc, cellsN_append]
              have e : fac (x, y) q = mulW (u.1, u.2) (x, y) := by rw [HQ.out, HU.out]; rfl
              rw [e, ← HM.out]
              exact HO4.out
            have hs4 : R ≤ w5.heap.size := by have := HG4.out.size; have := HS3.out; simp at *; omega
            have hg4 : g4 ≠ B := by have := HG.out; rcases HAT.out with h | h <;> omega
            have HA4 := Lib.hid hA4
            have HO5 := Lib.hid hO4
            have HS4 := Lib.hid hs4
            have HG5 := Lib.hid hg4
            clear hA4 hO4 hs4 hg4 hBs hgw
            simp only [List.getElem_toArray, List.getElem_cons_succ, List.getElem_cons_zero]
            simp only [Act.put, List.setIfInBounds_toArray, List.set_cons_zero, List.set_cons_succ]
            go_wp2
            go_roundw
            case rel => exact ⟨q, g4, cap4, rfl, rfl, by have := HLT.out; have := HQ.out; omega, HG5.out, HO5.out, HS4.out, HA4.out⟩
            case measure => have := HLT.out; have := HQ.out; simp [intOf]; omega
        · have hjn : j + 1 = 8 := by omega
          have i1 : ¬ ((j + 1 : Nat) : Int) < 8 := by omega
          rw [hjn] at HO i1 ⊢
          go_wp2
          go_ret2
          refine ⟨g, ⟨cap, rfl⟩, ?_, Nat.le_trans HWL.out (HO.out.lt g rfl).1, HA.out.below⟩
          have := Num.of_row HO.out
          rw [HX.out, HY.out] at this
          exact this

set_option maxRecDepth 100000 in
set_option maxHeartbeats 4000000 in
theorem rtwiddles16 (w : World) : Calls Try.prog 33 #[.int .i64 16] w fun e w' => ∃ g cap, e = .returned (.tuple #[.slice (some ⟨g, 0, none⟩) 16 cap, .int .i64 0]) ∧ Num w' g (facL (firstW 4) 16) ∧ w.heap.size ≤ g ∧ Below w.heap.size w w' := by
  have k1 : ∀ w, (convert 86 29 (.float .f64 4606496786581982534)).run Try.prog w = .ok (.float .f32 1064076126) w := fun w => run_convert_float_float w _ _ _ _ _ _ (by kernel_rfl) (by kernel_rfl) (by decide +kernel)
  have k2 : ∀ w, (convert 86 29 (.float .f64 4600565431771507042)).run Try.prog w = .ok (.float .f32 1053028117) w := fun w => run_convert_float_float w _ _ _ _ _ _ (by kernel_rfl) (by kernel_rfl) (by decide +kernel)
  have a3 : ∀ t (w : World), (binOp .add t (.float .f64 4607182418800017408) (.float .f64 0)).run Try.prog w = .ok (.float .f64 4607182418800017408) w := fun t w => run_float_arith w .add t .f64 _ _ _ (by decide +kernel)
  have b3 : ∀ t (w : World), (binOp .sub t (.float .f64 4607182418800017408) (.float .f64 0)).run Try.prog w = .ok (.float .f64 4607182418800017408) w := fun t w => run_float_arith w .sub t .f64 _ _ _ (by decide +kernel)
  have c3 : ∀ t (w : World), (binOp .quo t (.float .f64 4607182418800017408) (.float .f64 4611686018427387904)).run Try.prog w = .ok (.float .f64 4602678819172646912) w := fun t w => run_float_arith w .quo t .f64 _ _ _ (by decide +kernel)
  have a4 : ∀ t (w : World), (binOp .add t (.float .f64 4607182418800017408) (.float .f64 4604544271217802189)).run Try.prog w = .ok (.float .f64 4610366944636280294) w := fun t w => run_float_arith w .add t .f64 _ _ _ (by decide +kernel)
  have b4 : ∀ t (w : World), (binOp .sub t (.float .f64 4607182418800017408) (.float .f64 4604544271217802189)).run Try.prog w = .ok (.float .f64 4598947915082336358) w := fun t w => run_float_arith w .sub t .f64 _ _ _ (by decide +kernel)
  have c4 : ∀ t (w : World), (binOp .quo t (.float .f64 4610366944636280294) (.float .f64 4611686018427387904)).run Try.prog w = .ok (.float .f64 4605863345008909798) w := fun t w => run_float_arith w .quo t .f64 _ _ _ (by decide +kernel)
  have d4 : ∀ t (w : World), (binOp .quo t (.float .f64 4598947915082336358) (.float .f64 4611686018427387904)).run Try.prog w = .ok (.float .f64 4594444315454965862) w := fun t w => run_float_arith w .quo t .f64 _ _ _ (by decide +kernel)
  have h11 : canon 1065353216 = 1065353216 := by decide
  have h10 : canon 0 = 0 := by decide
  have H1 := Lib.hid (And.intro h11 h10)
  clear h11 h10
  obtain ⟨i0, hi0, hz0, hz1, hz2⟩ := info_parts info38
  go_enter Try.func33, Try.ntmps33
  go_wp2_with (go_at_call 59; refine (points_yes 16 (by unfold Pt; omega) _).mono ?_; rintro e w' ⟨rfl, rfl⟩)
  go_loopw [4, 5, 6] (fun c d i wr => wr = w ∧ ((c = .float .f64 0 ∧ d = .float .f64 4607182418800017408 ∧ i = .int .i64 8) ∨ (c = .float .f64 4604544271217802189 ∧ d = .float .f64 4604544271217802189 ∧ i = .int .i64 16) ∨ (c = .float .f64 4606496786581982534 ∧ d = .float .f64 4600565431771507042 ∧ i = .int .i64 32))) (fun _ _ v _ => 300 - (intOf v).toNat)
  case atStart => exact ⟨rfl, .inl ⟨rfl, rfl, rfl⟩⟩
  case round =>
    obtain ⟨rfl, hr⟩ := hrel
    rename World => wq
    rcases hr with ⟨rfl, rfl, rfl⟩ | ⟨rfl, rfl, rfl⟩ | ⟨rfl, rfl, rfl⟩
    · go_wp2_with (go_at_call 55; first | (refine (sqrt_any 4602678819172646912 4604544271217802189 (by decide +kernel) _).mono ?_; rintro e w' ⟨rfl, rfl⟩) | (refine (sqrt_any 4602678819172646912 4604544271217802189 (by decide +kernel) _).mono ?_; rintro e w' ⟨rfl, rfl⟩))
      go_roundw
      case rel => simp
      case measure => simp [intOf]
    · go_wp2_with (go_at_call 55; first | (refine (sqrt_any 4605863345008909798 4606496786581982534 (by decide +kernel) _).mono ?_; rintro e w' ⟨rfl, rfl⟩) | (refine (sqrt_any 4594444315454965862 4600565431771507042 (by decide +kernel) _).mono ?_; rintro e w' ⟨rfl, rfl⟩))
      go_roundw
      case rel => simp
      case measure => simp [intOf]
    · clear a3 b3 c3 a4 b4 c4 d4
      go_wp2_with (first
        | (go_at_call 24
           first
             | (have hq := HB2.out
                refine (rof_to 1064076126 (Op.negFloat .f32 1053028117) (firstW 4).1 (firstW 4).2 (by decide) (by decide) _).mono ?_
                rintro e w3 ⟨rfl, hb3⟩
                have HB3 := Lib.hid hb3
                clear hb3 hq)
             | (refine (rof_to 1065353216 0 1065353216 0 H1.out.1 H1.out.2 _).mono ?_
                rintro e w2 ⟨rfl, hb2⟩
                have HB2 := Lib.hid hb2
                clear hb2)))
      obtain ⟨x, hx⟩ : ∃ x, x = (firstW 4).1 := ⟨_, rfl⟩
      obtain ⟨y, hy⟩ : ∃ y, y = (firstW 4).2 := ⟨_, rfl⟩
      rw [← hx, ← hy]
      have HX := Lib.hid hx
      have HY := Lib.hid hy
      clear hx hy
      have hA2 : At wq (w2.alloc (.cells #[.int .u32 1065353216, .int .u32 0] 38)) [] := (At.mk HB2.out trivial : At wq w2 []).alloc _
      have hA3 := (hA2.step HB3.out).two (.int .u32 x) (.int .u32 y) 38 _ rfl
      have hO2 := own_one w2 w2.heap.size (Nat.le_refl _) (.int .u32 1065353216) (.int .u32 0) 38
      have hO3 := (own_below hO2 HB3.out).alloc (.cells #[.int .u32 x, .int .u32 y] 38)
      have hz : w2.heap.size < w3.heap.size := by have := HB3.out.size; simp at this; omega
      have hw : wq.heap.size ≤ w2.heap.size := HB2.out.size
      obtain ⟨B, hB⟩ : ∃ B, B = w3.heap.size := ⟨_, rfl⟩
      obtain ⟨R, hR⟩ : ∃ R, R = w2.heap.size := ⟨_, rfl⟩
      obtain ⟨W, hW⟩ : ∃ W, W = w3.alloc (.cells #[.int .u32 x, .int .u32 y] 38) := ⟨_, rfl⟩
      rw [← hW, ← hB] at hA3
      rw [← hW, ← hR] at hO3
      rw [← hB, ← hR] at hz
      rw [← hR] at hw
      rw [← hW, ← hB, ← hR]
      have HA := Lib.hid hA3
      have HO := Lib.hid hO3
      have HZ := Lib.hid hz
      have HWL := Lib.hid hw
      clear hA2 hA3 hO2 hO3 hz hB hR hW hw HB2 HB3
      go_loopw [9, 11] (fun out v wr => ∃ j g cap : Nat, out = .slice (some ⟨g, 0, none⟩) (j + 1) cap ∧ v = .int .i64 ((j + 1 : Nat) : Int) ∧ j + 1 ≤ 16 ∧ g ≠ B ∧ wr.ownsRow R 38 2 (.slice (some ⟨g, 0, none⟩) (j + 1) cap) (j + 1) (cellsN (facL (x, y) (j + 1))) ∧ R ≤ wr.heap.size ∧ At wq wr [(B, 0, .int .u32 x), (B, 1, .int .u32 y)]) (fun _ v _ => 200 - (intOf v).toNat)
      case atStart => exact ⟨0, R, 1, rfl, rfl, by omega, by have := HZ.out; omega, HO.out, Nat.le_of_lt (HO.out.lt R rfl).2, HA.out⟩
      case round =>
        obtain ⟨j, g, cap, rfl, rfl, hj, hgB, hown, hsz, hA⟩ := hrel
        have HO := Lib.hid hown
        have HA := Lib.hid hA
        have HS := Lib.hid hsz
        have HG := Lib.hid hgB
        clear hown hA hsz hgB
        by_cases hlt : j + 1 < 16
        · obtain ⟨u, hu⟩ : ∃ u, u = fac (x, y) j := ⟨_, rfl⟩
          obtain ⟨n0, n1⟩ := Num.of_row HO.out j u (by rw [hu]; exact facL_at _ _ _ (by omega))
          rw [Nat.mul_comm] at n0 n1
          obtain ⟨⟨c0, -⟩, ⟨c1, -⟩, -⟩ := HA.out.mem
          have HU := Lib.hid hu
          clear hu
          obtain ⟨q, hq⟩ : ∃ q, q = j + 1 := ⟨_, rfl⟩
          have i1 : (q : Int) < 16 := by omega
          have i2 : (0 : Int) ≤ q := by omega
          have i3 : IntKind.i64.wrap ((q : Int) - 1) = (j : Int) := by rw [show (q : Int) - 1 = (j : Int) by omega]; exact IntWalk.i64_in _ (by omega)
          have i4 : (j : Int) < q := by omega
          have i5 : (0 : Int) ≤ j := by omega
          have i6 : IntKind.i64.wrap ((q : Int) + 1) = ((q + 1 : Nat) : Int) := by rw [show (q : Int) + 1 = ((q + 1 : Nat) : Int) by omega]; exact IntWalk.i64_in _ (by omega)
          rw [← hq] at HO ⊢
          have HQ := Lib.hid hq
          have HLT := Lib.hid hlt
          clear hq hlt hj
          go_wp2_with fail
          go_region_law ((first
            | (go_simp; go_at_call 21; refine (rmul_any u.1 u.2 x y _).mono ?_; rintro e w4 ⟨rfl, hb4⟩; clear n0 n1 c0 c1; have HO3 := Lib.hid (own_below HO.out hb4); have HA3 := Lib.hid (HA.out.step hb4); have HS3 : Hid (R ≤ w4.heap.size) := (Nat.le_trans HS.out hb4.size); clear hb4; obtain ⟨m, hm⟩ : ∃ m, m = mulW (u.1, u.2) (x, y) := ⟨_, rfl⟩; rw [← hm]; have HM := Lib.hid hm; clear hm; unfold num; go_simp)
            | (refine step_append_lies _ (by rfl) _ _ _ (by rfl) R 38 i0 (.agg #[.int .u32 0, .int .u32 0]) 2 8 Try.underlying27 hi0 hz0 hz1 hz2 rfl (by decide) _ q _ (by rfl) (HO3.out.alloc _) ⟨w4.heap.size, 0, none⟩ 1 1 [.int .u32 m.1, .int .u32 m.2] (by rfl) rfl (cell_two_new _ _ _ _) (by simp [Value.oneCell']) (by omega) (by unfold maxLen; omega) (by omega) (by have := HS3.out; simp; omega) (w4.heap.size + 1) (by simp) ?_; intro g4 cap4 w5 hown4 hgrow4 hat4 hlt4; have HO4 := Lib.hid hown4; have HG4 := Lib.hid hgrow4; have hat : g = g4 ∨ g4 = w4.heap.size + 1 := (by simpa [Value.ownBlock] using hat4); have HAT := Lib.hid hat; clear hat hown4 hgrow4 hat4 hlt4)))
          all_goals
            have hBs : B < w4.heap.size := cell_lt HA3.out.mem.1.1
            have hgw : wq.heap.size ≤ g := Nat.le_trans HWL.out ((HO3.out.lt) g rfl).1
            have hA4 : At wq w5 [(B, 0, .int .u32 x), (B, 1, .int .u32 y)] := (HA3.out.alloc _).grown HG4.out (fun k e => by have e2 : g = k := Option.some.inj e; omega) (fun z hz e => by
              have hb : z.1 = B := by simp at hz; rcases hz with rfl | rfl <;> rfl
              have e2 : z.1 = g := Option.some.inj e
              have := HG.out
              omega)
            have hO4 : w5.ownsRow R 38 2 (.slice (some ⟨g4, 0, none⟩) (q + 1) cap4) (q + 1) (cellsN (facL (x, y) (q + 1))) := by
              rw [facL_snoc, cellsN_append]
              have e : fac (x, y) q = mulW (u.1, u.2) (x, y) := by rw [HQ.out, HU.out]; rfl
              rw [e, ← HM.out]
              exact HO4.out
            have hs4 : R ≤ w5.heap.size := by have := HG4.out.size; have := HS3.out; simp at *; omega
            have hg4 : g4 ≠ B := by have := HG.out; rcases HAT.out with h | h <;> omega
            have HA4 := Lib.hid hA4
            have HO5 := Lib.hid hO4
            have HS4 := Lib.hid hs4
            have HG5 := Lib.hid hg4
            clear hA4 hO4 hs4 hg4 hBs hgw
            simp only [List.getElem_toArray, List.getElem_cons_succ, List.getElem_cons_zero]
            simp only [Act.put, List.setIfInBounds_toArray, List.set_cons_zero, List.set_cons_succ]
            go_wp2
            go_roundw
            case rel => exact ⟨q, g4, cap4, rfl, rfl, by have := HLT.out; have := HQ.out; omega, HG5.out, HO5.out, HS4.out, HA4.out⟩
            case measure => have := HLT.out; have := HQ.out; simp [intOf]; omega
        · have hjn : j + 1 = 16 := by omega
          have i1 : ¬ ((j + 1 : Nat) : Int) < 16 := by omega
          rw [hjn] at HO i1 ⊢
          go_wp2
          go_ret2
          refine ⟨g, ⟨cap, rfl⟩, ?_, Nat.le_trans HWL.out (HO.out.lt g rfl).1, HA.out.below⟩
          have := Num.of_row HO.out
          rw [HX.out, HY.out] at this
          exact this

set_option maxRecDepth 100000 in
set_option maxHeartbeats 4000000 in
theorem rtwiddles32 (w : World) : Calls Try.prog 33 #[.int .i64 32] w fun e w' => ∃ g cap, e = .returned (.tuple #[.slice (some ⟨g, 0, none⟩) 32 cap, .int .i64 0]) ∧ Num w' g (facL (firstW 5) 32) ∧ w.heap.size ≤ g ∧ Below w.heap.size w w' := by
  have k1 : ∀ w, (convert 86 29 (.float .f64 4607009347991985328)).run Try.prog w = .ok (.float .f32 1065030846) w := fun w => run_convert_float_float w _ _ _ _ _ _ (by kernel_rfl) (by kernel_rfl) (by decide +kernel)
  have k2 : ∀ w, (convert 86 29 (.float .f64 4596196889902818828)).run Try.prog w = .ok (.float .f32 1044891074) w := fun w => run_convert_float_float w _ _ _ _ _ _ (by kernel_rfl) (by kernel_rfl) (by decide +kernel)
  have a3 : ∀ t (w : World), (binOp .add t (.float .f64 4607182418800017408) (.float .f64 0)).run Try.prog w = .ok (.float .f64 4607182418800017408) w := fun t w => run_float_arith w .add t .f64 _ _ _ (by decide +kernel)
  have b3 : ∀ t (w : World), (binOp .sub t (.float .f64 4607182418800017408) (.float .f64 0)).run Try.prog w = .ok (.float .f64 4607182418800017408) w := fun t w => run_float_arith w .sub t .f64 _ _ _ (by decide +kernel)
  have c3 : ∀ t (w : World), (binOp .quo t (.float .f64 4607182418800017408) (.float .f64 4611686018427387904)).run Try.prog w = .ok (.float .f64 4602678819172646912) w := fun t w => run_float_arith w .quo t .f64 _ _ _ (by decide +kernel)
  have a4 : ∀ t (w : World), (binOp .add t (.float .f64 4607182418800017408) (.float .f64 4604544271217802189)).run Try.prog w = .ok (.float .f64 4610366944636280294) w := fun t w => run_float_arith w .add t .f64 _ _ _ (by decide +kernel)
  have b4 : ∀ t (w : World), (binOp .sub t (.float .f64 4607182418800017408) (.float .f64 4604544271217802189)).run Try.prog w = .ok (.float .f64 4598947915082336358) w := fun t w => run_float_arith w .sub t .f64 _ _ _ (by decide +kernel)
  have c4 : ∀ t (w : World), (binOp .quo t (.float .f64 4610366944636280294) (.float .f64 4611686018427387904)).run Try.prog w = .ok (.float .f64 4605863345008909798) w := fun t w => run_float_arith w .quo t .f64 _ _ _ (by decide +kernel)
  have d4 : ∀ t (w : World), (binOp .quo t (.float .f64 4598947915082336358) (.float .f64 4611686018427387904)).run Try.prog w = .ok (.float .f64 4594444315454965862) w := fun t w => run_float_arith w .quo t .f64 _ _ _ (by decide +kernel)
  have a5 : ∀ t (w : World), (binOp .add t (.float .f64 4607182418800017408) (.float .f64 4606496786581982534)).run Try.prog w = .ok (.float .f64 4611343202318370467) w := fun t w => run_float_arith w .add t .f64 _ _ _ (by decide +kernel)
  have b5 : ∀ t (w : World), (binOp .sub t (.float .f64 4607182418800017408) (.float .f64 4606496786581982534)).run Try.prog w = .ok (.float .f64 4590149478407443920) w := fun t w => run_float_arith w .sub t .f64 _ _ _ (by decide +kernel)
  have c5 : ∀ t (w : World), (binOp .quo t (.float .f64 4611343202318370467) (.float .f64 4611686018427387904)).run Try.prog w = .ok (.float .f64 4606839602690999971) w := fun t w => run_float_arith w .quo t .f64 _ _ _ (by decide +kernel)
  have d5 : ∀ t (w : World), (binOp .quo t (.float .f64 4590149478407443920) (.float .f64 4611686018427387904)).run Try.prog w = .ok (.float .f64 4585645878780073424) w := fun t w => run_float_arith w .quo t .f64 _ _ _ (by decide +kernel)
  have h11 : canon 1065353216 = 1065353216 := by decide
  have h10 : canon 0 = 0 := by decide
  have H1 := Lib.hid (And.intro h11 h10)
  clear h11 h10
  obtain ⟨i0, hi0, hz0, hz1, hz2⟩ := info_parts info38
  go_enter Try.func33, Try.ntmps33
  go_wp2_with (go_at_call 59; refine (points_yes 32 (by unfold Pt; omega) _).mono ?_; rintro e w' ⟨rfl, rfl⟩)
  go_loopw [4, 5, 6] (fun c d i wr => wr = w ∧ ((c = .float .f64 0 ∧ d = .float .f64 4607182418800017408 ∧ i = .int .i64 8) ∨ (c = .float .f64 4604544271217802189 ∧ d = .float .f64 4604544271217802189 ∧ i = .int .i64 16) ∨ (c = .float .f64 4606496786581982534 ∧ d = .float .f64 4600565431771507042 ∧ i = .int .i64 32) ∨ (c = .float .f64 4607009347991985328 ∧ d = .float .f64 4596196889902818828 ∧ i = .int .i64 64))) (fun _ _ v _ => 300 - (intOf v).toNat)
  case atStart => exact ⟨rfl, .inl ⟨rfl, rfl, rfl⟩⟩
  case round =>
    obtain ⟨rfl, hr⟩ := hrel
    rename World => wq
    rcases hr with ⟨rfl, rfl, rfl⟩ | ⟨rfl, rfl, rfl⟩ | ⟨rfl, rfl, rfl⟩ | ⟨rfl, rfl, rfl⟩
    · go_wp2_with (go_at_call 55; first | (refine (sqrt_any 4602678819172646912 4604544271217802189 (by decide +kernel) _).mono ?_; rintro e w' ⟨rfl, rfl⟩) | (refine (sqrt_any 4602678819172646912 4604544271217802189 (by decide +kernel) _).mono ?_; rintro e w' ⟨rfl, rfl⟩))
      go_roundw
      case rel => simp
      case measure => simp [intOf]
    · go_wp2_with (go_at_call 55; first | (refine (sqrt_any 4605863345008909798 4606496786581982534 (by decide +kernel) _).mono ?_; rintro e w' ⟨rfl, rfl⟩) | (refine (sqrt_any 4594444315454965862 4600565431771507042 (by decide +kernel) _).mono ?_; rintro e w' ⟨rfl, rfl⟩))
      go_roundw
      case rel => simp
      case measure => simp [intOf]
    · go_wp2_with (go_at_call 55; first | (refine (sqrt_any 4606839602690999971 4607009347991985328 (by decide +kernel) _).mono ?_; rintro e w' ⟨rfl, rfl⟩) | (refine (sqrt_any 4585645878780073424 4596196889902818828 (by decide +kernel) _).mono ?_; rintro e w' ⟨rfl, rfl⟩))
      go_roundw
      case rel => simp
      case measure => simp [intOf]
    · clear a3 b3 c3 a4 b4 c4 d4 a5 b5 c5 d5
      go_wp2_with (first
        | (go_at_call 24
           first
             | (have hq := HB2.out
                refine (rof_to 1065030846 (Op.negFloat .f32 1044891074) (firstW 5).1 (firstW 5).2 (by decide) (by decide) _).mono ?_
                rintro e w3 ⟨rfl, hb3⟩
                have HB3 := Lib.hid hb3
                clear hb3 hq)
             | (refine (rof_to 1065353216 0 1065353216 0 H1.out.1 H1.out.2 _).mono ?_
                rintro e w2 ⟨rfl, hb2⟩
                have HB2 := Lib.hid hb2
                clear hb2)))
      obtain ⟨x, hx⟩ : ∃ x, x = (firstW 5).1 := ⟨_, rfl⟩
      obtain ⟨y, hy⟩ : ∃ y, y = (firstW 5).2 := ⟨_, rfl⟩
      rw [← hx, ← hy]
      have HX := Lib.hid hx
      have HY := Lib.hid hy
      clear hx hy
      have hA2 : At wq (w2.alloc (.cells #[.int .u32 1065353216, .int .u32 0] 38)) [] := (At.mk HB2.out trivial : At wq w2 []).alloc _
      have hA3 := (hA2.step HB3.out).two (.int .u32 x) (.int .u32 y) 38 _ rfl
      have hO2 := own_one w2 w2.heap.size (Nat.le_refl _) (.int .u32 1065353216) (.int .u32 0) 38
      have hO3 := (own_below hO2 HB3.out).alloc (.cells #[.int .u32 x, .int .u32 y] 38)
      have hz : w2.heap.size < w3.heap.size := by have := HB3.out.size; simp at this; omega
      have hw : wq.heap.size ≤ w2.heap.size := HB2.out.size
      obtain ⟨B, hB⟩ : ∃ B, B = w3.heap.size := ⟨_, rfl⟩
      obtain ⟨R, hR⟩ : ∃ R, R = w2.heap.size := ⟨_, rfl⟩
      obtain ⟨W, hW⟩ : ∃ W, W = w3.alloc (.cells #[.int .u32 x, .int .u32 y] 38) := ⟨_, rfl⟩
      rw [← hW, ← hB] at hA3
      rw [← hW, ← hR] at hO3
      rw [← hB, ← hR] at hz
      rw [← hR] at hw
      rw [← hW, ← hB, ← hR]
      have HA := Lib.hid hA3
      have HO := Lib.hid hO3
      have HZ := Lib.hid hz
      have HWL := Lib.hid hw
      clear hA2 hA3 hO2 hO3 hz hB hR hW hw HB2 HB3
      go_loopw [9, 11] (fun out v wr => ∃ j g cap : Nat, out = .slice (some ⟨g, 0, none⟩) (j + 1) cap ∧ v = .int .i64 ((j + 1 : Nat) : Int) ∧ j + 1 ≤ 32 ∧ g ≠ B ∧ wr.ownsRow R 38 2 (.slice (some ⟨g, 0, none⟩) (j + 1) cap) (j + 1) (cellsN (facL (x, y) (j + 1))) ∧ R ≤ wr.heap.size ∧ At wq wr [(B, 0, .int .u32 x), (B, 1, .int .u32 y)]) (fun _ v _ => 200 - (intOf v).toNat)
      case atStart => exact ⟨0, R, 1, rfl, rfl, by omega, by have := HZ.out; omega, HO.out, Nat.le_of_lt (HO.out.lt R rfl).2, HA.out⟩
      case round =>
        obtain ⟨j, g, cap, rfl, rfl, hj, hgB, hown, hsz, hA⟩ := hrel
        have HO := Lib.hid hown
        have HA := Lib.hid hA
        have HS := Lib.hid hsz
        have HG := Lib.hid hgB
        clear hown hA hsz hgB
        by_cases hlt : j + 1 < 32
        · obtain ⟨u, hu⟩ : ∃ u, u = fac (x, y) j := ⟨_, rfl⟩
          obtain ⟨n0, n1⟩ := Num.of_row HO.out j u (by rw [hu]; exact facL_at _ _ _ (by omega))
          rw [Nat.mul_comm] at n0 n1
          obtain ⟨⟨c0, -⟩, ⟨c1, -⟩, -⟩ := HA.out.mem
          have HU := Lib.hid hu
          clear hu
          obtain ⟨q, hq⟩ : ∃ q, q = j + 1 := ⟨_, rfl⟩
          have i1 : (q : Int) < 32 := by omega
          have i2 : (0 : Int) ≤ q := by omega
          have i3 : IntKind.i64.wrap ((q : Int) - 1) = (j : Int) := by rw [show (q : Int) - 1 = (j : Int) by omega]; exact IntWalk.i64_in _ (by omega)
          have i4 : (j : Int) < q := by omega
          have i5 : (0 : Int) ≤ j := by omega
          have i6 : IntKind.i64.wrap ((q : Int) + 1) = ((q + 1 : Nat) : Int) := by rw [show (q : Int) + 1 = ((q + 1 : Nat) : Int) by omega]; exact IntWalk.i64_in _ (by omega)
          rw [← hq] at HO ⊢
          have HQ := Lib.hid hq
          have HLT := Lib.hid hlt
          clear hq hlt hj
          go_wp2_with fail
          go_region_law ((first
            | (go_simp; go_at_call 21; refine (rmul_any u.1 u.2 x y _).mono ?_; rintro e w4 ⟨rfl, hb4⟩; clear n0 n1 c0 c1; have HO3 := Lib.hid (own_below HO.out hb4); have HA3 := Lib.hid (HA.out.step hb4); have HS3 : Hid (R ≤ w4.heap.size) := (Nat.le_trans HS.out hb4.size); clear hb4; obtain ⟨m, hm⟩ : ∃ m, m = mulW (u.1, u.2) (x, y) := ⟨_, rfl⟩; rw [← hm]; have HM := Lib.hid hm; clear hm; unfold num; go_simp)
            | (refine step_append_lies _ (by rfl) _ _ _ (by rfl) R 38 i0 (.agg #[.int .u32 0, .int .u32 0]) 2 8 Try.underlying27 hi0 hz0 hz1 hz2 rfl (by decide) _ q _ (by rfl) (HO3.out.alloc _) ⟨w4.heap.size, 0, none⟩ 1 1 [.int .u32 m.1, .int .u32 m.2] (by rfl) rfl (cell_two_new _ _ _ _) (by simp [Value.oneCell']) (by omega) (by unfold maxLen; omega) (by omega) (by have := HS3.out; simp; omega) (w4.heap.size + 1) (by simp) ?_; intro g4 cap4 w5 hown4 hgrow4 hat4 hlt4; have HO4 := Lib.hid hown4; have HG4 := Lib.hid hgrow4; have hat : g = g4 ∨ g4 = w4.heap.size + 1 := (by simpa [Value.ownBlock] using hat4); have HAT := Lib.hid hat; clear hat hown4 hgrow4 hat4 hlt4)))
          all_goals
            have hBs : B < w4.heap.size := cell_lt HA3.out.mem.1.1
            have hgw : wq.heap.size ≤ g := Nat.le_trans HWL.out ((HO3.out.lt) g rfl).1
            have hA4 : At wq w5 [(B, 0, .int .u32 x), (B, 1, .int .u32 y)] := (HA3.out.alloc _).grown HG4.out (fun k e => by have e2 : g = k := Option.some.inj e; omega) (fun z hz e => by
              have hb : z.1 = B := by simp at hz; rcases hz with rfl | rfl <;> rfl
              have e2 : z.1 = g := Option.some.inj e
              have := HG.out
              omega)
            have hO4 : w5.ownsRow R 38 2 (.slice (some ⟨g4, 0, none⟩) (q + 1) cap4) (q + 1) (cellsN (facL (x, y) (q + 1))) := by
              rw [facL_snoc, cellsN_append]
              have e : fac (x, y) q = mulW (u.1, u.2) (x, y) := by rw [HQ.out, HU.out]; rfl
              rw [e, ← HM.out]
              exact HO4.out
            have hs4 : R ≤ w5.heap.size := by have := HG4.out.size; have := HS3.out; simp at *; omega
            have hg4 : g4 ≠ B := by have := HG.out; rcases HAT.out with h | h <;> omega
            have HA4 := Lib.hid hA4
            have HO5 := Lib.hid hO4
            have HS4 := Lib.hid hs4
            have HG5 := Lib.hid hg4
            clear hA4 hO4 hs4 hg4 hBs hgw
            simp only [List.getElem_toArray, List.getElem_cons_succ, List.getElem_cons_zero]
            simp only [Act.put, List.setIfInBounds_toArray, List.set_cons_zero, List.set_cons_succ]
            go_wp2
            go_roundw
            case rel => exact ⟨q, g4, cap4, rfl, rfl, by have := HLT.out; have := HQ.out; omega, HG5.out, HO5.out, HS4.out, HA4.out⟩
            case measure => have := HLT.out; have := HQ.out; simp [intOf]; omega
        · have hjn : j + 1 = 32 := by omega
          have i1 : ¬ ((j + 1 : Nat) : Int) < 32 := by omega
          rw [hjn] at HO i1 ⊢
          go_wp2
          go_ret2
          refine ⟨g, ⟨cap, rfl⟩, ?_, Nat.le_trans HWL.out (HO.out.lt g rfl).1, HA.out.below⟩
          have := Num.of_row HO.out
          rw [HX.out, HY.out] at this
          exact this

set_option maxRecDepth 100000 in
set_option maxHeartbeats 4000000 in
theorem rtwiddles64 (w : World) : Calls Try.prog 33 #[.int .i64 64] w fun e w' => ∃ g cap, e = .returned (.tuple #[.slice (some ⟨g, 0, none⟩) 64 cap, .int .i64 0]) ∧ Num w' g (facL (firstW 6) 64) ∧ w.heap.size ≤ g ∧ Below w.heap.size w w' := by
  have k1 : ∀ w, (convert 86 29 (.float .f64 4607139046673687846)).run Try.prog w = .ok (.float .f32 1065272429) w := fun w => run_convert_float_float w _ _ _ _ _ _ (by kernel_rfl) (by kernel_rfl) (by decide +kernel)
  have k2 : ∀ w, (convert 86 29 (.float .f64 4591727299969791023)).run Try.prog w = .ok (.float .f32 1036565814) w := fun w => run_convert_float_float w _ _ _ _ _ _ (by kernel_rfl) (by kernel_rfl) (by decide +kernel)
  have a3 : ∀ t (w : World), (binOp .add t (.float .f64 4607182418800017408) (.float .f64 0)).run Try.prog w = .ok (.float .f64 4607182418800017408) w := fun t w => run_float_arith w .add t .f64 _ _ _ (by decide +kernel)
  have b3 : ∀ t (w : World), (binOp .sub t (.float .f64 4607182418800017408) (.float .f64 0)).run Try.prog w = .ok (.float .f64 4607182418800017408) w := fun t w => run_float_arith w .sub t .f64 _ _ _ (by decide +kernel)
  have c3 : ∀ t (w : World), (binOp .quo t (.float .f64 4607182418800017408) (.float .f64 4611686018427387904)).run Try.prog w = .ok (.float .f64 4602678819172646912) w := fun t w => run_float_arith w .quo t .f64 _ _ _ (by decide +kernel)
  have a4 : ∀ t (w : World), (binOp .add t (.float .f64 4607182418800017408) (.float .f64 4604544271217802189)).run Try.prog w = .ok (.float .f64 4610366944636280294) w := fun t w => run_float_arith w .add t .f64 _ _ _ (by decide +kernel)
  have b4 : ∀ t (w : World), (binOp .sub t (.float .f64 4607182418800017408) (.float .f64 4604544271217802189)).run Try.prog w = .ok (.float .f64 4598947915082336358) w := fun t w => run_float_arith w .sub t .f64 _ _ _ (by decide +kernel)
  have c4 : ∀ t (w : World), (binOp .quo t (.float .f64 4610366944636280294) (.float .f64 4611686018427387904)).run Try.prog w = .ok (.float .f64 4605863345008909798) w := fun t w => run_float_arith w .quo t .f64 _ _ _ (by decide +kernel)
  have d4 : ∀ t (w : World), (binOp .quo t (.float .f64 4598947915082336358) (.float .f64 4611686018427387904)).run Try.prog w = .ok (.float .f64 4594444315454965862) w := fun t w => run_float_arith w .quo t .f64 _ _ _ (by decide +kernel)
  have a5 : ∀ t (w : World), (binOp .add t (.float .f64 4607182418800017408) (.float .f64 4606496786581982534)).run Try.prog w = .ok (.float .f64 4611343202318370467) w := fun t w => run_float_arith w .add t .f64 _ _ _ (by decide +kernel)
  have b5 : ∀ t (w : World), (binOp .sub t (.float .f64 4607182418800017408) (.float .f64 4606496786581982534)).run Try.prog w = .ok (.float .f64 4590149478407443920) w := fun t w => run_float_arith w .sub t .f64 _ _ _ (by decide +kernel)
  have c5 : ∀ t (w : World), (binOp .quo t (.float .f64 4611343202318370467) (.float .f64 4611686018427387904)).run Try.prog w = .ok (.float .f64 4606839602690999971) w := fun t w => run_float_arith w .quo t .f64 _ _ _ (by decide +kernel)
  have d5 : ∀ t (w : World), (binOp .quo t (.float .f64 4590149478407443920) (.float .f64 4611686018427387904)).run Try.prog w = .ok (.float .f64 4585645878780073424) w := fun t w => run_float_arith w .quo t .f64 _ _ _ (by decide +kernel)
  have a6 : ∀ t (w : World), (binOp .add t (.float .f64 4607182418800017408) (.float .f64 4607009347991985328)).run Try.prog w = .ok (.float .f64 4611599483023371864) w := fun t w => run_float_arith w .add t .f64 _ _ _ (by decide +kernel)
  have b6 : ∀ t (w : World), (binOp .sub t (.float .f64 4607182418800017408) (.float .f64 4607009347991985328)).run Try.prog w = .ok (.float .f64 4581195487265450496) w := fun t w => run_float_arith w .sub t .f64 _ _ _ (by decide +kernel)
  have c6 : ∀ t (w : World), (binOp .quo t (.float .f64 4611599483023371864) (.float .f64 4611686018427387904)).run Try.prog w = .ok (.float .f64 4607095883396001368) w := fun t w => run_float_arith w .quo t .f64 _ _ _ (by decide +kernel)
  have d6 : ∀ t (w : World), (binOp .quo t (.float .f64 4581195487265450496) (.float .f64 4611686018427387904)).run Try.prog w = .ok (.float .f64 4576691887638080000) w := fun t w => run_float_arith w .quo t .f64 _ _ _ (by decide +kernel)
  have h11 : canon 1065353216 = 1065353216 := by decide
  have h10 : canon 0 = 0 := by decide
  have H1 := Lib.hid (And.intro h11 h10)
  clear h11 h10
  obtain ⟨i0, hi0, hz0, hz1, hz2⟩ := info_parts info38
  go_enter Try.func33, Try.ntmps33
  go_wp2_with (go_at_call 59; refine (points_yes 64 (by unfold Pt; omega) _).mono ?_; rintro e w' ⟨rfl, rfl⟩)
  go_loopw [4, 5, 6] (fun c d i wr => wr = w ∧ ((c = .float .f64 0 ∧ d = .float .f64 4607182418800017408 ∧ i = .int .i64 8) ∨ (c = .float .f64 4604544271217802189 ∧ d = .float .f64 4604544271217802189 ∧ i = .int .i64 16) ∨ (c = .float .f64 4606496786581982534 ∧ d = .float .f64 4600565431771507042 ∧ i = .int .i64 32) ∨ (c = .float .f64 4607009347991985328 ∧ d = .float .f64 4596196889902818828 ∧ i = .int .i64 64) ∨ (c = .float .f64 4607139046673687846 ∧ d = .float .f64 4591727299969791023 ∧ i = .int .i64 128))) (fun _ _ v _ => 300 - (intOf v).toNat)
  case atStart => exact ⟨rfl, .inl ⟨rfl, rfl, rfl⟩⟩
  case round =>
    obtain ⟨rfl, hr⟩ := hrel
    rename World => wq
    rcases hr with ⟨rfl, rfl, rfl⟩ | ⟨rfl, rfl, rfl⟩ | ⟨rfl, rfl, rfl⟩ | ⟨rfl, rfl, rfl⟩ | ⟨rfl, rfl, rfl⟩
    · go_wp2_with (go_at_call 55; first | (refine (sqrt_any 4602678819172646912 4604544271217802189 (by decide +kernel) _).mono ?_; rintro e w' ⟨rfl, rfl⟩) | (refine (sqrt_any 4602678819172646912 4604544271217802189 (by decide +kernel) _).mono ?_; rintro e w' ⟨rfl, rfl⟩))
      go_roundw
      case rel => simp
      case measure => simp [intOf]
    · go_wp2_with (go_at_call 55; first | (refine (sqrt_any 4605863345008909798 4606496786581982534 (by decide +kernel) _).mono ?_; rintro e w' ⟨rfl, rfl⟩) | (refine (sqrt_any 4594444315454965862 4600565431771507042 (by decide +kernel) _).mono ?_; rintro e w' ⟨rfl, rfl⟩))
      go_roundw
      case rel => simp
      case measure => simp [intOf]
    · go_wp2_with (go_at_call 55; first | (refine (sqrt_any 4606839602690999971 4607009347991985328 (by decide +kernel) _).mono ?_; rintro e w' ⟨rfl, rfl⟩) | (refine (sqrt_any 4585645878780073424 4596196889902818828 (by decide +kernel) _).mono ?_; rintro e w' ⟨rfl, rfl⟩))
      go_roundw
      case rel => simp
      case measure => simp [intOf]
    · go_wp2_with (go_at_call 55; first | (refine (sqrt_any 4607095883396001368 4607139046673687846 (by decide +kernel) _).mono ?_; rintro e w' ⟨rfl, rfl⟩) | (refine (sqrt_any 4576691887638080000 4591727299969791023 (by decide +kernel) _).mono ?_; rintro e w' ⟨rfl, rfl⟩))
      go_roundw
      case rel => simp
      case measure => simp [intOf]
    · clear a3 b3 c3 a4 b4 c4 d4 a5 b5 c5 d5 a6 b6 c6 d6
      go_wp2_with (first
        | (go_at_call 24
           first
             | (have hq := HB2.out
                refine (rof_to 1065272429 (Op.negFloat .f32 1036565814) (firstW 6).1 (firstW 6).2 (by decide) (by decide) _).mono ?_
                rintro e w3 ⟨rfl, hb3⟩
                have HB3 := Lib.hid hb3
                clear hb3 hq)
             | (refine (rof_to 1065353216 0 1065353216 0 H1.out.1 H1.out.2 _).mono ?_
                rintro e w2 ⟨rfl, hb2⟩
                have HB2 := Lib.hid hb2
                clear hb2)))
      obtain ⟨x, hx⟩ : ∃ x, x = (firstW 6).1 := ⟨_, rfl⟩
      obtain ⟨y, hy⟩ : ∃ y, y = (firstW 6).2 := ⟨_, rfl⟩
      rw [← hx, ← hy]
      have HX := Lib.hid hx
      have HY := Lib.hid hy
      clear hx hy
      have hA2 : At wq (w2.alloc (.cells #[.int .u32 1065353216, .int .u32 0] 38)) [] := (At.mk HB2.out trivial : At wq w2 []).alloc _
      have hA3 := (hA2.step HB3.out).two (.int .u32 x) (.int .u32 y) 38 _ rfl
      have hO2 := own_one w2 w2.heap.size (Nat.le_refl _) (.int .u32 1065353216) (.int .u32 0) 38
      have hO3 := (own_below hO2 HB3.out).alloc (.cells #[.int .u32 x, .int .u32 y] 38)
      have hz : w2.heap.size < w3.heap.size := by have := HB3.out.size; simp at this; omega
      have hw : wq.heap.size ≤ w2.heap.size := HB2.out.size
      obtain ⟨B, hB⟩ : ∃ B, B = w3.heap.size := ⟨_, rfl⟩
      obtain ⟨R, hR⟩ : ∃ R, R = w2.heap.size := ⟨_, rfl⟩
      obtain ⟨W, hW⟩ : ∃ W, W = w3.alloc (.cells #[.int .u32 x, .int .u32 y] 38) := ⟨_, rfl⟩
      rw [← hW, ← hB] at hA3
      rw [← hW, ← hR] at hO3
      rw [← hB, ← hR] at hz
      rw [← hR] at hw
      rw [← hW, ← hB, ← hR]
      have HA := Lib.hid hA3
      have HO := Lib.hid hO3
      have HZ := Lib.hid hz
      have HWL := Lib.hid hw
      clear hA2 hA3 hO2 hO3 hz hB hR hW hw HB2 HB3
      go_loopw [9, 11] (fun out v wr => ∃ j g cap : Nat, out = .slice (some ⟨g, 0, none⟩) (j + 1) cap ∧ v = .int .i64 ((j + 1 : Nat) : Int) ∧ j + 1 ≤ 64 ∧ g ≠ B ∧ wr.ownsRow R 38 2 (.slice (some ⟨g, 0, none⟩) (j + 1) cap) (j + 1) (cellsN (facL (x, y) (j + 1))) ∧ R ≤ wr.heap.size ∧ At wq wr [(B, 0, .int .u32 x), (B, 1, .int .u32 y)]) (fun _ v _ => 200 - (intOf v).toNat)
      case atStart => exact ⟨0, R, 1, rfl, rfl, by omega, by have := HZ.out; omega, HO.out, Nat.le_of_lt (HO.out.lt R rfl).2, HA.out⟩
      case round =>
        obtain ⟨j, g, cap, rfl, rfl, hj, hgB, hown, hsz, hA⟩ := hrel
        have HO := Lib.hid hown
        have HA := Lib.hid hA
        have HS := Lib.hid hsz
        have HG := Lib.hid hgB
        clear hown hA hsz hgB
        by_cases hlt : j + 1 < 64
        · obtain ⟨u, hu⟩ : ∃ u, u = fac (x, y) j := ⟨_, rfl⟩
          obtain ⟨n0, n1⟩ := Num.of_row HO.out j u (by rw [hu]; exact facL_at _ _ _ (by omega))
          rw [Nat.mul_comm] at n0 n1
          obtain ⟨⟨c0, -⟩, ⟨c1, -⟩, -⟩ := HA.out.mem
          have HU := Lib.hid hu
          clear hu
          obtain ⟨q, hq⟩ : ∃ q, q = j + 1 := ⟨_, rfl⟩
          have i1 : (q : Int) < 64 := by omega
          have i2 : (0 : Int) ≤ q := by omega
          have i3 : IntKind.i64.wrap ((q : Int) - 1) = (j : Int) := by rw [show (q : Int) - 1 = (j : Int) by omega]; exact IntWalk.i64_in _ (by omega)
          have i4 : (j : Int) < q := by omega
          have i5 : (0 : Int) ≤ j := by omega
          have i6 : IntKind.i64.wrap ((q : Int) + 1) = ((q + 1 : Nat) : Int) := by rw [show (q : Int) + 1 = ((q + 1 : Nat) : Int) by omega]; exact IntWalk.i64_in _ (by omega)
          rw [← hq] at HO ⊢
          have HQ := Lib.hid hq
          have HLT := Lib.hid hlt
          clear hq hlt hj
          go_wp2_with fail
          go_region_law ((first
            | (go_simp; go_at_call 21; refine (rmul_any u.1 u.2 x y _).mono ?_; rintro e w4 ⟨rfl, hb4⟩; clear n0 n1 c0 c1; have HO3 := Lib.hid (own_below HO.out hb4); have HA3 := Lib.hid (HA.out.step hb4); have HS3 : Hid (R ≤ w4.heap.size) := (Nat.le_trans HS.out hb4.size); clear hb4; obtain ⟨m, hm⟩ : ∃ m, m = mulW (u.1, u.2) (x, y) := ⟨_, rfl⟩; rw [← hm]; have HM := Lib.hid hm; clear hm; unfold num; go_simp)
            | (refine step_append_lies _ (by rfl) _ _ _ (by rfl) R 38 i0 (.agg #[.int .u32 0, .int .u32 0]) 2 8 Try.underlying27 hi0 hz0 hz1 hz2 rfl (by decide) _ q _ (by rfl) (HO3.out.alloc _) ⟨w4.heap.size, 0, none⟩ 1 1 [.int .u32 m.1, .int .u32 m.2] (by rfl) rfl (cell_two_new _ _ _ _) (by simp [Value.oneCell']) (by omega) (by unfold maxLen; omega) (by omega) (by have := HS3.out; simp; omega) (w4.heap.size + 1) (by simp) ?_; intro g4 cap4 w5 hown4 hgrow4 hat4 hlt4; have HO4 := Lib.hid hown4; have HG4 := Lib.hid hgrow4; have hat : g = g4 ∨ g4 = w4.heap.size + 1 := (by simpa [Value.ownBlock] using hat4); have HAT := Lib.hid hat; clear hat hown4 hgrow4 hat4 hlt4)))
          all_goals
            have hBs : B < w4.heap.size := cell_lt HA3.out.mem.1.1
            have hgw : wq.heap.size ≤ g := Nat.le_trans HWL.out ((HO3.out.lt) g rfl).1
            have hA4 : At wq w5 [(B, 0, .int .u32 x), (B, 1, .int .u32 y)] := (HA3.out.alloc _).grown HG4.out (fun k e => by have e2 : g = k := Option.some.inj e; omega) (fun z hz e => by
              have hb : z.1 = B := by simp at hz; rcases hz with rfl | rfl <;> rfl
              have e2 : z.1 = g := Option.some.inj e
              have := HG.out
              omega)
            have hO4 : w5.ownsRow R 38 2 (.slice (some ⟨g4, 0, none⟩) (q + 1) cap4) (q + 1) (cellsN (facL (x, y) (q + 1))) := by
              rw [facL_snoc, cellsN_append]
              have e : fac (x, y) q = mulW (u.1, u.2) (x, y) := by rw [HQ.out, HU.out]; rfl
              rw [e, ← HM.out]
              exact HO4.out
            have hs4 : R ≤ w5.heap.size := by have := HG4.out.size; have := HS3.out; simp at *; omega
            have hg4 : g4 ≠ B := by have := HG.out; rcases HAT.out with h | h <;> omega
            have HA4 := Lib.hid hA4
            have HO5 := Lib.hid hO4
            have HS4 := Lib.hid hs4
            have HG5 := Lib.hid hg4
            clear hA4 hO4 hs4 hg4 hBs hgw
            simp only [List.getElem_toArray, List.getElem_cons_succ, List.getElem_cons_zero]
            simp only [Act.put, List.setIfInBounds_toArray, List.set_cons_zero, List.set_cons_succ]
            go_wp2
            go_roundw
            case rel => exact ⟨q, g4, cap4, rfl, rfl, by have := HLT.out; have := HQ.out; omega, HG5.out, HO5.out, HS4.out, HA4.out⟩
            case measure => have := HLT.out; have := HQ.out; simp [intOf]; omega
        · have hjn : j + 1 = 64 := by omega
          have i1 : ¬ ((j + 1 : Nat) : Int) < 64 := by omega
          rw [hjn] at HO i1 ⊢
          go_wp2
          go_ret2
          refine ⟨g, ⟨cap, rfl⟩, ?_, Nat.le_trans HWL.out (HO.out.lt g rfl).1, HA.out.below⟩
          have := Num.of_row HO.out
          rw [HX.out, HY.out] at this
          exact this

theorem rtwiddles_two (k n : Nat) (hk : k ≤ 6) (hn : n = 2 ^ k) (w : World) : Calls Try.prog 33 #[.int .i64 n] w fun e w' => ∃ g cap, e = .returned (.tuple #[.slice (some ⟨g, 0, none⟩) n cap, .int .i64 0]) ∧ Num w' g (facL (firstW k) n) ∧ w.heap.size ≤ g ∧ Below w.heap.size w w' := by
  subst hn
  rcases (show k = 0 ∨ k = 1 ∨ k = 2 ∨ k = 3 ∨ k = 4 ∨ k = 5 ∨ k = 6 by omega) with rfl | rfl | rfl | rfl | rfl | rfl | rfl
  · exact rtwiddles1 w
  · exact rtwiddles2 w
  · exact rtwiddles4 w
  · exact rtwiddles8 w
  · exact rtwiddles16 w
  · exact rtwiddles32 w
  · exact rtwiddles64 w

end Nu
end Go.Proofs.Ytkkdimhibfpopaa
