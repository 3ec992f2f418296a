/- Contracts: the reference's transforms and powers. -/
import Derived.Test.YtkkdimhibfpopaaX5
namespace Go.Proofs.Ytkkdimhibfpopaa
open Go.ChangeShapes Go.WideShapes Go.ChangeAt Go.RowKit Go.WideMaps Go.Maps
namespace Nu

theorem rtransform_fwd (k n cap b : Nat) (L : List (Nat × Nat)) (w : World) (hk : k ≤ 6) (hn : n = 2 ^ k) (hL : L.length = n) (hN : Num w b L) :
    Calls Try.prog 35 #[.slice (some ⟨b, 0, none⟩) n cap, .bool false] w fun e w' => ∃ g cap', e = .returned (.tuple #[.slice (some ⟨g, 0, none⟩) n cap', .int .i64 0]) ∧ Num w' g (trL k L) ∧ w.heap.size ≤ g ∧ Below w.heap.size w w' := by
  have hp : Pt n := by
    subst hn; unfold Pt
    rcases (show k = 0 ∨ k = 1 ∨ k = 2 ∨ k = 3 ∨ k = 4 ∨ k = 5 ∨ k = 6 by omega) with rfl | rfl | rfl | rfl | rfl | rfl | rfl <;> simp
  have Hn := Lib.hid hn
  have HL := Lib.hid hL
  have HN := Lib.hid hN
  have HP := Lib.hid hp
  clear hn hL hN hp
  go_enter Try.func35, Try.ntmps35
  go_wp2_with (first
    | (go_at_call 59; refine (points_yes n HP.out _).mono ?_; rintro e w' ⟨rfl, rfl⟩)
    | (go_at_call 63
       refine (rfw_any k hk n cap b L _ Hn.out HL.out HN.out).mono ?_
       rintro e w1 ⟨g, cap', rfl, hn1, hg1, hb1⟩
       have HN1 := Lib.hid hn1
       have HG1 := Lib.hid hg1
       have HB1 := Lib.hid hb1
       clear hn1 hg1 hb1))
  go_ret2
  exact ⟨g, cap', rfl, HN1.out, HG1.out, HB1.out⟩

/-- A row of the reference's numbers, appended to. -/
structure R1 (W1 W : World) (u : Value) (j : Nat) (L : List (Nat × Nat)) : Prop where
  below : Below W1.heap.size W1 W
  own : W.ownsRow W1.heap.size 38 2 u j (cellsN L)
theorem R1.step {W1 W X V : World} {u : Value} {j : Nat} {L : List (Nat × Nat)} (h : R1 W1 W u j L) (hv : Below X.heap.size X V) (e1 : X.heap = W.heap := by rfl) (e2 : X.os = W.os := by rfl) (e3 : X.tape = W.tape := by rfl) (e4 : X.output = W.output := by rfl) : R1 W1 V u j L :=
  ⟨h.below.grown (below_grown hv e1 e2 e3 e4 none) h.below.size (by simp), own_below h.own hv e1⟩
theorem R1.alloc {W1 W : World} {u : Value} {j : Nat} {L : List (Nat × Nat)} (h : R1 W1 W u j L) (o : Obj) : R1 W1 (W.alloc o) u j L := h.step ((Below.refl _ W).alloc (Nat.le_refl _) o)
theorem R1.app {W1 X V : World} {u : Value} {j g cap : Nat} {L L' : List (Nat × Nat)} (h : R1 W1 X u j L) (hown : V.ownsRow W1.heap.size 38 2 (.slice (some ⟨g, 0, none⟩) (j + 1) cap) (j + 1) (cellsN L')) (hg : X.grownBy V u.ownBlock) : R1 W1 V (.slice (some ⟨g, 0, none⟩) (j + 1) cap) (j + 1) L' :=
  ⟨h.below.grown hg h.below.size (fun k e => (h.own.lt k e).1), hown⟩
theorem R1.lit (W : World) : R1 W (W.alloc (.cells #[] 38)) (.slice (some ⟨W.heap.size, 0, none⟩) 0 0) 0 [] :=
  ⟨(Below.refl _ W).alloc (Nat.le_refl _) _, World.ownsRow_lit W #[] 0 (Nat.le_refl _) (by unfold maxLen; omega) rfl⟩

def mapJ (G : Nat × Nat → Nat × Nat) (L : List (Nat × Nat)) (j : Nat) : List (Nat × Nat) := (List.range j).map fun i => G (at2 L i)
theorem mapJ_snoc (G : Nat × Nat → Nat × Nat) (L : List (Nat × Nat)) (j : Nat) : mapJ G L (j + 1) = mapJ G L j ++ [G (at2 L j)] := by unfold mapJ; rw [List.range_succ, List.map_append]; rfl
theorem mapJ_all (G : Nat × Nat → Nat × Nat) (L : List (Nat × Nat)) : mapJ G L L.length = L.map G := by
  apply List.ext_getElem?
  intro j
  by_cases h : j < L.length
  · unfold mapJ
    rw [List.getElem?_map, List.getElem?_range h, List.getElem?_map, at2_at h]; rfl
  · unfold mapJ
    rw [List.getElem?_eq_none (by simp; omega), List.getElem?_eq_none (by simp; omega)]

theorem canon_quo2 (a fl : Nat) (w : World) : canon (raw .quo a fl w) = fop .quo a fl := canon_raw .quo a fl w
theorem conj_canon (x : Nat × Nat) (fl : Nat) : (fop .quo (conjW x).1 fl, fop .quo (conjW x).2 fl) = invW fl x := rfl

attribute [local go_sem] run_fquo'

set_option maxRecDepth 100000 in
set_option maxHeartbeats 8000000 in
theorem rtransform_inv (k n cap b : Nat) (L : List (Nat × Nat)) (w : World) (hk : k ≤ 6) (hn : n = 2 ^ k) (hL : L.length = n) (hN : Num w b L) :
    Calls Try.prog 35 #[.slice (some ⟨b, 0, none⟩) n cap, .bool true] w fun e w' => ∃ g cap', e = .returned (.tuple #[.slice (some ⟨g, 0, none⟩) n cap', .int .i64 0]) ∧ Num w' g (invL k L) ∧ w.heap.size ≤ g ∧ Below w.heap.size w w' := by
  have hp : Pt n := by
    subst hn; unfold Pt
    rcases (show k = 0 ∨ k = 1 ∨ k = 2 ∨ k = 3 ∨ k = 4 ∨ k = 5 ∨ k = 6 by omega) with rfl | rfl | rfl | rfl | rfl | rfl | rfl <;> simp
  have h64 : n ≤ 64 := by rw [hn]; exact Nat.le_trans (Nat.pow_le_pow_right (by omega) hk) (by decide)
  have h1 : 1 ≤ n := by rw [hn]; exact Nat.two_pow_pos k
  have i0 : (n : Int) ≤ 64 := by omega
  have Hn := Lib.hid hn
  have HL := Lib.hid hL
  have HN := Lib.hid hN
  have HP := Lib.hid hp
  have H64 := Lib.hid h64
  have H1 := Lib.hid h1
  clear hn hL hN hp h64 h1
  obtain ⟨z0, hz0, hz1, hz2, hz3⟩ := info_parts info38
  have HLIT := Lib.hid (R1.lit w)
  obtain ⟨fl, hfl⟩ : ∃ fl, fl = floatOfInt .f32 (n : Int) := ⟨_, rfl⟩
  have HFL := Lib.hid hfl
  have hsi : (Try.prog.underlying 3).isSome = true := by kernel_rfl
  have hsd : Try.prog.underlying 29 = some (.float .f32) := by kernel_rfl
  have hcv : ∀ (w : World), (convert 3 29 (.int .i64 n)).run Try.prog w = .ok (.float .f32 fl) w := fun w => by rw [HFL.out]; exact run_convert_int_float w _ _ _ _ _ hsi hsd
  clear hsi hsd hfl
  go_enter Try.func35, Try.ntmps35
  go_wp2_with (first
    | (go_at_call 59; refine (points_yes n HP.out _).mono ?_; rintro e w' ⟨rfl, rfl⟩))
  go_loopw [6, 7] (fun u v wr => ∃ j : Nat, v = .int .i64 j ∧ j ≤ n ∧ R1 w wr u j (mapJ conjW L j)) (fun _ v _ => 100 - (intOf v).toNat)
  case atStart => exact ⟨0, rfl, Nat.zero_le _, HLIT.out⟩
  case round =>
    rename World => W1
    obtain ⟨j, rfl, hj, hr⟩ := hrel
    have HR := Lib.hid hr
    have HJ := Lib.hid hj
    clear hj hr
    by_cases hlt : j < n
    · obtain ⟨x, hx⟩ : ∃ x, x = at2 L j := ⟨_, rfl⟩
      obtain ⟨x0, x1⟩ := (HN.out.below rfl HR.out.below) j x (by rw [hx]; exact at2_at (by rw [HL.out]; exact hlt))
      rw [Nat.mul_comm] at x0 x1
      have i2 : (j : Int) < n := by omega
      have i3 : (0 : Int) ≤ j := by omega
      have HX := Lib.hid hx
      have HLT := Lib.hid hlt
      clear hx hlt
      go_wp2_with (first
        | (go_at_call 23
           refine (rconj_any x.1 x.2 _).mono ?_
           rintro e w3 ⟨rfl, hb3⟩
           have HR3 := Lib.hid (HR.out.step hb3)
           clear hb3 x0 x1
           obtain ⟨m, hm⟩ : ∃ m, m = conjW (x.1, x.2) := ⟨_, rfl⟩
           rw [← hm]
           have HM := Lib.hid hm
           clear hm
           unfold num)
        | (at_builtin; refine wpList_append_lies _ rfl _ _ 27 rfl w.heap.size 38 z0 (.agg #[.int .u32 0, .int .u32 0]) 2 8 Try.underlying27 hz0 hz1 hz2 hz3 rfl (by decide) _ j _ rfl (HR3.out.own.alloc (.cells #[.int .u32 m.1, .int .u32 m.2] 38)) ⟨w3.heap.size, 0, none⟩ 1 1 [.int .u32 m.1, .int .u32 m.2] rfl rfl (cell_two_new _ _ _ _) (by simp [Value.oneCell']) (by omega) (by have := H64.out; have := HLT.out; unfold maxLen; omega) (by have := H64.out; have := HLT.out; omega) (by have := HR3.out.below.size; simp; omega) _ rfl ?_
           intro g5 cap5 w5 hown5 hgrow5 hat5 hlt5
           have HR5 := Lib.hid ((HR3.out.alloc (.cells #[.int .u32 m.1, .int .u32 m.2] 38)).app (L' := mapJ conjW L (j + 1)) (by rw [mapJ_snoc, cellsN_append, ← HX.out]; rw [HM.out] at hown5; exact hown5) hgrow5)
           clear hown5 hgrow5 hat5 hlt5))
      go_roundw
      case rel => exact ⟨j + 1, congrArg (Value.int .i64) (by omega), by have := HLT.out; omega, HR5.out⟩
      case measure => have := HLT.out; have := H64.out; simp [intOf]; omega
    · have hjn : j = n := by have := HJ.out; omega
      have i2 : ¬ (j : Int) < n := by omega
      have hl := HR.out
      rw [hjn] at hl
      obtain ⟨gC, capC, rfl, -⟩ := own_someT hl.own H1.out
      have hNC := Num.of_row hl.own
      rw [← HL.out, mapJ_all] at hNC
      have HNC := Lib.hid hNC
      have HB1 := Lib.hid hl.below
      clear hl hNC hjn hlt HR HJ
      go_upto_region 12 with (first
        | (go_at_call 63
           refine (rfw_any k hk n capC gC (L.map conjW) _ Hn.out (by rw [List.length_map]; exact HL.out) HNC.out).mono ?_
           rintro e w6 ⟨gT, capT, rfl, hn6, -, hb6⟩
           have HN6 := Lib.hid hn6
           have HB6 := Lib.hid hb6
           clear hn6 hb6))
      obtain ⟨T, hT⟩ : ∃ T, T = trL k (L.map conjW) := ⟨_, rfl⟩
      have hn6 := HN6.out
      rw [← hT] at hn6
      have HN6 := Lib.hid hn6
      have HLT : Hid (T.length = n) := by rw [hT, trL_len, Hn.out]; exact rfl
      have HT := Lib.hid hT
      have HLIT6 := Lib.hid (R1.lit w6)
      clear hn6 hT hcv
      go_wp2_with fail
      go_loopw [9, 10] (fun u v wr => ∃ j : Nat, v = .int .i64 j ∧ j ≤ n ∧ R1 w6 wr u j (mapJ (invW fl) T j)) (fun _ v _ => 100 - (intOf v).toNat)
      case atStart => exact ⟨0, rfl, Nat.zero_le _, HLIT6.out⟩
      case round =>
        rename World => W7
        obtain ⟨j, rfl, hj, hr⟩ := hrel
        have HR := Lib.hid hr
        have HJ := Lib.hid hj
        clear hj hr
        by_cases hlt : j < n
        · obtain ⟨x, hx⟩ : ∃ x, x = at2 T j := ⟨_, rfl⟩
          obtain ⟨x0, x1⟩ := (HN6.out.below rfl HR.out.below) j x (by rw [hx]; exact at2_at (by rw [HLT.out]; exact hlt))
          rw [Nat.mul_comm] at x0 x1
          have i2 : (j : Int) < n := by omega
          have i3 : (0 : Int) ≤ j := by omega
          have HX := Lib.hid hx
          have HLT2 := Lib.hid hlt
          clear hx hlt
          go_upto_region 17 with (first
            | (go_at_call 23
               refine (rconj_any x.1 x.2 _).mono ?_
               rintro e w8 ⟨rfl, hb8⟩
               have HR8 := Lib.hid (HR.out.step hb8)
               clear hb8 x0 x1
               obtain ⟨m, hm⟩ : ∃ m, m = conjW (x.1, x.2) := ⟨_, rfl⟩
               rw [← hm]
               have HM := Lib.hid hm
               clear hm
               unfold num))
          have m0 := (new_cell w8 #[.int .u32 m.1, .int .u32 m.2] 38 0 (.int .u32 m.1) rfl).1
          have m1 := (new_cell w8 #[.int .u32 m.1, .int .u32 m.2] 38 1 (.int .u32 m.2) rfl).1
          obtain ⟨B8, hB8⟩ : ∃ B8, B8 = w8.heap.size := ⟨_, rfl⟩
          obtain ⟨W9, hW9⟩ : ∃ W9, W9 = w8.alloc (.cells #[.int .u32 m.1, .int .u32 m.2] 38) := ⟨_, rfl⟩
          have hr9 := HR8.out.alloc (.cells #[.int .u32 m.1, .int .u32 m.2] 38)
          rw [← hW9] at hr9
          rw [← hW9, ← hB8] at m0 m1 ⊢
          have HR9 := Lib.hid hr9
          clear hr9 hW9 hB8
          go_region_law ((first
            | (go_simp; go_at_call 51; refine (rf_any _ _).mono ?_; rintro e wx ⟨rfl, rfl⟩; go_simp)
            | (go_simp; go_at_call 24; refine (rof_any _ _ _).mono ?_; rintro e w10 ⟨rfl, hb10⟩; clear m0 m1; have HR10 := Lib.hid (HR9.out.step hb10); clear hb10; rw [canon_quo2, canon_quo2]; obtain ⟨s, hs⟩ : ∃ s : Nat × Nat, s = (fop .quo m.1 fl, fop .quo m.2 fl) := ⟨_, rfl⟩; have es1 : fop .quo m.1 fl = s.1 := (by rw [hs]); have es2 : fop .quo m.2 fl = s.2 := (by rw [hs]); rw [es1, es2]; have HS := Lib.hid hs; clear hs es1 es2; go_simp)
            | (refine step_append_lies _ (by rfl) _ _ _ (by rfl) w6.heap.size 38 z0 (.agg #[.int .u32 0, .int .u32 0]) 2 8 Try.underlying27 hz0 hz1 hz2 hz3 rfl (by decide) _ j _ (by rfl) (HR10.out.own.alloc _) ⟨w10.heap.size, 0, none⟩ 1 1 [.int .u32 s.1, .int .u32 s.2] (by rfl) rfl (cell_two_new _ _ _ _) (by simp [Value.oneCell']) (by omega) (by have := H64.out; have := HLT2.out; unfold maxLen; omega) (by have := H64.out; have := HLT2.out; omega) (by have := HR10.out.below.size; simp; omega) (w10.heap.size + 1) (by simp) ?_; intro g11 cap11 w11 hown11 hgrow11 hat11 hlt11; have HR11 := Lib.hid ((HR10.out.alloc (.cells #[.int .u32 s.1, .int .u32 s.2] 38)).app (L' := mapJ (invW fl) T (j + 1)) (by rw [mapJ_snoc, cellsN_append, ← HX.out]; rw [HS.out, HM.out] at hown11; exact hown11) hgrow11); clear hown11 hgrow11 hat11 hlt11)))
          all_goals
            simp only [List.getElem_toArray, List.getElem_cons_succ, List.getElem_cons_zero]
            simp only [Act.put, List.setIfInBounds_toArray, List.set_cons_zero, List.set_cons_succ]
            go_wp2_with fail
            go_roundw
            case rel => exact ⟨j + 1, congrArg (Value.int .i64) (by omega), by have := HLT2.out; omega, HR11.out⟩
            case measure => have := HLT2.out; have := H64.out; simp [intOf]; omega
        · have hjn : j = n := by have := HJ.out; omega
          have i2 : ¬ (j : Int) < n := by omega
          have hl := HR.out
          rw [hjn] at hl
          obtain ⟨gR, capR, rfl, hgR⟩ := own_someT hl.own H1.out
          have hNR := Num.of_row hl.own
          rw [← HLT.out, mapJ_all] at hNR
          have HNR := Lib.hid hNR
          have HBL := Lib.hid hl.below
          have HGR := Lib.hid hgR
          clear hl hNR hjn hlt HR HJ hgR
          go_wp2_with fail
          go_ret2
          have b1 := HB1.out
          have b2 : Below w.heap.size w w6 := b1.grown (grown_same (below_grown HB6.out rfl rfl rfl rfl none)) b1.size (by simp)
          have b3 : Below w.heap.size w W7 := b2.grown (below_grown HBL.out rfl rfl rfl rfl none) b2.size (by simp)
          refine ⟨gR, ⟨capR, rfl⟩, ?_, Nat.le_trans b2.size HGR.out, b3⟩
          have := HNR.out
          rw [HFL.out, HT.out, Hn.out] at this
          exact this

end Nu
end Go.Proofs.Ytkkdimhibfpopaa
