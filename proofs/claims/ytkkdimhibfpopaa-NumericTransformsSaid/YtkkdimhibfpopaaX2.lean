/- Contracts: the reference's differences and conjugates. -/
import Derived.Test.YtkkdimhibfpopaaX1
namespace Go.Proofs.Ytkkdimhibfpopaa
open Go.ChangeShapes Go.WideShapes Go.ChangeAt Go.RowKit
namespace Nu

set_option maxRecDepth 100000 in
set_option maxHeartbeats 2000000 in
theorem rsub_any (a b c d : Nat) (w : World) : Calls Try.prog 20 #[.agg #[.int .u32 a, .int .u32 b], .agg #[.int .u32 c, .int .u32 d]] w fun e w' => e = .returned (num (subW (a, b) (c, d))) ∧ Below w.heap.size w w' := by
  have hA := (((At.first w).two (.int .u32 a) (.int .u32 b) 38 _ rfl).two (.int .u32 c) (.int .u32 d) 38 (w.heap.size + 1) (by simp)).two (.int .u32 0) (.int .u32 0) 38 (w.heap.size + 1 + 1) (by simp)
  obtain ⟨W0, hW0⟩ : ∃ W0, W0 = ((w.alloc (.cells #[.int .u32 a, .int .u32 b] 38)).alloc (.cells #[.int .u32 c, .int .u32 d] 38)).alloc (.cells #[.int .u32 0, .int .u32 0] 38) := ⟨_, rfl⟩
  rw [← hW0] at hA
  have HA := Lib.hid hA
  have HW := Lib.hid hW0
  clear hA hW0
  go_enter Try.func20, Try.ntmps20
  go_upto_region 1 with (fail)
  rw [← HW.out]
  clear HW
  obtain ⟨⟨g0, i0⟩, ⟨g1, i1⟩, ⟨c0, f0⟩, ⟨c1, f1⟩, ⟨c2, f2⟩, ⟨c3, f3⟩, -⟩ := HA.out.mem
  have k0 := And.intro c0 (And.intro c1 (And.intro c2 c3))
  go_region_held3 (fun w' => w'.cell? ⟨w.heap.size + 1, 0, none⟩ = some (.int .u32 c) ∧ w'.cell? ⟨w.heap.size + 1, 1, none⟩ = some (.int .u32 d) ∧ w'.cell? ⟨w.heap.size, 0, none⟩ = some (.int .u32 a) ∧ w'.cell? ⟨w.heap.size, 1, none⟩ = some (.int .u32 b)) (first | exact kx | exact ⟨far2 c0 (by omega), far2 c1 (by omega), far2 c2 (by omega), far2 c3 (by omega)⟩ | exact k0)
    (first
      | (go_at_call 51
         refine (rf_any _ _).mono ?_
         rintro e w1 ⟨rfl, rfl⟩
         go_simp)
      | (go_at_call 52
         refine (rminus_any _ _ _).mono ?_
         rintro e w1 ⟨v, rfl, hv, hb⟩
         have HA := Lib.hid (HA.out.step hb)
         clear g0 i0 g1 i1 c0 f0 c1 f1 c2 f2 c3 f3
         first
           | (have HV2 := Lib.hid (And.intro HV1.out hv); clear hv hb)
           | (have HV1 := Lib.hid hv; clear hv hb)
         obtain ⟨⟨g0, i0⟩, ⟨g1, i1⟩, ⟨c0, f0⟩, ⟨c1, f1⟩, ⟨c2, f2⟩, ⟨c3, f3⟩, -⟩ := HA.out.mem
         have kx := And.intro c0 (And.intro c1 (And.intro c2 c3))
         go_simp)
      | (go_at_call 24
         refine (rof_any _ _ _).mono ?_
         rintro e w1 ⟨rfl, hb⟩
         have HA := Lib.hid (HA.out.step hb)
         rw [HV2.out.1, HV2.out.2]
         clear g0 i0 g1 i1 c0 f0 c1 f1 c2 f2 c3 f3
         clear hb
         obtain ⟨⟨g0, i0⟩, ⟨g1, i1⟩, ⟨c0, f0⟩, ⟨c1, f1⟩, ⟨c2, f2⟩, ⟨c3, f3⟩, -⟩ := HA.out.mem
         have kx := And.intro c0 (And.intro c1 (And.intro c2 c3))
         go_simp))
  have HE := At.end2 (x := .int .u32 (fop .sub a c)) (y := .int .u32 (fop .sub b d)) HA.out (by omega)
  obtain ⟨e0, e1, hb⟩ := HE
  have HB := Lib.hid hb
  clear hb
  clear g0 i0 g1 i1 c0 f0 c1 f1 c2 f2 c3 f3
  go_wp2
  exact bodyPost_ret (v := .agg #[.int .u32 (fop .sub a c), .int .u32 (fop .sub b d)]) (by simp [results, Try.results20, go_sem, e0, e1]) rfl ⟨rfl, HB.out⟩


theorem run_fneg32 {P : Program} (w : World) (x : Nat) : (Op.unary .neg (.float .f32 x)).run P w = .ok (.float .f32 (Op.negFloat .f32 x)) w := by simp [Op.unary]
attribute [local go_sem] run_fneg32

theorem negW_raw (b : Nat) : canon (Op.negFloat .f32 b) = negW b := by
  unfold negW
  cases h : isN b
  · rw [canon_no h]
  · rw [canon_yes h]
    have h1 : isN (Op.negFloat .f32 b) = true := by
      obtain ⟨s, t, hr⟩ := read_nan h
      have hn : Op.negFloat .f32 b = b ^^^ 2 ^ 31 := rfl
      have hm : (b ^^^ 2 ^ 31) % 2147483648 = b % 2147483648 := by
        rw [show (2147483648 : Nat) = 2 ^ 31 by rfl, Nat.xor_mod_two_pow]
        try simp
      rw [hn]
      unfold isN at h ⊢
      unfold Ieee.Format.read at h ⊢
      rw [sw] at h ⊢
      rw [hm]
      dsimp only at h ⊢
      split at h
      · cases h
      · rename_i h2
        rw [if_neg h2]
        split at h
        · cases h
        · rename_i h3
          rw [if_neg h3]
          split at h
          · cases h
          · rename_i h4
            rw [if_neg h4]
            rfl
    rw [canon_yes h1]
    decide

set_option maxRecDepth 100000 in
set_option maxHeartbeats 2000000 in
theorem rconj_any (a b : Nat) (w : World) : Calls Try.prog 23 #[.agg #[.int .u32 a, .int .u32 b]] w fun e w' => e = .returned (num (conjW (a, b))) ∧ Below w.heap.size w w' := by
  have hA := ((At.first w).two (.int .u32 a) (.int .u32 b) 38 _ rfl).two (.int .u32 0) (.int .u32 0) 38 (w.heap.size + 1) (by simp)
  obtain ⟨W0, hW0⟩ : ∃ W0, W0 = (w.alloc (.cells #[.int .u32 a, .int .u32 b] 38)).alloc (.cells #[.int .u32 0, .int .u32 0] 38) := ⟨_, rfl⟩
  rw [← hW0] at hA
  have HA := Lib.hid hA
  have HW := Lib.hid hW0
  clear hA hW0
  go_enter Try.func23, Try.ntmps23
  go_upto_region 1 with (fail)
  rw [← HW.out]
  clear HW
  obtain ⟨⟨g0, i0⟩, ⟨g1, i1⟩, ⟨c0, f0⟩, ⟨c1, f1⟩, -⟩ := HA.out.mem
  have k0 := And.intro c0 c1
  go_region_held3 (fun w' => w'.cell? ⟨w.heap.size, 0, none⟩ = some (.int .u32 a) ∧ w'.cell? ⟨w.heap.size, 1, none⟩ = some (.int .u32 b)) (first | exact kx | exact ⟨far2 c0 (by omega), far2 c1 (by omega)⟩ | exact k0)
    (first
      | (go_at_call 51
         refine (rf_any _ _).mono ?_
         rintro e w1 ⟨rfl, rfl⟩
         go_simp)
      | (go_at_call 24
         refine (rof_any _ _ _).mono ?_
         rintro e w1 ⟨rfl, hb⟩
         have HA := Lib.hid (HA.out.step hb)
         rw [negW_raw]
         clear g0 i0 g1 i1 c0 f0 c1 f1
         clear hb
         obtain ⟨⟨g0, i0⟩, ⟨g1, i1⟩, ⟨c0, f0⟩, ⟨c1, f1⟩, -⟩ := HA.out.mem
         have kx := And.intro c0 c1
         go_simp))
  all_goals
    have HE := At.end2 (x := .int .u32 (canon a)) (y := .int .u32 (negW b)) HA.out (by omega)
    obtain ⟨e0, e1, hb⟩ := HE
    have HB := Lib.hid hb
    clear hb
    clear g0 i0 g1 i1 c0 f0 c1 f1
    go_wp2
    exact bodyPost_ret (v := .agg #[.int .u32 (canon a), .int .u32 (negW b)]) (by simp [results, Try.results23, go_sem, e0, e1]) rfl ⟨rfl, HB.out⟩

end Nu
end Go.Proofs.Ytkkdimhibfpopaa
