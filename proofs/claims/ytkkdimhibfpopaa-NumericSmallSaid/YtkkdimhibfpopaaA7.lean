/- Contracts: a number of two integers, small integers, equal numbers. -/
import Derived.Test.YtkkdimhibfpopaaP3
namespace Go.Proofs.Ytkkdimhibfpopaa
open Go.ChangeShapes Go.WideShapes Go.ChangeAt Go.RowKit
namespace Nu

/-- The word of an integer. -/
def wd (p : Int) : Nat := canon (floatOfInt .f32 p)
theorem wd_rp (p : Int) (h1 : -16777216 ≤ p) (h2 : p ≤ 16777216) : Rp (wd p) p := by
  unfold wd; rw [(rp_of p h1 h2).canon]; exact rp_of p h1 h2
theorem canon_wd (p : Int) : canon (wd p) = wd p := canon_canon _

set_option maxHeartbeats 1000000 in
theorem of_int (p q : Int) (w : World) : Calls Try.prog 39 #[.int .i64 p, .int .i64 q] w fun e w' => e = .returned (num (wd p, wd q)) ∧ Below w.heap.size w w' := by
  have hA := (At.first w).two (.int .u32 0) (.int .u32 0) 32 _ rfl
  obtain ⟨W0, hW0⟩ : ∃ W0, W0 = w.alloc (.cells #[.int .u32 0, .int .u32 0] 32) := ⟨_, rfl⟩
  rw [← hW0] at hA
  have HA := Lib.hid hA
  have HW := Lib.hid hW0
  clear hA hW0
  have hs : (Try.prog.underlying 3).isSome = true := by kernel_rfl
  have hd : Try.prog.underlying 29 = some (.float .f32) := by kernel_rfl
  have hcv : ∀ (n : Int) (w : World), (convert 3 29 (.int .i64 n)).run Try.prog w = .ok (.float .f32 (floatOfInt .f32 n)) w := fun n w => run_convert_int_float w _ _ _ _ n hs hd
  clear hs hd
  go_enter Try.func39, Try.ntmps39
  go_upto_region 1 with (fail)
  rw [← HW.out]
  clear HW
  obtain ⟨⟨g0, i0⟩, ⟨g1, i1⟩, -⟩ := HA.out.mem
  go_wp2_with (first | (go_at_call 18; refine (of_any _ _ _).mono ?_; rintro e w1 ⟨rfl, hb1⟩; clear g0 i0 g1 i1; have HA := Lib.hid (HA.out.step hb1); obtain ⟨⟨g0, i0⟩, ⟨g1, i1⟩, -⟩ := HA.out.mem; clear hb1))
  have HE := At.end2 (x := .int .u32 (canon (floatOfInt .f32 p))) (y := .int .u32 (canon (floatOfInt .f32 q))) HA.out (by omega)
  obtain ⟨e0, e1, hb⟩ := HE
  have HB := Lib.hid hb
  clear hb g0 i0 g1 i1 hcv
  exact bodyPost_ret (v := .agg #[.int .u32 (canon (floatOfInt .f32 p)), .int .u32 (canon (floatOfInt .f32 q))]) (by simp [results, Try.results39, go_sem, e0, e1]) rfl ⟨rfl, HB.out⟩

set_option maxHeartbeats 1000000 in
theorem equal_yes {x y : Nat × Nat} {p q : Int} (hx : RpN x p q) (hy : RpN y p q) (w : World) : Calls Try.prog 41 #[num x, num y] w fun e w' => e = .returned (.bool true) ∧ Below w.heap.size w w' := by
  obtain ⟨a, b⟩ := x
  obtain ⟨c, d⟩ := y
  have h1 : (FloatKind.f32.format.order a c == some .eq) = true := hx.1.eq hy.1
  have h2 : (FloatKind.f32.format.order b d == some .eq) = true := hx.2.eq hy.2
  have k1 := hx.1.canon
  have k2 := hx.2.canon
  have k3 := hy.1.canon
  have k4 := hy.2.canon
  dsimp only at k1 k2 k3 k4
  have HK := Lib.hid (And.intro k1 (And.intro k2 (And.intro k3 k4)))
  clear k1 k2 k3 k4 hx hy
  have hA := ((At.first w).two (.int .u32 a) (.int .u32 b) 32 _ rfl).two (.int .u32 c) (.int .u32 d) 32 (w.heap.size + 1) (by simp)
  obtain ⟨W0, hW0⟩ : ∃ W0, W0 = (w.alloc (.cells #[.int .u32 a, .int .u32 b] 32)).alloc (.cells #[.int .u32 c, .int .u32 d] 32) := ⟨_, rfl⟩
  rw [← hW0] at hA
  have HA := Lib.hid hA
  have HW := Lib.hid hW0
  clear hA hW0
  unfold num
  go_enter Try.func41, Try.ntmps41
  go_upto_region 1 with (fail)
  rw [← HW.out]
  clear HW
  obtain ⟨⟨c0, f0⟩, ⟨c1, f1⟩, ⟨c2, f2⟩, ⟨c3, f3⟩, -⟩ := HA.out.mem
  go_wp2_with (go_at_call 11; refine (parts_any _ _ _).mono ?_; rintro e w1 ⟨rfl, hb1⟩; clear c0 f0 c1 f1 c2 f2 c3 f3; have HA := Lib.hid (HA.out.step hb1); obtain ⟨⟨c0, f0⟩, ⟨c1, f1⟩, ⟨c2, f2⟩, ⟨c3, f3⟩, -⟩ := HA.out.mem; clear hb1; first | rw [HK.out.1, HK.out.2.1] | rw [HK.out.2.2.1, HK.out.2.2.2])
  go_ret
  exact ⟨rfl, HA.out.below⟩

theorem small_any (n : Int) (w : World) (h1 : -32768 ≤ n) (h2 : n ≤ 32767) : Calls Try.prog 40 #[.int .i16 n] w fun e w' => e = .returned (.int .i64 (n.tmod 1001)) ∧ w' = w := by
  go_enter Try.func40, Try.ntmps40
  go_wp2
  go_ret
  exact ⟨rfl, rfl⟩

end Nu
end Go.Proofs.Ytkkdimhibfpopaa
