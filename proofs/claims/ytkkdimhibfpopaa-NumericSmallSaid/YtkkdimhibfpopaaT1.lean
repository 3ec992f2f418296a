/- Contracts: the reference's Of, the absolute value of 3 + 4 i. -/
import Derived.Test.YtkkdimhibfpopaaS1
import Derived.Test.YtkkdimhibfpopaaA7
namespace Go.Proofs.Ytkkdimhibfpopaa
open Go.ChangeShapes Go.WideShapes Go.ChangeAt Go.RowKit
namespace Nu

theorem rbits_any (b : Nat) (w : World) : Calls Try.prog 54 #[.float .f32 b] w fun e w' => e = .returned (.int .u32 (canon b)) ∧ w = w' := by
  cases hn : isN b
  · have h1 : (FloatKind.f32.format.order b b != some .eq) = false := by rw [order_yes hn]; rfl
    have HC := Lib.hid (canon_no hn)
    clear hn
    go_enter Try.func54, Try.ntmps54
    go_wp2_with (simp only [tobits_run])
    go_ret
    exact ⟨ret_v (by rw [HC.out]; rfl), rfl⟩
  · have h1 : (FloatKind.f32.format.order b b != some .eq) = true := by rw [order_no hn]; rfl
    have HC := Lib.hid (canon_yes hn)
    clear hn
    go_enter Try.func54, Try.ntmps54
    go_wp2_with (simp only [tobits_run])
    go_ret
    exact ⟨ret_v (by rw [HC.out]; rfl), rfl⟩

theorem rof_any (a b : Nat) (w : World) : Calls Try.prog 24 #[.float .f32 a, .float .f32 b] w fun e w' => e = .returned (.agg #[.int .u32 (canon a), .int .u32 (canon b)]) ∧ Below w.heap.size w w' := by
  go_enter Try.func24, Try.ntmps24
  go_wp2_with (go_at_call 54; refine (rbits_any _ _).mono ?_; rintro e w' ⟨rfl, rfl⟩)
  exact bodyPost_ret (v := .agg #[.int .u32 (canon a), .int .u32 (canon b)]) (by simp [results, Try.results24, go_sem]) rfl ⟨rfl, (Below.refl _ _).alloc (Nat.le_refl _) _⟩

theorem rof_at (a b : Nat) (h1 : canon a = a) (h2 : canon b = b) (w : World) : Calls Try.prog 24 #[.float .f32 a, .float .f32 b] w fun e w' => e = .returned (.agg #[.int .u32 a, .int .u32 b]) ∧ Below w.heap.size w w' := by
  have := rof_any a b w
  rw [h1, h2] at this
  exact this

theorem of_at (p q : Int) (a b : Nat) (h1 : wd p = a) (h2 : wd q = b) (w : World) : Calls Try.prog 39 #[.int .i64 p, .int .i64 q] w fun e w' => e = .returned (.agg #[.int .u32 a, .int .u32 b]) ∧ Below w.heap.size w w' := by
  have := of_int p q w
  rw [h1, h2] at this
  exact this

set_option maxHeartbeats 1000000 in
theorem abs_five (w : World) : Calls Try.prog 25 #[.agg #[.int .u32 1077936128, .int .u32 1082130432]] w fun e w' => e = .returned (.int .u32 1084227584) ∧ Below w.heap.size w w' := by
  have hA := (At.first w).two (.int .u32 1077936128) (.int .u32 1082130432) 32 _ rfl
  have k1 : ∀ w, (convert 29 86 (.float .f32 1077936128)).run Try.prog w = .ok (.float .f64 4613937818241073152) w := fun w => run_convert_float_float w _ _ _ _ _ _ (by kernel_rfl) (by kernel_rfl) (by decide +kernel)
  have k2 : ∀ w, (convert 29 86 (.float .f32 1082130432)).run Try.prog w = .ok (.float .f64 4616189618054758400) w := fun w => run_convert_float_float w _ _ _ _ _ _ (by kernel_rfl) (by kernel_rfl) (by decide +kernel)
  have k3 : ∀ w, (convert 86 29 (.float .f64 4617315517961601024)).run Try.prog w = .ok (.float .f32 1084227584) w := fun w => run_convert_float_float w _ _ _ _ _ _ (by kernel_rfl) (by kernel_rfl) (by decide +kernel)
  have k4 : ∀ t (w : World), (binOp .mul t (.float .f64 4613937818241073152) (.float .f64 4613937818241073152)).run Try.prog w = .ok (.float .f64 4621256167635550208) w := fun t w => run_float_arith w .mul t .f64 _ _ _ (by decide +kernel)
  have k5 : ∀ t (w : World), (binOp .mul t (.float .f64 4616189618054758400) (.float .f64 4616189618054758400)).run Try.prog w = .ok (.float .f64 4625196817309499392) w := fun t w => run_float_arith w .mul t .f64 _ _ _ (by decide +kernel)
  have k6 : ∀ t (w : World), (binOp .add t (.float .f64 4621256167635550208) (.float .f64 4625196817309499392)).run Try.prog w = .ok (.float .f64 4627730092099895296) w := fun t w => run_float_arith w .add t .f64 _ _ _ (by decide +kernel)
  have c1 : canon 1077936128 = 1077936128 := by decide
  have c2 : canon 1082130432 = 1082130432 := by decide
  have c3 : canon 1084227584 = 1084227584 := by decide
  have C := Lib.hid (And.intro c1 (And.intro c2 c3))
  have HA := Lib.hid hA
  clear c1 c2 c3 hA
  go_enter Try.func25, Try.ntmps25
  go_wp2_with (first
    | (go_at_call 11; refine (parts_any 1077936128 1082130432 _).mono ?_; rintro e w1 ⟨rfl, hb1⟩; have HA1 := Lib.hid (HA.out.step hb1); clear hb1; rw [C.out.1, C.out.2.1])
    | (go_at_call 55; refine (sqrt_any 4627730092099895296 4617315517961601024 (by decide +kernel) _).mono ?_; rintro e w' ⟨rfl, rfl⟩)
    | (go_at_call 49; refine (bits_any 1084227584 _).mono ?_; rintro e w' ⟨rfl, rfl⟩; rw [C.out.2.2]))
  go_ret
  exact ⟨rfl, HA1.out.below⟩

end Nu
end Go.Proofs.Ytkkdimhibfpopaa
