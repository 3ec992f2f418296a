/- Contracts: the numbers that belong to a size (1, 2, 4, .., 64), roots. -/
import Derived.Test.YtkkdimhibfpopaaR3
namespace Go.Proofs.Ytkkdimhibfpopaa
open Go.ChangeShapes Go.WideShapes Go.ChangeAt Go.RowKit
namespace Nu

theorem sqrt_run (x r : Nat) (h : FloatKind.f64.format.sqrt x = some r) (w : World) : (callFunc 65 #[.float .f64 x]).run Try.prog w = .ok (.value (.float .f64 r)) w := by
  rw [run_callFunc_extern Try.func65 (by kernel_rfl) (by kernel_rfl) (by kernel_rfl) (e := Extern.MathSqrt.sqrt) (by kernel_rfl)]
  have h2 : (Extern.MathSqrt.sqrt #[.float .f64 x]).run Try.prog w = .ok (.float .f64 r) w := by
    have h3 : (Extern.MathSqrt.sqrt #[.float .f64 x]).run Try.prog w = (match FloatKind.f64.format.sqrt x with | some r => (pure (.float .f64 r) : Sem Value) | none => do pure (.float .f64 (← choose (.nanBits .f64 x x)))).run Try.prog w := rfl
    rw [h3, h]
    rfl
  rw [h2]
  rfl

theorem sqrt_any (x r : Nat) (h : FloatKind.f64.format.sqrt x = some r) (w : World) : Calls Try.prog 55 #[.float .f64 x] w fun e w' => e = .returned (.float .f64 r) ∧ w = w' := by
  have HR := sqrt_run x r h
  clear h
  go_enter Try.func55, Try.ntmps55
  go_wp2_with (simp only [HR])
  go_ret
  exact ⟨rfl, rfl⟩

theorem angle1 (w : World) : Calls Try.prog 66 #[.int .i64 1] w fun e w' => e = .returned (.tuple #[.float .f64 4607182418800017408, .float .f64 0]) ∧ w = w' := by
  go_enter Try.func66, Try.ntmps66
  go_wp2
  go_ret2
  exact ⟨rfl, rfl⟩

theorem angle2 (w : World) : Calls Try.prog 66 #[.int .i64 2] w fun e w' => e = .returned (.tuple #[.float .f64 13830554455654793216, .float .f64 0]) ∧ w = w' := by
  go_enter Try.func66, Try.ntmps66
  go_wp2
  go_ret2
  exact ⟨rfl, rfl⟩

theorem angle4 (w : World) : Calls Try.prog 66 #[.int .i64 4] w fun e w' => e = .returned (.tuple #[.float .f64 0, .float .f64 4607182418800017408]) ∧ w = w' := by
  go_enter Try.func66, Try.ntmps66
  go_wp2
  go_ret2
  exact ⟨rfl, rfl⟩

theorem angle8 (w : World) : Calls Try.prog 66 #[.int .i64 8] w fun e w' => e = .returned (.tuple #[.float .f64 4604544271217802189, .float .f64 4604544271217802189]) ∧ w = w' := by
  have h1 : ∀ t (w : World), (binOp .add t (.float .f64 4607182418800017408) (.float .f64 0)).run Try.prog w = .ok (.float .f64 4607182418800017408) w := fun t w => run_float_arith w .add t .f64 _ _ _ (by decide +kernel)
  have h2 : ∀ t (w : World), (binOp .quo t (.float .f64 4607182418800017408) (.float .f64 4611686018427387904)).run Try.prog w = .ok (.float .f64 4602678819172646912) w := fun t w => run_float_arith w .quo t .f64 _ _ _ (by decide +kernel)
  have h3 : ∀ t (w : World), (binOp .sub t (.float .f64 4607182418800017408) (.float .f64 0)).run Try.prog w = .ok (.float .f64 4607182418800017408) w := fun t w => run_float_arith w .sub t .f64 _ _ _ (by decide +kernel)
  have h4 : ∀ t (w : World), (binOp .quo t (.float .f64 4607182418800017408) (.float .f64 4611686018427387904)).run Try.prog w = .ok (.float .f64 4602678819172646912) w := fun t w => run_float_arith w .quo t .f64 _ _ _ (by decide +kernel)
  go_enter Try.func66, Try.ntmps66
  go_wp2_with (first
    | (go_at_call 66; refine (angle4 _).mono ?_; rintro e w' ⟨rfl, rfl⟩)
    | (go_at_call 55; first | (refine (sqrt_any 4602678819172646912 4604544271217802189 (by decide +kernel) _).mono ?_; rintro e w' ⟨rfl, rfl⟩) | (refine (sqrt_any 4602678819172646912 4604544271217802189 (by decide +kernel) _).mono ?_; rintro e w' ⟨rfl, rfl⟩)))
  go_ret2
  exact ⟨rfl, rfl⟩

theorem angle16 (w : World) : Calls Try.prog 66 #[.int .i64 16] w fun e w' => e = .returned (.tuple #[.float .f64 4606496786581982534, .float .f64 4600565431771507042]) ∧ w = w' := by
  have h1 : ∀ t (w : World), (binOp .add t (.float .f64 4607182418800017408) (.float .f64 4604544271217802189)).run Try.prog w = .ok (.float .f64 4610366944636280294) w := fun t w => run_float_arith w .add t .f64 _ _ _ (by decide +kernel)
  have h2 : ∀ t (w : World), (binOp .quo t (.float .f64 4610366944636280294) (.float .f64 4611686018427387904)).run Try.prog w = .ok (.float .f64 4605863345008909798) w := fun t w => run_float_arith w .quo t .f64 _ _ _ (by decide +kernel)
  have h3 : ∀ t (w : World), (binOp .sub t (.float .f64 4607182418800017408) (.float .f64 4604544271217802189)).run Try.prog w = .ok (.float .f64 4598947915082336358) w := fun t w => run_float_arith w .sub t .f64 _ _ _ (by decide +kernel)
  have h4 : ∀ t (w : World), (binOp .quo t (.float .f64 4598947915082336358) (.float .f64 4611686018427387904)).run Try.prog w = .ok (.float .f64 4594444315454965862) w := fun t w => run_float_arith w .quo t .f64 _ _ _ (by decide +kernel)
  go_enter Try.func66, Try.ntmps66
  go_wp2_with (first
    | (go_at_call 66; refine (angle8 _).mono ?_; rintro e w' ⟨rfl, rfl⟩)
    | (go_at_call 55; first | (refine (sqrt_any 4605863345008909798 4606496786581982534 (by decide +kernel) _).mono ?_; rintro e w' ⟨rfl, rfl⟩) | (refine (sqrt_any 4594444315454965862 4600565431771507042 (by decide +kernel) _).mono ?_; rintro e w' ⟨rfl, rfl⟩)))
  go_ret2
  exact ⟨rfl, rfl⟩

theorem angle32 (w : World) : Calls Try.prog 66 #[.int .i64 32] w fun e w' => e = .returned (.tuple #[.float .f64 4607009347991985328, .float .f64 4596196889902818828]) ∧ w = w' := by
  have h1 : ∀ t (w : World), (binOp .add t (.float .f64 4607182418800017408) (.float .f64 4606496786581982534)).run Try.prog w = .ok (.float .f64 4611343202318370467) w := fun t w => run_float_arith w .add t .f64 _ _ _ (by decide +kernel)
  have h2 : ∀ t (w : World), (binOp .quo t (.float .f64 4611343202318370467) (.float .f64 4611686018427387904)).run Try.prog w = .ok (.float .f64 4606839602690999971) w := fun t w => run_float_arith w .quo t .f64 _ _ _ (by decide +kernel)
  have h3 : ∀ t (w : World), (binOp .sub t (.float .f64 4607182418800017408) (.float .f64 4606496786581982534)).run Try.prog w = .ok (.float .f64 4590149478407443920) w := fun t w => run_float_arith w .sub t .f64 _ _ _ (by decide +kernel)
  have h4 : ∀ t (w : World), (binOp .quo t (.float .f64 4590149478407443920) (.float .f64 4611686018427387904)).run Try.prog w = .ok (.float .f64 4585645878780073424) w := fun t w => run_float_arith w .quo t .f64 _ _ _ (by decide +kernel)
  go_enter Try.func66, Try.ntmps66
  go_wp2_with (first
    | (go_at_call 66; refine (angle16 _).mono ?_; rintro e w' ⟨rfl, rfl⟩)
    | (go_at_call 55; first | (refine (sqrt_any 4606839602690999971 4607009347991985328 (by decide +kernel) _).mono ?_; rintro e w' ⟨rfl, rfl⟩) | (refine (sqrt_any 4585645878780073424 4596196889902818828 (by decide +kernel) _).mono ?_; rintro e w' ⟨rfl, rfl⟩)))
  go_ret2
  exact ⟨rfl, rfl⟩

theorem angle64 (w : World) : Calls Try.prog 66 #[.int .i64 64] w fun e w' => e = .returned (.tuple #[.float .f64 4607139046673687846, .float .f64 4591727299969791023]) ∧ w = w' := by
  have h1 : ∀ t (w : World), (binOp .add t (.float .f64 4607182418800017408) (.float .f64 4607009347991985328)).run Try.prog w = .ok (.float .f64 4611599483023371864) w := fun t w => run_float_arith w .add t .f64 _ _ _ (by decide +kernel)
  have h2 : ∀ t (w : World), (binOp .quo t (.float .f64 4611599483023371864) (.float .f64 4611686018427387904)).run Try.prog w = .ok (.float .f64 4607095883396001368) w := fun t w => run_float_arith w .quo t .f64 _ _ _ (by decide +kernel)
  have h3 : ∀ t (w : World), (binOp .sub t (.float .f64 4607182418800017408) (.float .f64 4607009347991985328)).run Try.prog w = .ok (.float .f64 4581195487265450496) w := fun t w => run_float_arith w .sub t .f64 _ _ _ (by decide +kernel)
  have h4 : ∀ t (w : World), (binOp .quo t (.float .f64 4581195487265450496) (.float .f64 4611686018427387904)).run Try.prog w = .ok (.float .f64 4576691887638080000) w := fun t w => run_float_arith w .quo t .f64 _ _ _ (by decide +kernel)
  go_enter Try.func66, Try.ntmps66
  go_wp2_with (first
    | (go_at_call 66; refine (angle32 _).mono ?_; rintro e w' ⟨rfl, rfl⟩)
    | (go_at_call 55; first | (refine (sqrt_any 4607095883396001368 4607139046673687846 (by decide +kernel) _).mono ?_; rintro e w' ⟨rfl, rfl⟩) | (refine (sqrt_any 4576691887638080000 4591727299969791023 (by decide +kernel) _).mono ?_; rintro e w' ⟨rfl, rfl⟩)))
  go_ret2
  exact ⟨rfl, rfl⟩

end Nu
end Go.Proofs.Ytkkdimhibfpopaa
