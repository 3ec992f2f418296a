/- Contracts: the value of a number, a number of a value, sums and differences. -/
import Derived.Test.YtkkdimhibfpopaaA2
namespace Go.Proofs.Ytkkdimhibfpopaa
open Go.ChangeShapes Go.WideShapes Go.ChangeAt Go.RowKit
namespace Nu

set_option maxHeartbeats 400000 in
theorem value_any (a b : Nat) (w : World) : Calls Try.prog 48 #[.agg #[.int .u32 a, .int .u32 b]] w fun e w' => e = .returned (.complex .f32 (canon a) (canon b)) ∧ Below w.heap.size w w' := by
  go_enter Try.func48, Try.ntmps48
  go_wp2_with fail
  go_quiet ((go_at_call 46; exact Calls.quiet_of_same (part_same _ _)))
  go_wp2_with fail
  go_ret
  exact ⟨rfl, (((Below.refl _ _).alloc (Nat.le_refl _) _).trans (below_drewN (Below.refl _ _) _))⟩

set_option maxHeartbeats 400000 in
theorem number_any (a b : Nat) (w : World) : Calls Try.prog 47 #[.complex .f32 a b] w fun e w' => e = .returned (.agg #[.int .u32 (canon a), .int .u32 (canon b)]) ∧ Below w.heap.size w w' := by
  go_enter Try.func47, Try.ntmps47
  go_wp2_with (go_at_call 49; refine (bits_any _ _).mono ?_; rintro e w' ⟨rfl, rfl⟩)
  exact bodyPost_ret (v := .agg #[.int .u32 (canon a), .int .u32 (canon b)]) (by simp [results, Try.results47, go_sem]) rfl ⟨rfl, (Below.refl _ _).alloc (Nat.le_refl _) _⟩

end Nu
end Go.Proofs.Ytkkdimhibfpopaa
