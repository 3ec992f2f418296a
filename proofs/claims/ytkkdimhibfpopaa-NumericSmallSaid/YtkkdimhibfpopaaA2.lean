/- Contracts: the bits of a part, the part of bits, the parts of a number, a number of parts. -/
import Derived.Test.YtkkdimhibfpopaaProg
import Derived.Test.YtkkdimhibfpopaaA1
import Derived.ProofKit
import Derived.Handy
import Derived.Lib.Hide
import Derived.BigQuiet
import Derived.Deep.QuietTactic
import Derived.Deep.RegionHeld3
import Derived.Laws.Externs
import Derived.Laws.Cover2
namespace Go.Proofs.Ytkkdimhibfpopaa
open Go.ChangeShapes Go.WideShapes Go.ChangeAt Go.RowKit
namespace Nu

theorem frombits_run (n : Int) (w : World) : (callFunc 56 #[.int .u32 n]).run Try.prog w = .ok (.value (.float .f32 n.toNat)) w := by
  rw [run_callFunc_extern Try.func56 (by kernel_rfl) (by kernel_rfl) (by kernel_rfl) (e := Extern.MathFloatBits.float32frombits) (by kernel_rfl)]
  rfl
theorem tobits_run (b : Nat) (w : World) : (callFunc 44 #[.float .f32 b]).run Try.prog w = .ok (.value (.int .u32 b)) w := by
  rw [run_callFunc_extern Try.func44 (by kernel_rfl) (by kernel_rfl) (by kernel_rfl) (e := Extern.MathFloatBits.float32bits) (by kernel_rfl)]
  rfl

theorem ret_v {a b : Value} (h : a = b) : Ending.returned a = .returned b := by rw [h]

set_option maxHeartbeats 400000 in
theorem bits_any (b : Nat) (w : World) : Calls Try.prog 49 #[.float .f32 b] w fun e w' => e = .returned (.int .u32 (canon b)) ∧ w = w' := by
  cases hn : isN b
  · have h1 : (FloatKind.f32.format.order b b != some .eq) = false := by rw [order_yes hn]; rfl
    have HC := Lib.hid (canon_no hn)
    clear hn
    go_enter Try.func49, Try.ntmps49
    go_wp2_with (simp only [tobits_run])
    go_ret
    exact ⟨ret_v (by rw [HC.out]; rfl), rfl⟩
  · have h1 : (FloatKind.f32.format.order b b != some .eq) = true := by rw [order_no hn]; rfl
    have HC := Lib.hid (canon_yes hn)
    clear hn
    go_enter Try.func49, Try.ntmps49
    go_wp2_with (simp only [tobits_run])
    go_ret
    exact ⟨ret_v (by rw [HC.out]; rfl), rfl⟩

set_option maxHeartbeats 400000 in
theorem part_any (b : Nat) (w : World) : Calls Try.prog 46 #[.int .u32 b] w fun e w' => e = .returned (.float .f32 (canon b)) ∧ w = w' := by
  cases hn : isN b
  · have h1 : (FloatKind.f32.format.order b b == some .eq) = true := by rw [order_yes hn]; rfl
    have HC := Lib.hid (canon_no hn)
    clear hn
    go_enter Try.func46, Try.ntmps46
    go_wp2_with (simp only [frombits_run])
    go_ret
    exact ⟨ret_v (by rw [HC.out]; rfl), rfl⟩
  · have h1 : (FloatKind.f32.format.order b b == some .eq) = false := by rw [order_no hn]; rfl
    have HC := Lib.hid (canon_yes hn)
    clear hn
    go_enter Try.func46, Try.ntmps46
    go_wp2_with (simp only [frombits_run])
    go_ret
    exact ⟨ret_v (by rw [HC.out]; rfl), rfl⟩

theorem part_same (b : Nat) (w : World) : Calls Try.prog 46 #[.int .u32 b] w fun e w' => e = .returned (.float .f32 (canon b)) ∧ w' = w :=
  (part_any b w).mono fun _ _ ⟨he, hw⟩ => ⟨he, hw.symm⟩

/-- A number as the program holds it. -/
def num (x : Nat × Nat) : Value := .agg #[.int .u32 x.1, .int .u32 x.2]

set_option maxHeartbeats 400000 in
theorem parts_any (a b : Nat) (w : World) : Calls Try.prog 11 #[.agg #[.int .u32 a, .int .u32 b]] w fun e w' => e = .returned (.tuple #[.float .f32 (canon a), .float .f32 (canon b)]) ∧ Below w.heap.size w w' := by
  go_enter Try.func11, Try.ntmps11
  go_wp2_with fail
  go_quiet ((go_at_call 46; exact Calls.quiet_of_same (part_same _ _)))
  go_wp2_with fail
  go_ret2
  exact ⟨rfl, (((Below.refl _ _).alloc (Nat.le_refl _) _).trans (below_drewN (Below.refl _ _) _))⟩

set_option maxHeartbeats 400000 in
theorem of_any (a b : Nat) (w : World) : Calls Try.prog 18 #[.float .f32 a, .float .f32 b] w fun e w' => e = .returned (.agg #[.int .u32 (canon a), .int .u32 (canon b)]) ∧ Below w.heap.size w w' := by
  go_enter Try.func18, Try.ntmps18
  go_wp2_with (go_at_call 49; refine (bits_any _ _).mono ?_; rintro e w' ⟨rfl, rfl⟩)
  exact bodyPost_ret (v := .agg #[.int .u32 (canon a), .int .u32 (canon b)]) (by simp [results, Try.results18, go_sem]) rfl ⟨rfl, (Below.refl _ _).alloc (Nat.le_refl _) _⟩

end Nu
end Go.Proofs.Ytkkdimhibfpopaa
