/- Contracts: sizes that no transform has; the reference's sizes. -/
import Derived.Test.YtkkdimhibfpopaaW3
import Derived.Test.YtkkdimhibfpopaaV5
namespace Go.Proofs.Ytkkdimhibfpopaa
open Go.ChangeShapes Go.WideShapes Go.ChangeAt Go.RowKit Go.WideMaps Go.Maps
namespace Nu

/-- The sizes of transforms. -/
def Pt (n : Int) : Prop := n = 1 ∨ n = 2 ∨ n = 4 ∨ n = 8 ∨ n = 16 ∨ n = 32 ∨ n = 64
theorem Pt.two {n : Nat} (h : Pt n) : ∃ k, k ≤ 6 ∧ n = 2 ^ k := by
  rcases h with h | h | h | h | h | h | h
  · exact ⟨0, by omega, by omega⟩
  · exact ⟨1, by omega, by omega⟩
  · exact ⟨2, by omega, by omega⟩
  · exact ⟨3, by omega, by omega⟩
  · exact ⟨4, by omega, by omega⟩
  · exact ⟨5, by omega, by omega⟩
  · exact ⟨6, by omega, by omega⟩

theorem isSize_low (n : Int) (h : n < 1) (w : World) : Calls Try.prog 57 #[.int .i64 n] w fun e w' => e = .returned (.bool false) ∧ w = w' := by
  have h1 : ¬ (1 : Int) ≤ n := by omega
  go_enter Try.func57, Try.ntmps57
  go_wp2
  go_ret
  exact ⟨rfl, rfl⟩
theorem isSize_high (n : Int) (h : 64 < n) (w : World) : Calls Try.prog 57 #[.int .i64 n] w fun e w' => e = .returned (.bool false) ∧ w = w' := by
  have h1 : (1 : Int) ≤ n := by omega
  have h2 : ¬ n ≤ (64 : Int) := by omega
  go_enter Try.func57, Try.ntmps57
  go_wp2
  go_ret
  exact ⟨rfl, rfl⟩
theorem isSize_no3 (w : World) : Calls Try.prog 57 #[.int .i64 3] w fun e w' => e = .returned (.bool false) ∧ w = w' := by
  go_enter Try.func57, Try.ntmps57
  go_wp2
  go_ret
  exact ⟨rfl, rfl⟩
theorem isSize_no5 (w : World) : Calls Try.prog 57 #[.int .i64 5] w fun e w' => e = .returned (.bool false) ∧ w = w' := by
  go_enter Try.func57, Try.ntmps57
  go_wp2
  go_ret
  exact ⟨rfl, rfl⟩
theorem isSize_no6 (w : World) : Calls Try.prog 57 #[.int .i64 6] w fun e w' => e = .returned (.bool false) ∧ w = w' := by
  go_enter Try.func57, Try.ntmps57
  go_wp2
  go_ret
  exact ⟨rfl, rfl⟩
theorem isSize_no7 (w : World) : Calls Try.prog 57 #[.int .i64 7] w fun e w' => e = .returned (.bool false) ∧ w = w' := by
  go_enter Try.func57, Try.ntmps57
  go_wp2
  go_ret
  exact ⟨rfl, rfl⟩
theorem isSize_no9 (w : World) : Calls Try.prog 57 #[.int .i64 9] w fun e w' => e = .returned (.bool false) ∧ w = w' := by
  go_enter Try.func57, Try.ntmps57
  go_wp2
  go_ret
  exact ⟨rfl, rfl⟩
theorem isSize_no10 (w : World) : Calls Try.prog 57 #[.int .i64 10] w fun e w' => e = .returned (.bool false) ∧ w = w' := by
  go_enter Try.func57, Try.ntmps57
  go_wp2
  go_ret
  exact ⟨rfl, rfl⟩
theorem isSize_no11 (w : World) : Calls Try.prog 57 #[.int .i64 11] w fun e w' => e = .returned (.bool false) ∧ w = w' := by
  go_enter Try.func57, Try.ntmps57
  go_wp2
  go_ret
  exact ⟨rfl, rfl⟩
theorem isSize_no12 (w : World) : Calls Try.prog 57 #[.int .i64 12] w fun e w' => e = .returned (.bool false) ∧ w = w' := by
  go_enter Try.func57, Try.ntmps57
  go_wp2
  go_ret
  exact ⟨rfl, rfl⟩
theorem isSize_no13 (w : World) : Calls Try.prog 57 #[.int .i64 13] w fun e w' => e = .returned (.bool false) ∧ w = w' := by
  go_enter Try.func57, Try.ntmps57
  go_wp2
  go_ret
  exact ⟨rfl, rfl⟩
theorem isSize_no14 (w : World) : Calls Try.prog 57 #[.int .i64 14] w fun e w' => e = .returned (.bool false) ∧ w = w' := by
  go_enter Try.func57, Try.ntmps57
  go_wp2
  go_ret
  exact ⟨rfl, rfl⟩
theorem isSize_no15 (w : World) : Calls Try.prog 57 #[.int .i64 15] w fun e w' => e = .returned (.bool false) ∧ w = w' := by
  go_enter Try.func57, Try.ntmps57
  go_wp2
  go_ret
  exact ⟨rfl, rfl⟩
theorem isSize_no17 (w : World) : Calls Try.prog 57 #[.int .i64 17] w fun e w' => e = .returned (.bool false) ∧ w = w' := by
  go_enter Try.func57, Try.ntmps57
  go_wp2
  go_ret
  exact ⟨rfl, rfl⟩
theorem isSize_no18 (w : World) : Calls Try.prog 57 #[.int .i64 18] w fun e w' => e = .returned (.bool false) ∧ w = w' := by
  go_enter Try.func57, Try.ntmps57
  go_wp2
  go_ret
  exact ⟨rfl, rfl⟩
theorem isSize_no19 (w : World) : Calls Try.prog 57 #[.int .i64 19] w fun e w' => e = .returned (.bool false) ∧ w = w' := by
  go_enter Try.func57, Try.ntmps57
  go_wp2
  go_ret
  exact ⟨rfl, rfl⟩
theorem isSize_no20 (w : World) : Calls Try.prog 57 #[.int .i64 20] w fun e w' => e = .returned (.bool false) ∧ w = w' := by
  go_enter Try.func57, Try.ntmps57
  go_wp2
  go_ret
  exact ⟨rfl, rfl⟩
theorem isSize_no21 (w : World) : Calls Try.prog 57 #[.int .i64 21] w fun e w' => e = .returned (.bool false) ∧ w = w' := by
  go_enter Try.func57, Try.ntmps57
  go_wp2
  go_ret
  exact ⟨rfl, rfl⟩
theorem isSize_no22 (w : World) : Calls Try.prog 57 #[.int .i64 22] w fun e w' => e = .returned (.bool false) ∧ w = w' := by
  go_enter Try.func57, Try.ntmps57
  go_wp2
  go_ret
  exact ⟨rfl, rfl⟩
theorem isSize_no23 (w : World) : Calls Try.prog 57 #[.int .i64 23] w fun e w' => e = .returned (.bool false) ∧ w = w' := by
  go_enter Try.func57, Try.ntmps57
  go_wp2
  go_ret
  exact ⟨rfl, rfl⟩
theorem isSize_no24 (w : World) : Calls Try.prog 57 #[.int .i64 24] w fun e w' => e = .returned (.bool false) ∧ w = w' := by
  go_enter Try.func57, Try.ntmps57
  go_wp2
  go_ret
  exact ⟨rfl, rfl⟩
theorem isSize_no25 (w : World) : Calls Try.prog 57 #[.int .i64 25] w fun e w' => e = .returned (.bool false) ∧ w = w' := by
  go_enter Try.func57, Try.ntmps57
  go_wp2
  go_ret
  exact ⟨rfl, rfl⟩
theorem isSize_no26 (w : World) : Calls Try.prog 57 #[.int .i64 26] w fun e w' => e = .returned (.bool false) ∧ w = w' := by
  go_enter Try.func57, Try.ntmps57
  go_wp2
  go_ret
  exact ⟨rfl, rfl⟩
theorem isSize_no27 (w : World) : Calls Try.prog 57 #[.int .i64 27] w fun e w' => e = .returned (.bool false) ∧ w = w' := by
  go_enter Try.func57, Try.ntmps57
  go_wp2
  go_ret
  exact ⟨rfl, rfl⟩
theorem isSize_no28 (w : World) : Calls Try.prog 57 #[.int .i64 28] w fun e w' => e = .returned (.bool false) ∧ w = w' := by
  go_enter Try.func57, Try.ntmps57
  go_wp2
  go_ret
  exact ⟨rfl, rfl⟩
theorem isSize_no29 (w : World) : Calls Try.prog 57 #[.int .i64 29] w fun e w' => e = .returned (.bool false) ∧ w = w' := by
  go_enter Try.func57, Try.ntmps57
  go_wp2
  go_ret
  exact ⟨rfl, rfl⟩
theorem isSize_no30 (w : World) : Calls Try.prog 57 #[.int .i64 30] w fun e w' => e = .returned (.bool false) ∧ w = w' := by
  go_enter Try.func57, Try.ntmps57
  go_wp2
  go_ret
  exact ⟨rfl, rfl⟩
theorem isSize_no31 (w : World) : Calls Try.prog 57 #[.int .i64 31] w fun e w' => e = .returned (.bool false) ∧ w = w' := by
  go_enter Try.func57, Try.ntmps57
  go_wp2
  go_ret
  exact ⟨rfl, rfl⟩
theorem isSize_no33 (w : World) : Calls Try.prog 57 #[.int .i64 33] w fun e w' => e = .returned (.bool false) ∧ w = w' := by
  go_enter Try.func57, Try.ntmps57
  go_wp2
  go_ret
  exact ⟨rfl, rfl⟩
theorem isSize_no34 (w : World) : Calls Try.prog 57 #[.int .i64 34] w fun e w' => e = .returned (.bool false) ∧ w = w' := by
  go_enter Try.func57, Try.ntmps57
  go_wp2
  go_ret
  exact ⟨rfl, rfl⟩
theorem isSize_no35 (w : World) : Calls Try.prog 57 #[.int .i64 35] w fun e w' => e = .returned (.bool false) ∧ w = w' := by
  go_enter Try.func57, Try.ntmps57
  go_wp2
  go_ret
  exact ⟨rfl, rfl⟩
theorem isSize_no36 (w : World) : Calls Try.prog 57 #[.int .i64 36] w fun e w' => e = .returned (.bool false) ∧ w = w' := by
  go_enter Try.func57, Try.ntmps57
  go_wp2
  go_ret
  exact ⟨rfl, rfl⟩
theorem isSize_no37 (w : World) : Calls Try.prog 57 #[.int .i64 37] w fun e w' => e = .returned (.bool false) ∧ w = w' := by
  go_enter Try.func57, Try.ntmps57
  go_wp2
  go_ret
  exact ⟨rfl, rfl⟩
theorem isSize_no38 (w : World) : Calls Try.prog 57 #[.int .i64 38] w fun e w' => e = .returned (.bool false) ∧ w = w' := by
  go_enter Try.func57, Try.ntmps57
  go_wp2
  go_ret
  exact ⟨rfl, rfl⟩
theorem isSize_no39 (w : World) : Calls Try.prog 57 #[.int .i64 39] w fun e w' => e = .returned (.bool false) ∧ w = w' := by
  go_enter Try.func57, Try.ntmps57
  go_wp2
  go_ret
  exact ⟨rfl, rfl⟩
theorem isSize_no40 (w : World) : Calls Try.prog 57 #[.int .i64 40] w fun e w' => e = .returned (.bool false) ∧ w = w' := by
  go_enter Try.func57, Try.ntmps57
  go_wp2
  go_ret
  exact ⟨rfl, rfl⟩
theorem isSize_no41 (w : World) : Calls Try.prog 57 #[.int .i64 41] w fun e w' => e = .returned (.bool false) ∧ w = w' := by
  go_enter Try.func57, Try.ntmps57
  go_wp2
  go_ret
  exact ⟨rfl, rfl⟩
theorem isSize_no42 (w : World) : Calls Try.prog 57 #[.int .i64 42] w fun e w' => e = .returned (.bool false) ∧ w = w' := by
  go_enter Try.func57, Try.ntmps57
  go_wp2
  go_ret
  exact ⟨rfl, rfl⟩
theorem isSize_no43 (w : World) : Calls Try.prog 57 #[.int .i64 43] w fun e w' => e = .returned (.bool false) ∧ w = w' := by
  go_enter Try.func57, Try.ntmps57
  go_wp2
  go_ret
  exact ⟨rfl, rfl⟩
theorem isSize_no44 (w : World) : Calls Try.prog 57 #[.int .i64 44] w fun e w' => e = .returned (.bool false) ∧ w = w' := by
  go_enter Try.func57, Try.ntmps57
  go_wp2
  go_ret
  exact ⟨rfl, rfl⟩
theorem isSize_no45 (w : World) : Calls Try.prog 57 #[.int .i64 45] w fun e w' => e = .returned (.bool false) ∧ w = w' := by
  go_enter Try.func57, Try.ntmps57
  go_wp2
  go_ret
  exact ⟨rfl, rfl⟩
theorem isSize_no46 (w : World) : Calls Try.prog 57 #[.int .i64 46] w fun e w' => e = .returned (.bool false) ∧ w = w' := by
  go_enter Try.func57, Try.ntmps57
  go_wp2
  go_ret
  exact ⟨rfl, rfl⟩
theorem isSize_no47 (w : World) : Calls Try.prog 57 #[.int .i64 47] w fun e w' => e = .returned (.bool false) ∧ w = w' := by
  go_enter Try.func57, Try.ntmps57
  go_wp2
  go_ret
  exact ⟨rfl, rfl⟩
theorem isSize_no48 (w : World) : Calls Try.prog 57 #[.int .i64 48] w fun e w' => e = .returned (.bool false) ∧ w = w' := by
  go_enter Try.func57, Try.ntmps57
  go_wp2
  go_ret
  exact ⟨rfl, rfl⟩
theorem isSize_no49 (w : World) : Calls Try.prog 57 #[.int .i64 49] w fun e w' => e = .returned (.bool false) ∧ w = w' := by
  go_enter Try.func57, Try.ntmps57
  go_wp2
  go_ret
  exact ⟨rfl, rfl⟩
theorem isSize_no50 (w : World) : Calls Try.prog 57 #[.int .i64 50] w fun e w' => e = .returned (.bool false) ∧ w = w' := by
  go_enter Try.func57, Try.ntmps57
  go_wp2
  go_ret
  exact ⟨rfl, rfl⟩
theorem isSize_no51 (w : World) : Calls Try.prog 57 #[.int .i64 51] w fun e w' => e = .returned (.bool false) ∧ w = w' := by
  go_enter Try.func57, Try.ntmps57
  go_wp2
  go_ret
  exact ⟨rfl, rfl⟩
theorem isSize_no52 (w : World) : Calls Try.prog 57 #[.int .i64 52] w fun e w' => e = .returned (.bool false) ∧ w = w' := by
  go_enter Try.func57, Try.ntmps57
  go_wp2
  go_ret
  exact ⟨rfl, rfl⟩
theorem isSize_no53 (w : World) : Calls Try.prog 57 #[.int .i64 53] w fun e w' => e = .returned (.bool false) ∧ w = w' := by
  go_enter Try.func57, Try.ntmps57
  go_wp2
  go_ret
  exact ⟨rfl, rfl⟩
theorem isSize_no54 (w : World) : Calls Try.prog 57 #[.int .i64 54] w fun e w' => e = .returned (.bool false) ∧ w = w' := by
  go_enter Try.func57, Try.ntmps57
  go_wp2
  go_ret
  exact ⟨rfl, rfl⟩
theorem isSize_no55 (w : World) : Calls Try.prog 57 #[.int .i64 55] w fun e w' => e = .returned (.bool false) ∧ w = w' := by
  go_enter Try.func57, Try.ntmps57
  go_wp2
  go_ret
  exact ⟨rfl, rfl⟩
theorem isSize_no56 (w : World) : Calls Try.prog 57 #[.int .i64 56] w fun e w' => e = .returned (.bool false) ∧ w = w' := by
  go_enter Try.func57, Try.ntmps57
  go_wp2
  go_ret
  exact ⟨rfl, rfl⟩
theorem isSize_no57 (w : World) : Calls Try.prog 57 #[.int .i64 57] w fun e w' => e = .returned (.bool false) ∧ w = w' := by
  go_enter Try.func57, Try.ntmps57
  go_wp2
  go_ret
  exact ⟨rfl, rfl⟩
theorem isSize_no58 (w : World) : Calls Try.prog 57 #[.int .i64 58] w fun e w' => e = .returned (.bool false) ∧ w = w' := by
  go_enter Try.func57, Try.ntmps57
  go_wp2
  go_ret
  exact ⟨rfl, rfl⟩
theorem isSize_no59 (w : World) : Calls Try.prog 57 #[.int .i64 59] w fun e w' => e = .returned (.bool false) ∧ w = w' := by
  go_enter Try.func57, Try.ntmps57
  go_wp2
  go_ret
  exact ⟨rfl, rfl⟩
theorem isSize_no60 (w : World) : Calls Try.prog 57 #[.int .i64 60] w fun e w' => e = .returned (.bool false) ∧ w = w' := by
  go_enter Try.func57, Try.ntmps57
  go_wp2
  go_ret
  exact ⟨rfl, rfl⟩
theorem isSize_no61 (w : World) : Calls Try.prog 57 #[.int .i64 61] w fun e w' => e = .returned (.bool false) ∧ w = w' := by
  go_enter Try.func57, Try.ntmps57
  go_wp2
  go_ret
  exact ⟨rfl, rfl⟩
theorem isSize_no62 (w : World) : Calls Try.prog 57 #[.int .i64 62] w fun e w' => e = .returned (.bool false) ∧ w = w' := by
  go_enter Try.func57, Try.ntmps57
  go_wp2
  go_ret
  exact ⟨rfl, rfl⟩
theorem isSize_no63 (w : World) : Calls Try.prog 57 #[.int .i64 63] w fun e w' => e = .returned (.bool false) ∧ w = w' := by
  go_enter Try.func57, Try.ntmps57
  go_wp2
  go_ret
  exact ⟨rfl, rfl⟩

theorem isSize_no (n : Int) (h : ¬ Pt n) (w : World) : Calls Try.prog 57 #[.int .i64 n] w fun e w' => e = .returned (.bool false) ∧ w = w' := by
  rcases Int.lt_or_le n 1 with h1 | h1
  · exact isSize_low n h1 w
  · rcases Int.lt_or_le 64 n with h2 | h2
    · exact isSize_high n h2 w
    · have h3 : n = 3 ∨ n = 5 ∨ n = 6 ∨ n = 7 ∨ n = 9 ∨ n = 10 ∨ n = 11 ∨ n = 12 ∨ n = 13 ∨ n = 14 ∨ n = 15 ∨ n = 17 ∨ n = 18 ∨ n = 19 ∨ n = 20 ∨ n = 21 ∨ n = 22 ∨ n = 23 ∨ n = 24 ∨ n = 25 ∨ n = 26 ∨ n = 27 ∨ n = 28 ∨ n = 29 ∨ n = 30 ∨ n = 31 ∨ n = 33 ∨ n = 34 ∨ n = 35 ∨ n = 36 ∨ n = 37 ∨ n = 38 ∨ n = 39 ∨ n = 40 ∨ n = 41 ∨ n = 42 ∨ n = 43 ∨ n = 44 ∨ n = 45 ∨ n = 46 ∨ n = 47 ∨ n = 48 ∨ n = 49 ∨ n = 50 ∨ n = 51 ∨ n = 52 ∨ n = 53 ∨ n = 54 ∨ n = 55 ∨ n = 56 ∨ n = 57 ∨ n = 58 ∨ n = 59 ∨ n = 60 ∨ n = 61 ∨ n = 62 ∨ n = 63 := by unfold Pt at h; omega
      rcases h3 with rfl | rfl | rfl | rfl | rfl | rfl | rfl | rfl | rfl | rfl | rfl | rfl | rfl | rfl | rfl | rfl | rfl | rfl | rfl | rfl | rfl | rfl | rfl | rfl | rfl | rfl | rfl | rfl | rfl | rfl | rfl | rfl | rfl | rfl | rfl | rfl | rfl | rfl | rfl | rfl | rfl | rfl | rfl | rfl | rfl | rfl | rfl | rfl | rfl | rfl | rfl | rfl | rfl | rfl | rfl | rfl | rfl
      · exact isSize_no3 w
      · exact isSize_no5 w
      · exact isSize_no6 w
      · exact isSize_no7 w
      · exact isSize_no9 w
      · exact isSize_no10 w
      · exact isSize_no11 w
      · exact isSize_no12 w
      · exact isSize_no13 w
      · exact isSize_no14 w
      · exact isSize_no15 w
      · exact isSize_no17 w
      · exact isSize_no18 w
      · exact isSize_no19 w
      · exact isSize_no20 w
      · exact isSize_no21 w
      · exact isSize_no22 w
      · exact isSize_no23 w
      · exact isSize_no24 w
      · exact isSize_no25 w
      · exact isSize_no26 w
      · exact isSize_no27 w
      · exact isSize_no28 w
      · exact isSize_no29 w
      · exact isSize_no30 w
      · exact isSize_no31 w
      · exact isSize_no33 w
      · exact isSize_no34 w
      · exact isSize_no35 w
      · exact isSize_no36 w
      · exact isSize_no37 w
      · exact isSize_no38 w
      · exact isSize_no39 w
      · exact isSize_no40 w
      · exact isSize_no41 w
      · exact isSize_no42 w
      · exact isSize_no43 w
      · exact isSize_no44 w
      · exact isSize_no45 w
      · exact isSize_no46 w
      · exact isSize_no47 w
      · exact isSize_no48 w
      · exact isSize_no49 w
      · exact isSize_no50 w
      · exact isSize_no51 w
      · exact isSize_no52 w
      · exact isSize_no53 w
      · exact isSize_no54 w
      · exact isSize_no55 w
      · exact isSize_no56 w
      · exact isSize_no57 w
      · exact isSize_no58 w
      · exact isSize_no59 w
      · exact isSize_no60 w
      · exact isSize_no61 w
      · exact isSize_no62 w
      · exact isSize_no63 w

set_option maxHeartbeats 2000000 in
theorem points_yes (n : Int) (h : Pt n) (w : World) : Calls Try.prog 59 #[.int .i64 n] w fun e w' => e = .returned (.bool true) ∧ w = w' := by
  have H := Lib.hid h
  clear h
  go_enter Try.func59, Try.ntmps59
  go_wp2_with fail
  go_loopw [3] (fun v wr => wr = w ∧ ((v = .int .i64 1 ∧ True) ∨ (v = .int .i64 2 ∧ True ∧ n ≠ 1) ∨ (v = .int .i64 4 ∧ True ∧ n ≠ 1 ∧ n ≠ 2) ∨ (v = .int .i64 8 ∧ True ∧ n ≠ 1 ∧ n ≠ 2 ∧ n ≠ 4) ∨ (v = .int .i64 16 ∧ True ∧ n ≠ 1 ∧ n ≠ 2 ∧ n ≠ 4 ∧ n ≠ 8) ∨ (v = .int .i64 32 ∧ True ∧ n ≠ 1 ∧ n ≠ 2 ∧ n ≠ 4 ∧ n ≠ 8 ∧ n ≠ 16) ∨ (v = .int .i64 64 ∧ True ∧ n ≠ 1 ∧ n ≠ 2 ∧ n ≠ 4 ∧ n ≠ 8 ∧ n ≠ 16 ∧ n ≠ 32))) (fun v _ => 200 - (intOf v).toNat)
  case atStart => exact ⟨rfl, .inl ⟨rfl, trivial⟩⟩
  case round =>
    obtain ⟨rfl, hr⟩ := hrel
    rcases hr with ⟨rfl, h⟩ | ⟨rfl, h⟩ | ⟨rfl, h⟩ | ⟨rfl, h⟩ | ⟨rfl, h⟩ | ⟨rfl, h⟩ | ⟨rfl, h⟩
    · by_cases e : n = 1
      · subst e
        go_wp2
        go_ret
        exact ⟨rfl, rfl⟩
      · have hne : ¬ (1 : Int) = n := fun h => e h.symm
        have H2 := Lib.hid (And.intro e h)
        clear e h
        go_wp2
        go_roundw
        case rel =>
          obtain ⟨e, h⟩ := H2.out
          simp_all
        case measure => simp [intOf]
    · by_cases e : n = 2
      · subst e
        go_wp2
        go_ret
        exact ⟨rfl, rfl⟩
      · have hne : ¬ (2 : Int) = n := fun h => e h.symm
        have H2 := Lib.hid (And.intro e h)
        clear e h
        go_wp2
        go_roundw
        case rel =>
          obtain ⟨e, h⟩ := H2.out
          simp_all
        case measure => simp [intOf]
    · by_cases e : n = 4
      · subst e
        go_wp2
        go_ret
        exact ⟨rfl, rfl⟩
      · have hne : ¬ (4 : Int) = n := fun h => e h.symm
        have H2 := Lib.hid (And.intro e h)
        clear e h
        go_wp2
        go_roundw
        case rel =>
          obtain ⟨e, h⟩ := H2.out
          simp_all
        case measure => simp [intOf]
    · by_cases e : n = 8
      · subst e
        go_wp2
        go_ret
        exact ⟨rfl, rfl⟩
      · have hne : ¬ (8 : Int) = n := fun h => e h.symm
        have H2 := Lib.hid (And.intro e h)
        clear e h
        go_wp2
        go_roundw
        case rel =>
          obtain ⟨e, h⟩ := H2.out
          simp_all
        case measure => simp [intOf]
    · by_cases e : n = 16
      · subst e
        go_wp2
        go_ret
        exact ⟨rfl, rfl⟩
      · have hne : ¬ (16 : Int) = n := fun h => e h.symm
        have H2 := Lib.hid (And.intro e h)
        clear e h
        go_wp2
        go_roundw
        case rel =>
          obtain ⟨e, h⟩ := H2.out
          simp_all
        case measure => simp [intOf]
    · by_cases e : n = 32
      · subst e
        go_wp2
        go_ret
        exact ⟨rfl, rfl⟩
      · have hne : ¬ (32 : Int) = n := fun h => e h.symm
        have H2 := Lib.hid (And.intro e h)
        clear e h
        go_wp2
        go_roundw
        case rel =>
          obtain ⟨e, h⟩ := H2.out
          simp_all
        case measure => simp [intOf]
    · by_cases e : n = 64
      · subst e
        go_wp2
        go_ret
        exact ⟨rfl, rfl⟩
      · exfalso
        have := H.out
        unfold Pt at this
        omega

set_option maxHeartbeats 2000000 in
theorem points_no (n : Int) (h : ¬ Pt n) (w : World) : Calls Try.prog 59 #[.int .i64 n] w fun e w' => e = .returned (.bool false) ∧ w = w' := by
  have H := Lib.hid h
  clear h
  go_enter Try.func59, Try.ntmps59
  go_wp2_with fail
  go_loopw [3] (fun v wr => wr = w ∧ (v = .int .i64 1 ∨ v = .int .i64 2 ∨ v = .int .i64 4 ∨ v = .int .i64 8 ∨ v = .int .i64 16 ∨ v = .int .i64 32 ∨ v = .int .i64 64 ∨ v = .int .i64 128)) (fun v _ => 200 - (intOf v).toNat)
  case atStart => exact ⟨rfl, .inl rfl⟩
  case round =>
    obtain ⟨rfl, hr⟩ := hrel
    rcases hr with rfl | rfl | rfl | rfl | rfl | rfl | rfl | rfl
    · have hne : ¬ (1 : Int) = n := fun h => H.out (by unfold Pt; omega)
      go_wp2
      go_roundw
      case rel => simp
      case measure => simp [intOf]
    · have hne : ¬ (2 : Int) = n := fun h => H.out (by unfold Pt; omega)
      go_wp2
      go_roundw
      case rel => simp
      case measure => simp [intOf]
    · have hne : ¬ (4 : Int) = n := fun h => H.out (by unfold Pt; omega)
      go_wp2
      go_roundw
      case rel => simp
      case measure => simp [intOf]
    · have hne : ¬ (8 : Int) = n := fun h => H.out (by unfold Pt; omega)
      go_wp2
      go_roundw
      case rel => simp
      case measure => simp [intOf]
    · have hne : ¬ (16 : Int) = n := fun h => H.out (by unfold Pt; omega)
      go_wp2
      go_roundw
      case rel => simp
      case measure => simp [intOf]
    · have hne : ¬ (32 : Int) = n := fun h => H.out (by unfold Pt; omega)
      go_wp2
      go_roundw
      case rel => simp
      case measure => simp [intOf]
    · have hne : ¬ (64 : Int) = n := fun h => H.out (by unfold Pt; omega)
      go_wp2
      go_roundw
      case rel => simp
      case measure => simp [intOf]
    · go_wp2
      go_ret
      exact ⟨rfl, rfl⟩

theorem twiddles_no (n : Int) (h : ¬ Pt n) (w : World) : Calls Try.prog 32 #[.int .i64 n] w fun e w' => e = .returned (.tuple #[.slice none 0 0, .int .i64 4]) ∧ Below w.heap.size w w' := by
  go_enter Try.func32, Try.ntmps32
  go_wp2_with (go_at_call 57; refine (isSize_no n h _).mono ?_; rintro e w' ⟨rfl, rfl⟩)
  go_ret2
  exact ⟨rfl, Below.refl _ _⟩
theorem rtwiddles_no (n : Int) (h : ¬ Pt n) (w : World) : Calls Try.prog 33 #[.int .i64 n] w fun e w' => e = .returned (.tuple #[.slice none 0 0, .int .i64 4]) ∧ Below w.heap.size w w' := by
  go_enter Try.func33, Try.ntmps33
  go_wp2_with (go_at_call 59; refine (points_no n h _).mono ?_; rintro e w' ⟨rfl, rfl⟩)
  go_ret2
  exact ⟨rfl, Below.refl _ _⟩
theorem transform_no (ao : Option Addr) (n cap : Nat) (b : Bool) (h : ¬ Pt n) (w : World) : Calls Try.prog 34 #[.slice ao n cap, .bool b] w fun e w' => e = .returned (.tuple #[.slice none 0 0, .int .i64 4]) ∧ Below w.heap.size w w' := by
  go_enter Try.func34, Try.ntmps34
  go_wp2_with (go_at_call 57; refine (isSize_no n h _).mono ?_; rintro e w' ⟨rfl, rfl⟩)
  go_ret2
  exact ⟨rfl, Below.refl _ _⟩
theorem rtransform_no (ao : Option Addr) (n cap : Nat) (b : Bool) (h : ¬ Pt n) (w : World) : Calls Try.prog 35 #[.slice ao n cap, .bool b] w fun e w' => e = .returned (.tuple #[.slice none 0 0, .int .i64 4]) ∧ Below w.heap.size w w' := by
  go_enter Try.func35, Try.ntmps35
  go_wp2_with (go_at_call 59; refine (points_no n h _).mono ?_; rintro e w' ⟨rfl, rfl⟩)
  go_ret2
  exact ⟨rfl, Below.refl _ _⟩
theorem spectrum_no (ao : Option Addr) (n cap : Nat) (h : ¬ Pt n) (w : World) : Calls Try.prog 36 #[.slice ao n cap] w fun e w' => e = .returned (.tuple #[.slice none 0 0, .int .i64 4]) ∧ Below w.heap.size w w' := by
  go_enter Try.func36, Try.ntmps36
  go_wp2_with (go_at_call 57; refine (isSize_no n h _).mono ?_; rintro e w' ⟨rfl, rfl⟩)
  go_ret2
  exact ⟨rfl, Below.refl _ _⟩

end Nu
end Go.Proofs.Ytkkdimhibfpopaa
