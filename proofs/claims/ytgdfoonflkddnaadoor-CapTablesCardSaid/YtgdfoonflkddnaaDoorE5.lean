/- More contracts of the reference. -/
import Derived.Test.YtgdfoonflkddnaaDoorD1
namespace Go.Proofs.YtgdfoonflkddnaaDoor
open Go.ChangeShapes Go.WideShapes Go.ChangeAt Go.RowKit
namespace Cp

set_option maxHeartbeats 400000 in
theorem rFits_no (a m b o : Int) (w : World) (h : (markedB a m && markedB b o) = false) :
    Calls Tryd.prog 27 #[.int .i64 a, .int .i64 m, .int .i64 b, .int .i64 o] w fun e w' => e = .returned (.bool false) ∧ w = w' := by
  cases h1 : markedB a m
  · clear h
    go_enter Tryd.func27, Tryd.ntmps27
    go_wp2_with (go_at_call 53; refine (rMarked_any _ _ _).mono ?_; rintro e w' ⟨rfl, rfl⟩)
    go_ret
    exact ⟨rfl, rfl⟩
  · have h2 : markedB b o = false := by simpa [h1] using h
    clear h
    go_enter Tryd.func27, Tryd.ntmps27
    go_wp2_with (go_at_call 53; refine (rMarked_any _ _ _).mono ?_; rintro e w' ⟨rfl, rfl⟩)
    go_ret
    exact ⟨rfl, rfl⟩

theorem marks_of {c m : Int} (h : markedB c m = true) : (c = 1 ∨ c = 2 ∨ c = 3 ∨ c = 4 ∨ c = 5 ∨ c = 6) ∧ (m = 0 ∨ m = 1 ∨ m = 2) := by
  obtain ⟨h1, h2, h3⟩ := marked_bounds h
  exact ⟨(isB_iff c).1 h1, by omega⟩

set_option maxHeartbeats 4000000 in
theorem rFits_10 (b o : Int) (w : World) (hb : b = 1 ∨ b = 2 ∨ b = 3 ∨ b = 4 ∨ b = 5 ∨ b = 6) (ho : o = 0 ∨ o = 1 ∨ o = 2) :
    Calls Tryd.prog 27 #[.int .i64 1, .int .i64 0, .int .i64 b, .int .i64 o] w fun e w' => e = .returned (.bool (fitsB 1 0 b o)) ∧ w = w' := by
  rcases hb with rfl | rfl | rfl | rfl | rfl | rfl <;> rcases ho with rfl | rfl | rfl
  all_goals
    have hm : markedB 1 0 = true ∧ markedB 1 1 = true ∧ markedB 1 2 = true ∧ markedB 2 0 = true ∧ markedB 2 1 = true ∧ markedB 2 2 = true ∧ markedB 3 0 = true ∧ markedB 3 1 = true ∧ markedB 3 2 = true ∧
      markedB 4 0 = true ∧ markedB 4 1 = true ∧ markedB 4 2 = true ∧ markedB 5 0 = true ∧ markedB 5 1 = true ∧ markedB 5 2 = true ∧ markedB 6 0 = true ∧ markedB 6 1 = true ∧ markedB 6 2 = true := by decide
    obtain ⟨m10, m11, m12, m20, m21, m22, m30, m31, m32, m40, m41, m42, m50, m51, m52, m60, m61, m62⟩ := hm
    go_enter Tryd.func27, Tryd.ntmps27
    go_wp2_with (go_at_call 53; refine (rMarked_any _ _ _).mono ?_; rintro e w' ⟨rfl, rfl⟩)
    go_ret
    exact ⟨ret_bool (by decide), rfl⟩

set_option maxHeartbeats 4000000 in
theorem rFits_11 (b o : Int) (w : World) (hb : b = 1 ∨ b = 2 ∨ b = 3 ∨ b = 4 ∨ b = 5 ∨ b = 6) (ho : o = 0 ∨ o = 1 ∨ o = 2) :
    Calls Tryd.prog 27 #[.int .i64 1, .int .i64 1, .int .i64 b, .int .i64 o] w fun e w' => e = .returned (.bool (fitsB 1 1 b o)) ∧ w = w' := by
  rcases hb with rfl | rfl | rfl | rfl | rfl | rfl <;> rcases ho with rfl | rfl | rfl
  all_goals
    have hm : markedB 1 0 = true ∧ markedB 1 1 = true ∧ markedB 1 2 = true ∧ markedB 2 0 = true ∧ markedB 2 1 = true ∧ markedB 2 2 = true ∧ markedB 3 0 = true ∧ markedB 3 1 = true ∧ markedB 3 2 = true ∧
      markedB 4 0 = true ∧ markedB 4 1 = true ∧ markedB 4 2 = true ∧ markedB 5 0 = true ∧ markedB 5 1 = true ∧ markedB 5 2 = true ∧ markedB 6 0 = true ∧ markedB 6 1 = true ∧ markedB 6 2 = true := by decide
    obtain ⟨m10, m11, m12, m20, m21, m22, m30, m31, m32, m40, m41, m42, m50, m51, m52, m60, m61, m62⟩ := hm
    go_enter Tryd.func27, Tryd.ntmps27
    go_wp2_with (go_at_call 53; refine (rMarked_any _ _ _).mono ?_; rintro e w' ⟨rfl, rfl⟩)
    go_ret
    exact ⟨ret_bool (by decide), rfl⟩

set_option maxHeartbeats 4000000 in
theorem rFits_12 (b o : Int) (w : World) (hb : b = 1 ∨ b = 2 ∨ b = 3 ∨ b = 4 ∨ b = 5 ∨ b = 6) (ho : o = 0 ∨ o = 1 ∨ o = 2) :
    Calls Tryd.prog 27 #[.int .i64 1, .int .i64 2, .int .i64 b, .int .i64 o] w fun e w' => e = .returned (.bool (fitsB 1 2 b o)) ∧ w = w' := by
  rcases hb with rfl | rfl | rfl | rfl | rfl | rfl <;> rcases ho with rfl | rfl | rfl
  all_goals
    have hm : markedB 1 0 = true ∧ markedB 1 1 = true ∧ markedB 1 2 = true ∧ markedB 2 0 = true ∧ markedB 2 1 = true ∧ markedB 2 2 = true ∧ markedB 3 0 = true ∧ markedB 3 1 = true ∧ markedB 3 2 = true ∧
      markedB 4 0 = true ∧ markedB 4 1 = true ∧ markedB 4 2 = true ∧ markedB 5 0 = true ∧ markedB 5 1 = true ∧ markedB 5 2 = true ∧ markedB 6 0 = true ∧ markedB 6 1 = true ∧ markedB 6 2 = true := by decide
    obtain ⟨m10, m11, m12, m20, m21, m22, m30, m31, m32, m40, m41, m42, m50, m51, m52, m60, m61, m62⟩ := hm
    go_enter Tryd.func27, Tryd.ntmps27
    go_wp2_with (go_at_call 53; refine (rMarked_any _ _ _).mono ?_; rintro e w' ⟨rfl, rfl⟩)
    go_ret
    exact ⟨ret_bool (by decide), rfl⟩

set_option maxHeartbeats 4000000 in
theorem rFits_20 (b o : Int) (w : World) (hb : b = 1 ∨ b = 2 ∨ b = 3 ∨ b = 4 ∨ b = 5 ∨ b = 6) (ho : o = 0 ∨ o = 1 ∨ o = 2) :
    Calls Tryd.prog 27 #[.int .i64 2, .int .i64 0, .int .i64 b, .int .i64 o] w fun e w' => e = .returned (.bool (fitsB 2 0 b o)) ∧ w = w' := by
  rcases hb with rfl | rfl | rfl | rfl | rfl | rfl <;> rcases ho with rfl | rfl | rfl
  all_goals
    have hm : markedB 1 0 = true ∧ markedB 1 1 = true ∧ markedB 1 2 = true ∧ markedB 2 0 = true ∧ markedB 2 1 = true ∧ markedB 2 2 = true ∧ markedB 3 0 = true ∧ markedB 3 1 = true ∧ markedB 3 2 = true ∧
      markedB 4 0 = true ∧ markedB 4 1 = true ∧ markedB 4 2 = true ∧ markedB 5 0 = true ∧ markedB 5 1 = true ∧ markedB 5 2 = true ∧ markedB 6 0 = true ∧ markedB 6 1 = true ∧ markedB 6 2 = true := by decide
    obtain ⟨m10, m11, m12, m20, m21, m22, m30, m31, m32, m40, m41, m42, m50, m51, m52, m60, m61, m62⟩ := hm
    go_enter Tryd.func27, Tryd.ntmps27
    go_wp2_with (go_at_call 53; refine (rMarked_any _ _ _).mono ?_; rintro e w' ⟨rfl, rfl⟩)
    go_ret
    exact ⟨ret_bool (by decide), rfl⟩

set_option maxHeartbeats 4000000 in
theorem rFits_21 (b o : Int) (w : World) (hb : b = 1 ∨ b = 2 ∨ b = 3 ∨ b = 4 ∨ b = 5 ∨ b = 6) (ho : o = 0 ∨ o = 1 ∨ o = 2) :
    Calls Tryd.prog 27 #[.int .i64 2, .int .i64 1, .int .i64 b, .int .i64 o] w fun e w' => e = .returned (.bool (fitsB 2 1 b o)) ∧ w = w' := by
  rcases hb with rfl | rfl | rfl | rfl | rfl | rfl <;> rcases ho with rfl | rfl | rfl
  all_goals
    have hm : markedB 1 0 = true ∧ markedB 1 1 = true ∧ markedB 1 2 = true ∧ markedB 2 0 = true ∧ markedB 2 1 = true ∧ markedB 2 2 = true ∧ markedB 3 0 = true ∧ markedB 3 1 = true ∧ markedB 3 2 = true ∧
      markedB 4 0 = true ∧ markedB 4 1 = true ∧ markedB 4 2 = true ∧ markedB 5 0 = true ∧ markedB 5 1 = true ∧ markedB 5 2 = true ∧ markedB 6 0 = true ∧ markedB 6 1 = true ∧ markedB 6 2 = true := by decide
    obtain ⟨m10, m11, m12, m20, m21, m22, m30, m31, m32, m40, m41, m42, m50, m51, m52, m60, m61, m62⟩ := hm
    go_enter Tryd.func27, Tryd.ntmps27
    go_wp2_with (go_at_call 53; refine (rMarked_any _ _ _).mono ?_; rintro e w' ⟨rfl, rfl⟩)
    go_ret
    exact ⟨ret_bool (by decide), rfl⟩

set_option maxHeartbeats 4000000 in
theorem rFits_22 (b o : Int) (w : World) (hb : b = 1 ∨ b = 2 ∨ b = 3 ∨ b = 4 ∨ b = 5 ∨ b = 6) (ho : o = 0 ∨ o = 1 ∨ o = 2) :
    Calls Tryd.prog 27 #[.int .i64 2, .int .i64 2, .int .i64 b, .int .i64 o] w fun e w' => e = .returned (.bool (fitsB 2 2 b o)) ∧ w = w' := by
  rcases hb with rfl | rfl | rfl | rfl | rfl | rfl <;> rcases ho with rfl | rfl | rfl
  all_goals
    have hm : markedB 1 0 = true ∧ markedB 1 1 = true ∧ markedB 1 2 = true ∧ markedB 2 0 = true ∧ markedB 2 1 = true ∧ markedB 2 2 = true ∧ markedB 3 0 = true ∧ markedB 3 1 = true ∧ markedB 3 2 = true ∧
      markedB 4 0 = true ∧ markedB 4 1 = true ∧ markedB 4 2 = true ∧ markedB 5 0 = true ∧ markedB 5 1 = true ∧ markedB 5 2 = true ∧ markedB 6 0 = true ∧ markedB 6 1 = true ∧ markedB 6 2 = true := by decide
    obtain ⟨m10, m11, m12, m20, m21, m22, m30, m31, m32, m40, m41, m42, m50, m51, m52, m60, m61, m62⟩ := hm
    go_enter Tryd.func27, Tryd.ntmps27
    go_wp2_with (go_at_call 53; refine (rMarked_any _ _ _).mono ?_; rintro e w' ⟨rfl, rfl⟩)
    go_ret
    exact ⟨ret_bool (by decide), rfl⟩

set_option maxHeartbeats 4000000 in
theorem rFits_30 (b o : Int) (w : World) (hb : b = 1 ∨ b = 2 ∨ b = 3 ∨ b = 4 ∨ b = 5 ∨ b = 6) (ho : o = 0 ∨ o = 1 ∨ o = 2) :
    Calls Tryd.prog 27 #[.int .i64 3, .int .i64 0, .int .i64 b, .int .i64 o] w fun e w' => e = .returned (.bool (fitsB 3 0 b o)) ∧ w = w' := by
  rcases hb with rfl | rfl | rfl | rfl | rfl | rfl <;> rcases ho with rfl | rfl | rfl
  all_goals
    have hm : markedB 1 0 = true ∧ markedB 1 1 = true ∧ markedB 1 2 = true ∧ markedB 2 0 = true ∧ markedB 2 1 = true ∧ markedB 2 2 = true ∧ markedB 3 0 = true ∧ markedB 3 1 = true ∧ markedB 3 2 = true ∧
      markedB 4 0 = true ∧ markedB 4 1 = true ∧ markedB 4 2 = true ∧ markedB 5 0 = true ∧ markedB 5 1 = true ∧ markedB 5 2 = true ∧ markedB 6 0 = true ∧ markedB 6 1 = true ∧ markedB 6 2 = true := by decide
    obtain ⟨m10, m11, m12, m20, m21, m22, m30, m31, m32, m40, m41, m42, m50, m51, m52, m60, m61, m62⟩ := hm
    go_enter Tryd.func27, Tryd.ntmps27
    go_wp2_with (go_at_call 53; refine (rMarked_any _ _ _).mono ?_; rintro e w' ⟨rfl, rfl⟩)
    go_ret
    exact ⟨ret_bool (by decide), rfl⟩

set_option maxHeartbeats 4000000 in
theorem rFits_31 (b o : Int) (w : World) (hb : b = 1 ∨ b = 2 ∨ b = 3 ∨ b = 4 ∨ b = 5 ∨ b = 6) (ho : o = 0 ∨ o = 1 ∨ o = 2) :
    Calls Tryd.prog 27 #[.int .i64 3, .int .i64 1, .int .i64 b, .int .i64 o] w fun e w' => e = .returned (.bool (fitsB 3 1 b o)) ∧ w = w' := by
  rcases hb with rfl | rfl | rfl | rfl | rfl | rfl <;> rcases ho with rfl | rfl | rfl
  all_goals
    have hm : markedB 1 0 = true ∧ markedB 1 1 = true ∧ markedB 1 2 = true ∧ markedB 2 0 = true ∧ markedB 2 1 = true ∧ markedB 2 2 = true ∧ markedB 3 0 = true ∧ markedB 3 1 = true ∧ markedB 3 2 = true ∧
      markedB 4 0 = true ∧ markedB 4 1 = true ∧ markedB 4 2 = true ∧ markedB 5 0 = true ∧ markedB 5 1 = true ∧ markedB 5 2 = true ∧ markedB 6 0 = true ∧ markedB 6 1 = true ∧ markedB 6 2 = true := by decide
    obtain ⟨m10, m11, m12, m20, m21, m22, m30, m31, m32, m40, m41, m42, m50, m51, m52, m60, m61, m62⟩ := hm
    go_enter Tryd.func27, Tryd.ntmps27
    go_wp2_with (go_at_call 53; refine (rMarked_any _ _ _).mono ?_; rintro e w' ⟨rfl, rfl⟩)
    go_ret
    exact ⟨ret_bool (by decide), rfl⟩

set_option maxHeartbeats 4000000 in
theorem rFits_32 (b o : Int) (w : World) (hb : b = 1 ∨ b = 2 ∨ b = 3 ∨ b = 4 ∨ b = 5 ∨ b = 6) (ho : o = 0 ∨ o = 1 ∨ o = 2) :
    Calls Tryd.prog 27 #[.int .i64 3, .int .i64 2, .int .i64 b, .int .i64 o] w fun e w' => e = .returned (.bool (fitsB 3 2 b o)) ∧ w = w' := by
  rcases hb with rfl | rfl | rfl | rfl | rfl | rfl <;> rcases ho with rfl | rfl | rfl
  all_goals
    have hm : markedB 1 0 = true ∧ markedB 1 1 = true ∧ markedB 1 2 = true ∧ markedB 2 0 = true ∧ markedB 2 1 = true ∧ markedB 2 2 = true ∧ markedB 3 0 = true ∧ markedB 3 1 = true ∧ markedB 3 2 = true ∧
      markedB 4 0 = true ∧ markedB 4 1 = true ∧ markedB 4 2 = true ∧ markedB 5 0 = true ∧ markedB 5 1 = true ∧ markedB 5 2 = true ∧ markedB 6 0 = true ∧ markedB 6 1 = true ∧ markedB 6 2 = true := by decide
    obtain ⟨m10, m11, m12, m20, m21, m22, m30, m31, m32, m40, m41, m42, m50, m51, m52, m60, m61, m62⟩ := hm
    go_enter Tryd.func27, Tryd.ntmps27
    go_wp2_with (go_at_call 53; refine (rMarked_any _ _ _).mono ?_; rintro e w' ⟨rfl, rfl⟩)
    go_ret
    exact ⟨ret_bool (by decide), rfl⟩

set_option maxHeartbeats 4000000 in
theorem rFits_40 (b o : Int) (w : World) (hb : b = 1 ∨ b = 2 ∨ b = 3 ∨ b = 4 ∨ b = 5 ∨ b = 6) (ho : o = 0 ∨ o = 1 ∨ o = 2) :
    Calls Tryd.prog 27 #[.int .i64 4, .int .i64 0, .int .i64 b, .int .i64 o] w fun e w' => e = .returned (.bool (fitsB 4 0 b o)) ∧ w = w' := by
  rcases hb with rfl | rfl | rfl | rfl | rfl | rfl <;> rcases ho with rfl | rfl | rfl
  all_goals
    have hm : markedB 1 0 = true ∧ markedB 1 1 = true ∧ markedB 1 2 = true ∧ markedB 2 0 = true ∧ markedB 2 1 = true ∧ markedB 2 2 = true ∧ markedB 3 0 = true ∧ markedB 3 1 = true ∧ markedB 3 2 = true ∧
      markedB 4 0 = true ∧ markedB 4 1 = true ∧ markedB 4 2 = true ∧ markedB 5 0 = true ∧ markedB 5 1 = true ∧ markedB 5 2 = true ∧ markedB 6 0 = true ∧ markedB 6 1 = true ∧ markedB 6 2 = true := by decide
    obtain ⟨m10, m11, m12, m20, m21, m22, m30, m31, m32, m40, m41, m42, m50, m51, m52, m60, m61, m62⟩ := hm
    go_enter Tryd.func27, Tryd.ntmps27
    go_wp2_with (go_at_call 53; refine (rMarked_any _ _ _).mono ?_; rintro e w' ⟨rfl, rfl⟩)
    go_ret
    exact ⟨ret_bool (by decide), rfl⟩

set_option maxHeartbeats 4000000 in
theorem rFits_41 (b o : Int) (w : World) (hb : b = 1 ∨ b = 2 ∨ b = 3 ∨ b = 4 ∨ b = 5 ∨ b = 6) (ho : o = 0 ∨ o = 1 ∨ o = 2) :
    Calls Tryd.prog 27 #[.int .i64 4, .int .i64 1, .int .i64 b, .int .i64 o] w fun e w' => e = .returned (.bool (fitsB 4 1 b o)) ∧ w = w' := by
  rcases hb with rfl | rfl | rfl | rfl | rfl | rfl <;> rcases ho with rfl | rfl | rfl
  all_goals
    have hm : markedB 1 0 = true ∧ markedB 1 1 = true ∧ markedB 1 2 = true ∧ markedB 2 0 = true ∧ markedB 2 1 = true ∧ markedB 2 2 = true ∧ markedB 3 0 = true ∧ markedB 3 1 = true ∧ markedB 3 2 = true ∧
      markedB 4 0 = true ∧ markedB 4 1 = true ∧ markedB 4 2 = true ∧ markedB 5 0 = true ∧ markedB 5 1 = true ∧ markedB 5 2 = true ∧ markedB 6 0 = true ∧ markedB 6 1 = true ∧ markedB 6 2 = true := by decide
    obtain ⟨m10, m11, m12, m20, m21, m22, m30, m31, m32, m40, m41, m42, m50, m51, m52, m60, m61, m62⟩ := hm
    go_enter Tryd.func27, Tryd.ntmps27
    go_wp2_with (go_at_call 53; refine (rMarked_any _ _ _).mono ?_; rintro e w' ⟨rfl, rfl⟩)
    go_ret
    exact ⟨ret_bool (by decide), rfl⟩

set_option maxHeartbeats 4000000 in
theorem rFits_42 (b o : Int) (w : World) (hb : b = 1 ∨ b = 2 ∨ b = 3 ∨ b = 4 ∨ b = 5 ∨ b = 6) (ho : o = 0 ∨ o = 1 ∨ o = 2) :
    Calls Tryd.prog 27 #[.int .i64 4, .int .i64 2, .int .i64 b, .int .i64 o] w fun e w' => e = .returned (.bool (fitsB 4 2 b o)) ∧ w = w' := by
  rcases hb with rfl | rfl | rfl | rfl | rfl | rfl <;> rcases ho with rfl | rfl | rfl
  all_goals
    have hm : markedB 1 0 = true ∧ markedB 1 1 = true ∧ markedB 1 2 = true ∧ markedB 2 0 = true ∧ markedB 2 1 = true ∧ markedB 2 2 = true ∧ markedB 3 0 = true ∧ markedB 3 1 = true ∧ markedB 3 2 = true ∧
      markedB 4 0 = true ∧ markedB 4 1 = true ∧ markedB 4 2 = true ∧ markedB 5 0 = true ∧ markedB 5 1 = true ∧ markedB 5 2 = true ∧ markedB 6 0 = true ∧ markedB 6 1 = true ∧ markedB 6 2 = true := by decide
    obtain ⟨m10, m11, m12, m20, m21, m22, m30, m31, m32, m40, m41, m42, m50, m51, m52, m60, m61, m62⟩ := hm
    go_enter Tryd.func27, Tryd.ntmps27
    go_wp2_with (go_at_call 53; refine (rMarked_any _ _ _).mono ?_; rintro e w' ⟨rfl, rfl⟩)
    go_ret
    exact ⟨ret_bool (by decide), rfl⟩

set_option maxHeartbeats 4000000 in
theorem rFits_50 (b o : Int) (w : World) (hb : b = 1 ∨ b = 2 ∨ b = 3 ∨ b = 4 ∨ b = 5 ∨ b = 6) (ho : o = 0 ∨ o = 1 ∨ o = 2) :
    Calls Tryd.prog 27 #[.int .i64 5, .int .i64 0, .int .i64 b, .int .i64 o] w fun e w' => e = .returned (.bool (fitsB 5 0 b o)) ∧ w = w' := by
  rcases hb with rfl | rfl | rfl | rfl | rfl | rfl <;> rcases ho with rfl | rfl | rfl
  all_goals
    have hm : markedB 1 0 = true ∧ markedB 1 1 = true ∧ markedB 1 2 = true ∧ markedB 2 0 = true ∧ markedB 2 1 = true ∧ markedB 2 2 = true ∧ markedB 3 0 = true ∧ markedB 3 1 = true ∧ markedB 3 2 = true ∧
      markedB 4 0 = true ∧ markedB 4 1 = true ∧ markedB 4 2 = true ∧ markedB 5 0 = true ∧ markedB 5 1 = true ∧ markedB 5 2 = true ∧ markedB 6 0 = true ∧ markedB 6 1 = true ∧ markedB 6 2 = true := by decide
    obtain ⟨m10, m11, m12, m20, m21, m22, m30, m31, m32, m40, m41, m42, m50, m51, m52, m60, m61, m62⟩ := hm
    go_enter Tryd.func27, Tryd.ntmps27
    go_wp2_with (go_at_call 53; refine (rMarked_any _ _ _).mono ?_; rintro e w' ⟨rfl, rfl⟩)
    go_ret
    exact ⟨ret_bool (by decide), rfl⟩

set_option maxHeartbeats 4000000 in
theorem rFits_51 (b o : Int) (w : World) (hb : b = 1 ∨ b = 2 ∨ b = 3 ∨ b = 4 ∨ b = 5 ∨ b = 6) (ho : o = 0 ∨ o = 1 ∨ o = 2) :
    Calls Tryd.prog 27 #[.int .i64 5, .int .i64 1, .int .i64 b, .int .i64 o] w fun e w' => e = .returned (.bool (fitsB 5 1 b o)) ∧ w = w' := by
  rcases hb with rfl | rfl | rfl | rfl | rfl | rfl <;> rcases ho with rfl | rfl | rfl
  all_goals
    have hm : markedB 1 0 = true ∧ markedB 1 1 = true ∧ markedB 1 2 = true ∧ markedB 2 0 = true ∧ markedB 2 1 = true ∧ markedB 2 2 = true ∧ markedB 3 0 = true ∧ markedB 3 1 = true ∧ markedB 3 2 = true ∧
      markedB 4 0 = true ∧ markedB 4 1 = true ∧ markedB 4 2 = true ∧ markedB 5 0 = true ∧ markedB 5 1 = true ∧ markedB 5 2 = true ∧ markedB 6 0 = true ∧ markedB 6 1 = true ∧ markedB 6 2 = true := by decide
    obtain ⟨m10, m11, m12, m20, m21, m22, m30, m31, m32, m40, m41, m42, m50, m51, m52, m60, m61, m62⟩ := hm
    go_enter Tryd.func27, Tryd.ntmps27
    go_wp2_with (go_at_call 53; refine (rMarked_any _ _ _).mono ?_; rintro e w' ⟨rfl, rfl⟩)
    go_ret
    exact ⟨ret_bool (by decide), rfl⟩

set_option maxHeartbeats 4000000 in
theorem rFits_52 (b o : Int) (w : World) (hb : b = 1 ∨ b = 2 ∨ b = 3 ∨ b = 4 ∨ b = 5 ∨ b = 6) (ho : o = 0 ∨ o = 1 ∨ o = 2) :
    Calls Tryd.prog 27 #[.int .i64 5, .int .i64 2, .int .i64 b, .int .i64 o] w fun e w' => e = .returned (.bool (fitsB 5 2 b o)) ∧ w = w' := by
  rcases hb with rfl | rfl | rfl | rfl | rfl | rfl <;> rcases ho with rfl | rfl | rfl
  all_goals
    have hm : markedB 1 0 = true ∧ markedB 1 1 = true ∧ markedB 1 2 = true ∧ markedB 2 0 = true ∧ markedB 2 1 = true ∧ markedB 2 2 = true ∧ markedB 3 0 = true ∧ markedB 3 1 = true ∧ markedB 3 2 = true ∧
      markedB 4 0 = true ∧ markedB 4 1 = true ∧ markedB 4 2 = true ∧ markedB 5 0 = true ∧ markedB 5 1 = true ∧ markedB 5 2 = true ∧ markedB 6 0 = true ∧ markedB 6 1 = true ∧ markedB 6 2 = true := by decide
    obtain ⟨m10, m11, m12, m20, m21, m22, m30, m31, m32, m40, m41, m42, m50, m51, m52, m60, m61, m62⟩ := hm
    go_enter Tryd.func27, Tryd.ntmps27
    go_wp2_with (go_at_call 53; refine (rMarked_any _ _ _).mono ?_; rintro e w' ⟨rfl, rfl⟩)
    go_ret
    exact ⟨ret_bool (by decide), rfl⟩

set_option maxHeartbeats 4000000 in
theorem rFits_60 (b o : Int) (w : World) (hb : b = 1 ∨ b = 2 ∨ b = 3 ∨ b = 4 ∨ b = 5 ∨ b = 6) (ho : o = 0 ∨ o = 1 ∨ o = 2) :
    Calls Tryd.prog 27 #[.int .i64 6, .int .i64 0, .int .i64 b, .int .i64 o] w fun e w' => e = .returned (.bool (fitsB 6 0 b o)) ∧ w = w' := by
  rcases hb with rfl | rfl | rfl | rfl | rfl | rfl <;> rcases ho with rfl | rfl | rfl
  all_goals
    have hm : markedB 1 0 = true ∧ markedB 1 1 = true ∧ markedB 1 2 = true ∧ markedB 2 0 = true ∧ markedB 2 1 = true ∧ markedB 2 2 = true ∧ markedB 3 0 = true ∧ markedB 3 1 = true ∧ markedB 3 2 = true ∧
      markedB 4 0 = true ∧ markedB 4 1 = true ∧ markedB 4 2 = true ∧ markedB 5 0 = true ∧ markedB 5 1 = true ∧ markedB 5 2 = true ∧ markedB 6 0 = true ∧ markedB 6 1 = true ∧ markedB 6 2 = true := by decide
    obtain ⟨m10, m11, m12, m20, m21, m22, m30, m31, m32, m40, m41, m42, m50, m51, m52, m60, m61, m62⟩ := hm
    go_enter Tryd.func27, Tryd.ntmps27
    go_wp2_with (go_at_call 53; refine (rMarked_any _ _ _).mono ?_; rintro e w' ⟨rfl, rfl⟩)
    go_ret
    exact ⟨ret_bool (by decide), rfl⟩

set_option maxHeartbeats 4000000 in
theorem rFits_61 (b o : Int) (w : World) (hb : b = 1 ∨ b = 2 ∨ b = 3 ∨ b = 4 ∨ b = 5 ∨ b = 6) (ho : o = 0 ∨ o = 1 ∨ o = 2) :
    Calls Tryd.prog 27 #[.int .i64 6, .int .i64 1, .int .i64 b, .int .i64 o] w fun e w' => e = .returned (.bool (fitsB 6 1 b o)) ∧ w = w' := by
  rcases hb with rfl | rfl | rfl | rfl | rfl | rfl <;> rcases ho with rfl | rfl | rfl
  all_goals
    have hm : markedB 1 0 = true ∧ markedB 1 1 = true ∧ markedB 1 2 = true ∧ markedB 2 0 = true ∧ markedB 2 1 = true ∧ markedB 2 2 = true ∧ markedB 3 0 = true ∧ markedB 3 1 = true ∧ markedB 3 2 = true ∧
      markedB 4 0 = true ∧ markedB 4 1 = true ∧ markedB 4 2 = true ∧ markedB 5 0 = true ∧ markedB 5 1 = true ∧ markedB 5 2 = true ∧ markedB 6 0 = true ∧ markedB 6 1 = true ∧ markedB 6 2 = true := by decide
    obtain ⟨m10, m11, m12, m20, m21, m22, m30, m31, m32, m40, m41, m42, m50, m51, m52, m60, m61, m62⟩ := hm
    go_enter Tryd.func27, Tryd.ntmps27
    go_wp2_with (go_at_call 53; refine (rMarked_any _ _ _).mono ?_; rintro e w' ⟨rfl, rfl⟩)
    go_ret
    exact ⟨ret_bool (by decide), rfl⟩

set_option maxHeartbeats 4000000 in
theorem rFits_62 (b o : Int) (w : World) (hb : b = 1 ∨ b = 2 ∨ b = 3 ∨ b = 4 ∨ b = 5 ∨ b = 6) (ho : o = 0 ∨ o = 1 ∨ o = 2) :
    Calls Tryd.prog 27 #[.int .i64 6, .int .i64 2, .int .i64 b, .int .i64 o] w fun e w' => e = .returned (.bool (fitsB 6 2 b o)) ∧ w = w' := by
  rcases hb with rfl | rfl | rfl | rfl | rfl | rfl <;> rcases ho with rfl | rfl | rfl
  all_goals
    have hm : markedB 1 0 = true ∧ markedB 1 1 = true ∧ markedB 1 2 = true ∧ markedB 2 0 = true ∧ markedB 2 1 = true ∧ markedB 2 2 = true ∧ markedB 3 0 = true ∧ markedB 3 1 = true ∧ markedB 3 2 = true ∧
      markedB 4 0 = true ∧ markedB 4 1 = true ∧ markedB 4 2 = true ∧ markedB 5 0 = true ∧ markedB 5 1 = true ∧ markedB 5 2 = true ∧ markedB 6 0 = true ∧ markedB 6 1 = true ∧ markedB 6 2 = true := by decide
    obtain ⟨m10, m11, m12, m20, m21, m22, m30, m31, m32, m40, m41, m42, m50, m51, m52, m60, m61, m62⟩ := hm
    go_enter Tryd.func27, Tryd.ntmps27
    go_wp2_with (go_at_call 53; refine (rMarked_any _ _ _).mono ?_; rintro e w' ⟨rfl, rfl⟩)
    go_ret
    exact ⟨ret_bool (by decide), rfl⟩

theorem rFits_any (a m b o : Int) (w : World) :
    Calls Tryd.prog 27 #[.int .i64 a, .int .i64 m, .int .i64 b, .int .i64 o] w fun e w' => e = .returned (.bool (fitsB a m b o)) ∧ w = w' := by
  cases h : markedB a m && markedB b o
  · have e0 : fitsB a m b o = false := by simp only [fitsB, h, Bool.false_and]
    rw [e0]
    exact rFits_no a m b o w h
  · have h' : markedB a m = true ∧ markedB b o = true := by simpa using h
    obtain ⟨k1, k2⟩ := marks_of h'.1
    obtain ⟨k3, k4⟩ := marks_of h'.2
    rcases k1 with rfl | rfl | rfl | rfl | rfl | rfl <;> rcases k2 with rfl | rfl | rfl
    · exact rFits_10 b o w k3 k4
    · exact rFits_11 b o w k3 k4
    · exact rFits_12 b o w k3 k4
    · exact rFits_20 b o w k3 k4
    · exact rFits_21 b o w k3 k4
    · exact rFits_22 b o w k3 k4
    · exact rFits_30 b o w k3 k4
    · exact rFits_31 b o w k3 k4
    · exact rFits_32 b o w k3 k4
    · exact rFits_40 b o w k3 k4
    · exact rFits_41 b o w k3 k4
    · exact rFits_42 b o w k3 k4
    · exact rFits_50 b o w k3 k4
    · exact rFits_51 b o w k3 k4
    · exact rFits_52 b o w k3 k4
    · exact rFits_60 b o w k3 k4
    · exact rFits_61 b o w k3 k4
    · exact rFits_62 b o w k3 k4

set_option maxHeartbeats 400000 in
theorem rSub_any (a b : Int) (w : World) :
    Calls Tryd.prog 25 #[.int .i64 a, .int .i64 b] w fun e w' => e = .returned (.bool (fitsB a 1 b 0)) ∧ w = w' := by
  go_enter Tryd.func25, Tryd.ntmps25
  go_wp2_with (go_at_call 27; refine (rFits_any _ _ _ _ _).mono ?_; rintro e w' ⟨rfl, rfl⟩)
  go_ret
  exact ⟨rfl, rfl⟩

set_option maxHeartbeats 400000 in
theorem rAlias_any (c m : Int) (w : World) :
    Calls Tryd.prog 29 #[.int .i64 c, .int .i64 m] w fun e w' => e = .returned (.tuple #[.int .i64 (aliC c m), .int .i64 (aliM c m)]) ∧ w = w' := by
  cases h1 : markedB c m
  · have H : aliC c m = 0 ∧ aliM c m = 0 := by simp [aliC, aliM, h1]
    rw [H.1, H.2]
    clear H
    go_enter Tryd.func29, Tryd.ntmps29
    go_wp2_with (first | (go_at_call 53; refine (rMarked_any _ _ _).mono ?_; rintro e w' ⟨rfl, rfl⟩) | (go_at_call 55; refine (rUnique_any _ _).mono ?_; rintro e w' ⟨rfl, rfl⟩))
    go_ret2
    exact ⟨rfl, rfl⟩
  · cases h2 : uniqueB c <;> cases h3 : (m == 1)
    all_goals
      have H : aliC c m = c := by simp [aliC, h1]
      rw [H]
      clear H
      have H2 := Lib.hid (show aliM c m = (if (true && (uniqueB c && !(m == 1))) = true then 2 else 0) by simp only [aliM, h1])
      go_enter Tryd.func29, Tryd.ntmps29
      go_wp2_with (first | (go_at_call 53; refine (rMarked_any _ _ _).mono ?_; rintro e w' ⟨rfl, rfl⟩) | (go_at_call 55; refine (rUnique_any _ _).mono ?_; rintro e w' ⟨rfl, rfl⟩))
      go_ret2
      exact ⟨ret_ints rfl (by rw [H2.out, h2, h3]; rfl), rfl⟩

set_option maxHeartbeats 400000 in
theorem rConsumed_any (c m : Int) (w : World) :
    Calls Tryd.prog 31 #[.int .i64 c, .int .i64 m] w fun e w' => e = .returned (.tuple #[.int .i64 (aliC c m), .int .i64 (conM c m)]) ∧ w = w' := by
  cases h1 : markedB c m
  · have H : aliC c m = 0 ∧ conM c m = 0 := by simp [aliC, conM, h1]
    rw [H.1, H.2]
    clear H
    go_enter Tryd.func31, Tryd.ntmps31
    go_wp2_with (first | (go_at_call 53; refine (rMarked_any _ _ _).mono ?_; rintro e w' ⟨rfl, rfl⟩) | (go_at_call 55; refine (rUnique_any _ _).mono ?_; rintro e w' ⟨rfl, rfl⟩))
    go_ret2
    exact ⟨rfl, rfl⟩
  · cases h2 : uniqueB c <;> cases h3 : (m == 2)
    all_goals
      have H : aliC c m = c := by simp [aliC, h1]
      rw [H]
      clear H
      have H2 := Lib.hid (show conM c m = (if (true && uniqueB c) = true then (if (m == 2) = true then 2 else 1) else 0) by simp only [conM, h1])
      go_enter Tryd.func31, Tryd.ntmps31
      go_wp2_with (first | (go_at_call 53; refine (rMarked_any _ _ _).mono ?_; rintro e w' ⟨rfl, rfl⟩) | (go_at_call 55; refine (rUnique_any _ _).mono ?_; rintro e w' ⟨rfl, rfl⟩))
      go_ret2
      exact ⟨ret_ints rfl (by rw [H2.out, h2, h3]; rfl), rfl⟩

set_option maxHeartbeats 800000 in
theorem rRecover_any (c : Int) (w : World) :
    Calls Tryd.prog 33 #[.int .i64 c] w fun e w' => e = .returned (.tuple #[.int .i64 (recI c), .bool (isB c)]) ∧ w = w' := by
  cases h : isB c
  · obtain ⟨n1, n2, n3, n4, n5, n6⟩ := no_eq h
    have H : recI c = 0 := by simp [recI, h]
    rw [H]
    clear H
    go_enter Tryd.func33, Tryd.ntmps33
    go_wp2
    go_ret2
    exact ⟨rfl, rfl⟩
  · rcases (isB_iff c).1 h with rfl | rfl | rfl | rfl | rfl | rfl
    all_goals
      go_enter Tryd.func33, Tryd.ntmps33
      go_wp2
      go_ret2
      exact ⟨ret_view (by decide) rfl, rfl⟩

end Cp
end Go.Proofs.YtgdfoonflkddnaaDoor
