/- More contracts of package cap, for any numbers; and of the law's own examples. -/
import Derived.Test.YtgdfoonflkddnaaDoorA2
namespace Go.Proofs.YtgdfoonflkddnaaDoor
open Go.ChangeShapes Go.WideShapes Go.ChangeAt Go.RowKit
namespace Cp

theorem ret_ints {a b a' b' : Int} (h : a = a') (h' : b = b') : Ending.returned (.tuple #[.int .i64 a, .int .i64 b]) = .returned (.tuple #[.int .i64 a', .int .i64 b']) := by rw [h, h']

set_option maxHeartbeats 400000 in
theorem Alias_any (c m : Int) (w : World) :
    Calls Tryd.prog 28 #[.int .i64 c, .int .i64 m] w fun e w' => e = .returned (.tuple #[.int .i64 (aliC c m), .int .i64 (aliM c m)]) ∧ w = w' := by
  cases h1 : markedB c m
  · have H : aliC c m = 0 ∧ aliM c m = 0 := by simp [aliC, aliM, h1]
    rw [H.1, H.2]
    clear H
    go_enter Tryd.func28, Tryd.ntmps28
    go_wp2_with (first | (go_at_call 52; refine (isMarked_any _ _ _).mono ?_; rintro e w' ⟨rfl, rfl⟩) | (go_at_call 54; refine (isUnique_any _ _).mono ?_; rintro e w' ⟨rfl, rfl⟩))
    go_ret2
    exact ⟨rfl, rfl⟩
  · cases h2 : uniqueB c <;> cases h3 : (m == 1)
    all_goals
      have H : aliC c m = c := by simp [aliC, h1]
      rw [H]
      clear H
      have H2 := Lib.hid (show aliM c m = (if (true && (uniqueB c && !(m == 1))) = true then 2 else 0) by simp only [aliM, h1])
      have h4 : (m != 1) = !(m == 1) := rfl
      rw [h3] at h4
      simp only [Bool.not_true, Bool.not_false] at h4
      go_enter Tryd.func28, Tryd.ntmps28
      go_wp2_with (first | (go_at_call 52; refine (isMarked_any _ _ _).mono ?_; rintro e w' ⟨rfl, rfl⟩) | (go_at_call 54; refine (isUnique_any _ _).mono ?_; rintro e w' ⟨rfl, rfl⟩))
      go_ret2
      exact ⟨ret_ints rfl (by rw [H2.out, h2, h3]; rfl), rfl⟩

set_option maxHeartbeats 400000 in
theorem Consumed_any (c m : Int) (w : World) :
    Calls Tryd.prog 30 #[.int .i64 c, .int .i64 m] w fun e w' => e = .returned (.tuple #[.int .i64 (aliC c m), .int .i64 (conM c m)]) ∧ w = w' := by
  cases h1 : markedB c m
  · have H : aliC c m = 0 ∧ conM c m = 0 := by simp [aliC, conM, h1]
    rw [H.1, H.2]
    clear H
    go_enter Tryd.func30, Tryd.ntmps30
    go_wp2_with (first | (go_at_call 52; refine (isMarked_any _ _ _).mono ?_; rintro e w' ⟨rfl, rfl⟩) | (go_at_call 54; refine (isUnique_any _ _).mono ?_; rintro e w' ⟨rfl, rfl⟩))
    go_ret2
    exact ⟨rfl, rfl⟩
  · cases h2 : uniqueB c <;> cases h3 : (m == 2)
    all_goals
      have H : aliC c m = c := by simp [aliC, h1]
      rw [H]
      clear H
      have H2 := Lib.hid (show conM c m = (if (true && uniqueB c) = true then (if (m == 2) = true then 2 else 1) else 0) by simp only [conM, h1])
      go_enter Tryd.func30, Tryd.ntmps30
      go_wp2_with (first | (go_at_call 52; refine (isMarked_any _ _ _).mono ?_; rintro e w' ⟨rfl, rfl⟩) | (go_at_call 54; refine (isUnique_any _ _).mono ?_; rintro e w' ⟨rfl, rfl⟩))
      go_ret2
      exact ⟨ret_ints rfl (by rw [H2.out, h2, h3]; rfl), rfl⟩

set_option maxHeartbeats 400000 in
theorem counted_any (c m : Int) (w : World) :
    Calls Tryd.prog 56 #[.int .i64 c, .int .i64 m] w fun e w' => e = .returned (.int .i64 (countI c m)) ∧ w = w' := by
  cases h1 : (c == 1) <;> cases h2 : (c == 2) <;> cases h3 : (m == 2)
  all_goals
    have H := Lib.hid (show countI c m = (if (c == 1 && m == 2) = true then 6 else if (c == 2 && m == 2) = true then 5 else c) from rfl)
    go_enter Tryd.func56, Tryd.ntmps56
    go_wp2
    go_ret
    exact ⟨by rw [H.out, h1, h2, h3]; rfl, rfl⟩

set_option maxHeartbeats 400000 in
theorem Recover_any (c : Int) (w : World) (hR : TabAt 4 recL w) :
    Calls Tryd.prog 32 #[.int .i64 c] w fun e w' => e = .returned (.tuple #[.int .i64 (recI c), .bool (isB c)]) ∧ w = w' := by
  cases h1 : isB c
  · have H : recI c = 0 := by simp [recI, h1]
    rw [H]
    clear H hR
    go_enter Tryd.func32, Tryd.ntmps32
    go_wp2_with (go_at_call 13; refine (Is_any _ _).mono ?_; rintro e w' ⟨rfl, rfl⟩)
    go_ret2
    exact ⟨rfl, rfl⟩
  · have H : recI c = recL.getD c.toNat 0 := by simp [recI, h1]
    rw [H]
    clear H
    obtain ⟨n, rfl, _, q2⟩ := nat_of_isB h1
    simp only [Int.toNat_natCast]
    have hc := hR n (by simp [recL]; omega)
    generalize recL.getD n 0 = x at hc ⊢
    have n7 : (n : Int) < 7 := by omega
    clear hR
    go_enter Tryd.func32, Tryd.ntmps32
    go_wp2_with (go_at_call 13; refine (Is_any _ _).mono ?_; rintro e w' ⟨rfl, rfl⟩)
    go_ret2
    exact ⟨rfl, rfl⟩

set_option maxHeartbeats 400000 in
theorem Local_any (a b : Int) (w : World) (hT : TabAt 7 besL w) :
    Calls Tryd.prog 41 #[.int .i64 a, .int .i64 b] w fun e w' => e = .returned (.bool (localB a b)) ∧ w = w' := by
  cases h1 : isB a
  · have H : localB a b = false := by simp [localB, h1]
    rw [H]
    clear H hT
    go_enter Tryd.func41, Tryd.ntmps41
    go_wp2_with (go_at_call 13; refine (Is_any _ _).mono ?_; rintro e w' ⟨rfl, rfl⟩)
    go_ret
    exact ⟨rfl, rfl⟩
  · have H : localB a b = hasB (besL.getD a.toNat 0) b := by simp [localB, h1]
    rw [H]
    clear H
    obtain ⟨n, rfl, _, q2⟩ := nat_of_isB h1
    simp only [Int.toNat_natCast]
    have hc := hT n (by simp [besL]; omega)
    generalize besL.getD n 0 = x at hc ⊢
    have n7 : (n : Int) < 7 := by omega
    clear hT
    go_enter Tryd.func41, Tryd.ntmps41
    go_wp2_with (first | (go_at_call 13; refine (Is_any _ _).mono ?_; rintro e w' ⟨rfl, rfl⟩) | (go_at_call 51; refine (has_any _ _ _).mono ?_; rintro e w' ⟨rfl, rfl⟩))
    go_ret
    exact ⟨rfl, rfl⟩

set_option maxHeartbeats 400000 in
theorem Global_any (a b : Int) (w : World) (hT : TabAt 8 elsL w) :
    Calls Tryd.prog 43 #[.int .i64 a, .int .i64 b] w fun e w' => e = .returned (.bool (globalB a b)) ∧ w = w' := by
  cases h1 : isB a
  · have H : globalB a b = false := by simp [globalB, h1]
    rw [H]
    clear H hT
    go_enter Tryd.func43, Tryd.ntmps43
    go_wp2_with (go_at_call 13; refine (Is_any _ _).mono ?_; rintro e w' ⟨rfl, rfl⟩)
    go_ret
    exact ⟨rfl, rfl⟩
  · have H : globalB a b = hasB (elsL.getD a.toNat 0) b := by simp [globalB, h1]
    rw [H]
    clear H
    obtain ⟨n, rfl, _, q2⟩ := nat_of_isB h1
    simp only [Int.toNat_natCast]
    have hc := hT n (by simp [elsL]; omega)
    generalize elsL.getD n 0 = x at hc ⊢
    have n7 : (n : Int) < 7 := by omega
    clear hT
    go_enter Tryd.func43, Tryd.ntmps43
    go_wp2_with (first | (go_at_call 13; refine (Is_any _ _).mono ?_; rintro e w' ⟨rfl, rfl⟩) | (go_at_call 51; refine (has_any _ _ _).mono ?_; rintro e w' ⟨rfl, rfl⟩))
    go_ret
    exact ⟨rfl, rfl⟩

end Cp
end Go.Proofs.YtgdfoonflkddnaaDoor
