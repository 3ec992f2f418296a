/- Contracts of the reference's functions, for any numbers: they answer what package cap's do. -/
import Derived.Test.YtgdfoonflkddnaaDoorB1
namespace Go.Proofs.YtgdfoonflkddnaaDoor
open Go.ChangeShapes Go.WideShapes Go.ChangeAt Go.RowKit
namespace Cp

theorem no_eq {c : Int} (h : isB c = false) : (c == 1) = false ∧ (c == 2) = false ∧ (c == 3) = false ∧ (c == 4) = false ∧ (c == 5) = false ∧ (c == 6) = false := by
  have h' : ¬ (c = 1 ∨ c = 2 ∨ c = 3 ∨ c = 4 ∨ c = 5 ∨ c = 6) := fun k => by rw [(isB_iff c).2 k] at h; cases h
  simp only [beq_eq_false_iff_ne, ne_eq]
  omega

theorem has_out {s c : Int} (h : isB c = false) : hasB s c = false := by simp [hasB, h]

set_option maxHeartbeats 400000 in
theorem rIs_any (c : Int) (w : World) :
    Calls Tryd.prog 14 #[.int .i64 c] w fun e w' => e = .returned (.bool (isB c)) ∧ w = w' := by
  by_cases h1 : 1 ≤ c <;> by_cases h2 : c ≤ 6
  all_goals
    go_enter Tryd.func14, Tryd.ntmps14
    go_wp2
    all_goals (go_ret; exact ⟨ret_bool (by simp [isB]; omega), rfl⟩)

set_option maxHeartbeats 400000 in
theorem rMarked_any (c m : Int) (w : World) :
    Calls Tryd.prog 53 #[.int .i64 c, .int .i64 m] w fun e w' => e = .returned (.bool (markedB c m)) ∧ w = w' := by
  by_cases h : isB c = true
  · by_cases h1 : 0 ≤ m <;> by_cases h2 : m ≤ 2
    all_goals
      go_enter Tryd.func53, Tryd.ntmps53
      go_wp2_with (go_at_call 14; refine (rIs_any _ _).mono ?_; rintro e w' ⟨rfl, rfl⟩)
      all_goals (go_ret; exact ⟨ret_bool (by simp [markedB, h] <;> omega), rfl⟩)
  · have h' : isB c = false := by simpa using h
    clear h
    go_enter Tryd.func53, Tryd.ntmps53
    go_wp2_with (go_at_call 14; refine (rIs_any _ _).mono ?_; rintro e w' ⟨rfl, rfl⟩)
    go_ret
    exact ⟨ret_bool (by simp [markedB, h']), rfl⟩

set_option maxHeartbeats 400000 in
theorem rCounts_any (c m : Int) (w : World) :
    Calls Tryd.prog 57 #[.int .i64 c, .int .i64 m] w fun e w' => e = .returned (.int .i64 (countI c m)) ∧ w = w' := by
  cases h1 : (c == 1) <;> cases h2 : (c == 2) <;> cases h3 : (m == 2)
  all_goals
    have H := Lib.hid (show countI c m = (if (c == 1 && m == 2) = true then 6 else if (c == 2 && m == 2) = true then 5 else c) from rfl)
    go_enter Tryd.func57, Tryd.ntmps57
    go_wp2
    go_ret
    exact ⟨by rw [H.out, h1, h2, h3]; rfl, rfl⟩

def sharedB (c : Int) : Bool := hasB 48 c
set_option maxHeartbeats 400000 in
theorem rReads_any (c : Int) (w : World) :
    Calls Tryd.prog 19 #[.int .i64 c] w fun e w' => e = .returned (.bool (readsB c)) ∧ w = w' := by
  cases h : isB c
  · obtain ⟨n1, n2, n3, n4, n5, n6⟩ := no_eq h
    have H := Lib.hid (show readsB c = false from has_out h)
    go_enter Tryd.func19, Tryd.ntmps19
    go_wp2_with (go_at_call 14; refine (rIs_any _ _).mono ?_; rintro e w' ⟨rfl, rfl⟩)
    go_ret
    exact ⟨ret_bool H.out.symm, rfl⟩
  · have hb : isB 1 = true ∧ isB 2 = true ∧ isB 3 = true ∧ isB 4 = true ∧ isB 5 = true ∧ isB 6 = true := by decide
    obtain ⟨b1, b2, b3, b4, b5, b6⟩ := hb
    rcases (isB_iff c).1 h with rfl | rfl | rfl | rfl | rfl | rfl
    all_goals
      go_enter Tryd.func19, Tryd.ntmps19
      go_wp2_with (go_at_call 14; refine (rIs_any _ _).mono ?_; rintro e w' ⟨rfl, rfl⟩)
      go_ret
      exact ⟨ret_bool (by decide), rfl⟩

set_option maxHeartbeats 400000 in
theorem rWrites_any (c : Int) (w : World) :
    Calls Tryd.prog 21 #[.int .i64 c] w fun e w' => e = .returned (.bool (writesB c)) ∧ w = w' := by
  cases h : isB c
  · obtain ⟨n1, n2, n3, n4, n5, n6⟩ := no_eq h
    have H := Lib.hid (show writesB c = false from has_out h)
    go_enter Tryd.func21, Tryd.ntmps21
    go_wp2
    go_ret
    exact ⟨ret_bool H.out.symm, rfl⟩
  · have hb : isB 1 = true ∧ isB 2 = true ∧ isB 3 = true ∧ isB 4 = true ∧ isB 5 = true ∧ isB 6 = true := by decide
    obtain ⟨b1, b2, b3, b4, b5, b6⟩ := hb
    rcases (isB_iff c).1 h with rfl | rfl | rfl | rfl | rfl | rfl
    all_goals
      go_enter Tryd.func21, Tryd.ntmps21
      go_wp2
      go_ret
      exact ⟨ret_bool (by decide), rfl⟩

set_option maxHeartbeats 400000 in
theorem rSend_any (c : Int) (w : World) :
    Calls Tryd.prog 23 #[.int .i64 c] w fun e w' => e = .returned (.bool (sendB c)) ∧ w = w' := by
  cases h : isB c
  · obtain ⟨n1, n2, n3, n4, n5, n6⟩ := no_eq h
    have H := Lib.hid (show sendB c = false from has_out h)
    go_enter Tryd.func23, Tryd.ntmps23
    go_wp2
    go_ret
    exact ⟨ret_bool H.out.symm, rfl⟩
  · have hb : isB 1 = true ∧ isB 2 = true ∧ isB 3 = true ∧ isB 4 = true ∧ isB 5 = true ∧ isB 6 = true := by decide
    obtain ⟨b1, b2, b3, b4, b5, b6⟩ := hb
    rcases (isB_iff c).1 h with rfl | rfl | rfl | rfl | rfl | rfl
    all_goals
      go_enter Tryd.func23, Tryd.ntmps23
      go_wp2
      go_ret
      exact ⟨ret_bool (by decide), rfl⟩

set_option maxHeartbeats 400000 in
theorem rUnique_any (c : Int) (w : World) :
    Calls Tryd.prog 55 #[.int .i64 c] w fun e w' => e = .returned (.bool (uniqueB c)) ∧ w = w' := by
  cases h : isB c
  · obtain ⟨n1, n2, n3, n4, n5, n6⟩ := no_eq h
    have H := Lib.hid (show uniqueB c = false from has_out h)
    go_enter Tryd.func55, Tryd.ntmps55
    go_wp2
    go_ret
    exact ⟨ret_bool H.out.symm, rfl⟩
  · have hb : isB 1 = true ∧ isB 2 = true ∧ isB 3 = true ∧ isB 4 = true ∧ isB 5 = true ∧ isB 6 = true := by decide
    obtain ⟨b1, b2, b3, b4, b5, b6⟩ := hb
    rcases (isB_iff c).1 h with rfl | rfl | rfl | rfl | rfl | rfl
    all_goals
      go_enter Tryd.func55, Tryd.ntmps55
      go_wp2
      go_ret
      exact ⟨ret_bool (by decide), rfl⟩

set_option maxHeartbeats 400000 in
theorem rShared_any (c : Int) (w : World) :
    Calls Tryd.prog 59 #[.int .i64 c] w fun e w' => e = .returned (.bool (sharedB c)) ∧ w = w' := by
  cases h : isB c
  · obtain ⟨n1, n2, n3, n4, n5, n6⟩ := no_eq h
    have H := Lib.hid (show sharedB c = false from has_out h)
    go_enter Tryd.func59, Tryd.ntmps59
    go_wp2
    go_ret
    exact ⟨ret_bool H.out.symm, rfl⟩
  · have hb : isB 1 = true ∧ isB 2 = true ∧ isB 3 = true ∧ isB 4 = true ∧ isB 5 = true ∧ isB 6 = true := by decide
    obtain ⟨b1, b2, b3, b4, b5, b6⟩ := hb
    rcases (isB_iff c).1 h with rfl | rfl | rfl | rfl | rfl | rfl
    all_goals
      go_enter Tryd.func59, Tryd.ntmps59
      go_wp2
      go_ret
      exact ⟨ret_bool (by decide), rfl⟩

def besideB (a b : Int) : Bool := if a = 6 then true else if a = 5 then !(b == 1) else if a = 3 then (b == 3 || b == 5 || b == 6) else if a = 4 then (b == 4 || b == 5 || b == 6) else if a = 2 then (b == 5 || b == 6) else b == 6

set_option maxHeartbeats 4000000 in
theorem rBeside_six (a b : Int) (w : World) (ha : a = 1 ∨ a = 2 ∨ a = 3 ∨ a = 4 ∨ a = 5 ∨ a = 6) (hb : b = 1 ∨ b = 2 ∨ b = 3 ∨ b = 4 ∨ b = 5 ∨ b = 6) :
    Calls Tryd.prog 58 #[.int .i64 a, .int .i64 b] w fun e w' => e = .returned (.bool (besideB a b)) ∧ w = w' := by
  rcases ha with rfl | rfl | rfl | rfl | rfl | rfl <;> rcases hb with rfl | rfl | rfl | rfl | rfl | rfl
  all_goals
    go_enter Tryd.func58, Tryd.ntmps58
    go_wp2
    go_ret
    exact ⟨ret_bool (by decide), rfl⟩

theorem ret_view {a a' : Int} {c c' : Bool} (h : a = a') (h' : c = c') : Ending.returned (.tuple #[.int .i64 a, .bool c]) = .returned (.tuple #[.int .i64 a', .bool c']) := by rw [h, h']

set_option maxHeartbeats 8000000 in
theorem rView_any (o f : Int) (w : World) :
    Calls Tryd.prog 36 #[.int .i64 o, .int .i64 f] w fun e w' => e = .returned (.tuple #[.int .i64 (viewI o f), .bool (viewB o f)]) ∧ w = w' := by
  cases h1 : isB o
  · have e1 : viewB o f = false := by simp [viewB, h1]
    have e2 : viewI o f = 0 := by simp [viewI, e1]
    rw [e1, e2]
    clear e1 e2
    go_enter Tryd.func36, Tryd.ntmps36
    go_wp2_with (first | (go_at_call 14; refine (rIs_any _ _).mono ?_; rintro e w' ⟨rfl, rfl⟩) | (go_at_call 55; refine (rUnique_any _ _).mono ?_; rintro e w' ⟨rfl, rfl⟩))
    go_ret2
    exact ⟨rfl, rfl⟩
  · cases h2 : isB f
    · have e1 : viewB o f = false := by simp [viewB, h2]
      have e2 : viewI o f = 0 := by simp [viewI, e1]
      rw [e1, e2]
      clear e1 e2
      go_enter Tryd.func36, Tryd.ntmps36
      go_wp2_with (first | (go_at_call 14; refine (rIs_any _ _).mono ?_; rintro e w' ⟨rfl, rfl⟩) | (go_at_call 55; refine (rUnique_any _ _).mono ?_; rintro e w' ⟨rfl, rfl⟩))
      go_ret2
      exact ⟨rfl, rfl⟩
    · rcases (isB_iff o).1 h1 with rfl | rfl | rfl | rfl | rfl | rfl <;> rcases (isB_iff f).1 h2 with rfl | rfl | rfl | rfl | rfl | rfl
      all_goals
        have hb : isB 1 = true ∧ isB 2 = true ∧ isB 3 = true ∧ isB 4 = true ∧ isB 5 = true ∧ isB 6 = true := by decide
        obtain ⟨b1, b2, b3, b4, b5, b6⟩ := hb
        have hu : uniqueB 1 = true ∧ uniqueB 2 = true ∧ uniqueB 3 = false ∧ uniqueB 4 = false ∧ uniqueB 5 = false ∧ uniqueB 6 = false := by decide
        obtain ⟨u1, u2, u3, u4, u5, u6⟩ := hu
        go_enter Tryd.func36, Tryd.ntmps36
        go_wp2_with (first | (go_at_call 14; refine (rIs_any _ _).mono ?_; rintro e w' ⟨rfl, rfl⟩) | (go_at_call 55; refine (rUnique_any _ _).mono ?_; rintro e w' ⟨rfl, rfl⟩))
        go_ret2
        exact ⟨ret_view (by decide) (by decide), rfl⟩

set_option maxHeartbeats 4000000 in
theorem rExtract_any (o f : Int) (w : World) :
    Calls Tryd.prog 38 #[.int .i64 o, .int .i64 f] w fun e w' => e = .returned (.tuple #[.int .i64 (exI o f), .int .i64 (exM o f), .bool (exB o f)]) ∧ w = w' := by
  cases h1 : writesB o
  · have e0 : exB o f = false := by simp [exB, h1]
    have e1 : exI o f = 0 := by simp [exI, e0]
    have e2 : exM o f = 0 := by simp [exM, e0]
    rw [e0, e1, e2]
    clear e0 e1 e2
    go_enter Tryd.func38, Tryd.ntmps38
    go_wp2_with (first | (go_at_call 14; refine (rIs_any _ _).mono ?_; rintro e w' ⟨rfl, rfl⟩) | (go_at_call 21; refine (rWrites_any _ _).mono ?_; rintro e w' ⟨rfl, rfl⟩) | (go_at_call 36; refine (rView_any _ _ _).mono ?_; rintro e w' ⟨rfl, rfl⟩))
    go_ret3
    exact ⟨rfl, rfl⟩
  · cases h2 : isB f
    · have e0 : exB o f = false := by simp [exB, h2]
      have e1 : exI o f = 0 := by simp [exI, e0]
      have e2 : exM o f = 0 := by simp [exM, e0]
      rw [e0, e1, e2]
      clear e0 e1 e2
      go_enter Tryd.func38, Tryd.ntmps38
      go_wp2_with (first | (go_at_call 14; refine (rIs_any _ _).mono ?_; rintro e w' ⟨rfl, rfl⟩) | (go_at_call 21; refine (rWrites_any _ _).mono ?_; rintro e w' ⟨rfl, rfl⟩) | (go_at_call 36; refine (rView_any _ _ _).mono ?_; rintro e w' ⟨rfl, rfl⟩))
      go_ret3
      exact ⟨rfl, rfl⟩
    · rcases writes_cases h1 with rfl | rfl | rfl <;> rcases (isB_iff f).1 h2 with rfl | rfl | rfl | rfl | rfl | rfl
      all_goals
        go_enter Tryd.func38, Tryd.ntmps38
        go_wp2_with (first | (go_at_call 14; refine (rIs_any _ _).mono ?_; rintro e w' ⟨rfl, rfl⟩) | (go_at_call 21; refine (rWrites_any _ _).mono ?_; rintro e w' ⟨rfl, rfl⟩) | (go_at_call 36; refine (rView_any _ _ _).mono ?_; rintro e w' ⟨rfl, rfl⟩))
        go_ret3
        exact ⟨ret_ex (by decide) (by decide) (by decide), rfl⟩

set_option maxHeartbeats 8000000 in
theorem rStore_yes (o c m : Int) (w : World) (ho : o = 1 ∨ o = 2 ∨ o = 3) (hc : c = 1 ∨ c = 2 ∨ c = 3 ∨ c = 4 ∨ c = 5 ∨ c = 6) (hm : m = 0 ∨ m = 1 ∨ m = 2) :
    Calls Tryd.prog 40 #[.int .i64 o, .int .i64 c, .int .i64 m] w fun e w' => e = .returned (.bool (storeB o c m)) ∧ w = w' := by
  rcases ho with rfl | rfl | rfl <;> rcases hc with rfl | rfl | rfl | rfl | rfl | rfl <;> rcases hm with rfl | rfl | rfl
  all_goals
    have hw : writesB 1 = true ∧ writesB 2 = true ∧ writesB 3 = true ∧ writesB 4 = false ∧ writesB 5 = false ∧ writesB 6 = false := by decide
    obtain ⟨r1, r2, r3, r4, r5, r6⟩ := hw
    have hs : sendB 1 = true ∧ sendB 2 = false ∧ sendB 3 = false ∧ sendB 4 = true ∧ sendB 5 = false ∧ sendB 6 = true := by decide
    obtain ⟨s1, s2, s3, s4, s5, s6⟩ := hs
    have hm : markedB 1 0 = true ∧ markedB 1 1 = true ∧ markedB 1 2 = true ∧ markedB 2 0 = true ∧ markedB 2 1 = true ∧ markedB 2 2 = true ∧ markedB 3 0 = true ∧ markedB 3 1 = true ∧ markedB 3 2 = true ∧
      markedB 4 0 = true ∧ markedB 4 1 = true ∧ markedB 4 2 = true ∧ markedB 5 0 = true ∧ markedB 5 1 = true ∧ markedB 5 2 = true ∧ markedB 6 0 = true ∧ markedB 6 1 = true ∧ markedB 6 2 = true := by decide
    obtain ⟨m10, m11, m12, m20, m21, m22, m30, m31, m32, m40, m41, m42, m50, m51, m52, m60, m61, m62⟩ := hm
    have hq : countI 1 0 = 1 ∧ countI 1 1 = 1 ∧ countI 1 2 = 6 ∧ countI 2 0 = 2 ∧ countI 2 1 = 2 ∧ countI 2 2 = 5 ∧ countI 3 0 = 3 ∧ countI 3 1 = 3 ∧ countI 3 2 = 3 ∧
      countI 4 0 = 4 ∧ countI 4 1 = 4 ∧ countI 4 2 = 4 ∧ countI 5 0 = 5 ∧ countI 5 1 = 5 ∧ countI 5 2 = 5 ∧ countI 6 0 = 6 ∧ countI 6 1 = 6 ∧ countI 6 2 = 6 := by decide
    obtain ⟨q10, q11, q12, q20, q21, q22, q30, q31, q32, q40, q41, q42, q50, q51, q52, q60, q61, q62⟩ := hq
    go_enter Tryd.func40, Tryd.ntmps40
    go_wp2_with (first | (go_at_call 21; refine (rWrites_any _ _).mono ?_; rintro e w' ⟨rfl, rfl⟩) | (go_at_call 23; refine (rSend_any _ _).mono ?_; rintro e w' ⟨rfl, rfl⟩) | (go_at_call 53; refine (rMarked_any _ _ _).mono ?_; rintro e w' ⟨rfl, rfl⟩) | (go_at_call 57; refine (rCounts_any _ _ _).mono ?_; rintro e w' ⟨rfl, rfl⟩))
    go_ret
    exact ⟨ret_bool (by decide), rfl⟩

theorem stor_out {o : Int} (h : writesB o = false) (c : Int) : (isB o && hasB (storL.getD o.toNat 0) c) = false := by
  cases h1 : isB o
  · rfl
  · rcases (isB_iff o).1 h1 with rfl | rfl | rfl | rfl | rfl | rfl
    · exact absurd h (by decide)
    · exact absurd h (by decide)
    · exact absurd h (by decide)
    all_goals
      cases h2 : isB c
      · simp [hasB, h2]
      · rcases (isB_iff c).1 h2 with rfl | rfl | rfl | rfl | rfl | rfl <;> decide

set_option maxHeartbeats 400000 in
theorem rStore_any (o c m : Int) (w : World) :
    Calls Tryd.prog 40 #[.int .i64 o, .int .i64 c, .int .i64 m] w fun e w' => e = .returned (.bool (storeB o c m)) ∧ w = w' := by
  cases h1 : writesB o
  · have e0 : storeB o c m = false := by
      have := stor_out h1 (countI c m)
      simp only [storeB]
      cases k1 : isB o
      · rfl
      · rw [k1, Bool.true_and] at this
        rw [this, Bool.and_false]
    rw [e0]
    clear e0
    go_enter Tryd.func40, Tryd.ntmps40
    go_wp2_with (first | (go_at_call 21; refine (rWrites_any _ _).mono ?_; rintro e w' ⟨rfl, rfl⟩) | (go_at_call 23; refine (rSend_any _ _).mono ?_; rintro e w' ⟨rfl, rfl⟩) | (go_at_call 53; refine (rMarked_any _ _ _).mono ?_; rintro e w' ⟨rfl, rfl⟩) | (go_at_call 57; refine (rCounts_any _ _ _).mono ?_; rintro e w' ⟨rfl, rfl⟩))
    go_ret
    exact ⟨rfl, rfl⟩
  · cases h2 : markedB c m
    · have e0 : storeB o c m = false := by simp [storeB, h2]
      rw [e0]
      clear e0
      go_enter Tryd.func40, Tryd.ntmps40
      go_wp2_with (first | (go_at_call 21; refine (rWrites_any _ _).mono ?_; rintro e w' ⟨rfl, rfl⟩) | (go_at_call 23; refine (rSend_any _ _).mono ?_; rintro e w' ⟨rfl, rfl⟩) | (go_at_call 53; refine (rMarked_any _ _ _).mono ?_; rintro e w' ⟨rfl, rfl⟩) | (go_at_call 57; refine (rCounts_any _ _ _).mono ?_; rintro e w' ⟨rfl, rfl⟩))
      go_ret
      exact ⟨rfl, rfl⟩
    · obtain ⟨k1, k2, k3⟩ := marked_bounds h2
      exact rStore_yes o c m w (writes_cases h1) ((isB_iff c).1 k1) (by omega)

set_option maxHeartbeats 8000000 in
theorem rLocal_any (a b : Int) (w : World) :
    Calls Tryd.prog 42 #[.int .i64 a, .int .i64 b] w fun e w' => e = .returned (.bool (localB a b)) ∧ w = w' := by
  cases h1 : isB a
  · have e0 : localB a b = false := by simp [localB, h1]
    rw [e0]
    clear e0
    go_enter Tryd.func42, Tryd.ntmps42
    go_wp2_with (first | (go_at_call 14; refine (rIs_any _ _).mono ?_; rintro e w' ⟨rfl, rfl⟩) | (go_at_call 58; refine (rBeside_six _ _ _ (by decide) (by decide)).mono ?_; rintro e w' ⟨rfl, rfl⟩))
    go_ret
    exact ⟨rfl, rfl⟩
  · cases h2 : isB b
    · have e0 : localB a b = false := by simp [localB, hasB, h2]
      rw [e0]
      clear e0
      go_enter Tryd.func42, Tryd.ntmps42
      go_wp2_with (first | (go_at_call 14; refine (rIs_any _ _).mono ?_; rintro e w' ⟨rfl, rfl⟩) | (go_at_call 58; refine (rBeside_six _ _ _ (by decide) (by decide)).mono ?_; rintro e w' ⟨rfl, rfl⟩))
      go_ret
      exact ⟨rfl, rfl⟩
    · have h3 := (isB_iff a).1 h1
      have h4 := (isB_iff b).1 h2
      rcases h3 with rfl | rfl | rfl | rfl | rfl | rfl <;> rcases h4 with rfl | rfl | rfl | rfl | rfl | rfl
      all_goals
        have hq : besideB 1 1 = false ∧ besideB 1 2 = false ∧ besideB 1 3 = false ∧ besideB 1 4 = false ∧ besideB 1 5 = false ∧ besideB 1 6 = true ∧ besideB 2 1 = false ∧ besideB 2 2 = false ∧ besideB 2 3 = false ∧ besideB 2 4 = false ∧ besideB 2 5 = true ∧ besideB 2 6 = true ∧ besideB 3 1 = false ∧ besideB 3 2 = false ∧ besideB 3 3 = true ∧ besideB 3 4 = false ∧ besideB 3 5 = true ∧ besideB 3 6 = true ∧ besideB 4 1 = false ∧ besideB 4 2 = false ∧ besideB 4 3 = false ∧ besideB 4 4 = true ∧ besideB 4 5 = true ∧ besideB 4 6 = true ∧ besideB 5 1 = false ∧ besideB 5 2 = true ∧ besideB 5 3 = true ∧ besideB 5 4 = true ∧ besideB 5 5 = true ∧ besideB 5 6 = true ∧ besideB 6 1 = true ∧ besideB 6 2 = true ∧ besideB 6 3 = true ∧ besideB 6 4 = true ∧ besideB 6 5 = true ∧ besideB 6 6 = true := by decide
        obtain ⟨q11, q12, q13, q14, q15, q16, q21, q22, q23, q24, q25, q26, q31, q32, q33, q34, q35, q36, q41, q42, q43, q44, q45, q46, q51, q52, q53, q54, q55, q56, q61, q62, q63, q64, q65, q66⟩ := hq
        go_enter Tryd.func42, Tryd.ntmps42
        go_wp2_with (first | (go_at_call 14; refine (rIs_any _ _).mono ?_; rintro e w' ⟨rfl, rfl⟩) | (go_at_call 58; refine (rBeside_six _ _ _ (by decide) (by decide)).mono ?_; rintro e w' ⟨rfl, rfl⟩))
        go_ret
        exact ⟨ret_bool (by decide), rfl⟩

set_option maxHeartbeats 8000000 in
theorem rGlobal_any (a b : Int) (w : World) :
    Calls Tryd.prog 44 #[.int .i64 a, .int .i64 b] w fun e w' => e = .returned (.bool (globalB a b)) ∧ w = w' := by
  cases h1 : isB a
  · have e0 : globalB a b = false := by simp [globalB, h1]
    rw [e0]
    clear e0
    go_enter Tryd.func44, Tryd.ntmps44
    go_wp2_with (first | (go_at_call 14; refine (rIs_any _ _).mono ?_; rintro e w' ⟨rfl, rfl⟩) | (go_at_call 59; refine (rShared_any _ _).mono ?_; rintro e w' ⟨rfl, rfl⟩))
    go_ret
    exact ⟨rfl, rfl⟩
  · cases h2 : isB b
    · have e0 : globalB a b = false := by simp [globalB, hasB, h2]
      rw [e0]
      clear e0
      go_enter Tryd.func44, Tryd.ntmps44
      go_wp2_with (first | (go_at_call 14; refine (rIs_any _ _).mono ?_; rintro e w' ⟨rfl, rfl⟩) | (go_at_call 59; refine (rShared_any _ _).mono ?_; rintro e w' ⟨rfl, rfl⟩))
      go_ret
      exact ⟨rfl, rfl⟩
    · have h3 := (isB_iff a).1 h1
      have h4 := (isB_iff b).1 h2
      rcases h3 with rfl | rfl | rfl | rfl | rfl | rfl <;> rcases h4 with rfl | rfl | rfl | rfl | rfl | rfl
      all_goals
        have hs : sharedB 1 = false ∧ sharedB 2 = false ∧ sharedB 3 = false ∧ sharedB 4 = true ∧ sharedB 5 = true ∧ sharedB 6 = false := by decide
        obtain ⟨s1, s2, s3, s4, s5, s6⟩ := hs
        go_enter Tryd.func44, Tryd.ntmps44
        go_wp2_with (first | (go_at_call 14; refine (rIs_any _ _).mono ?_; rintro e w' ⟨rfl, rfl⟩) | (go_at_call 59; refine (rShared_any _ _).mono ?_; rintro e w' ⟨rfl, rfl⟩))
        go_ret
        exact ⟨ret_bool (by decide), rfl⟩

end Cp
end Go.Proofs.YtgdfoonflkddnaaDoor
