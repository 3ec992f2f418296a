/- Contracts of cap.Extract and cap.Store, for any numbers; and of the law's own examples. -/
import Derived.Test.YtgdfoonflkddnaaDoorA3
namespace Go.Proofs.YtgdfoonflkddnaaDoor
open Go.ChangeShapes Go.WideShapes Go.ChangeAt Go.RowKit
namespace Cp

theorem writes_cases {o : Int} (h : writesB o = true) : o = 1 ∨ o = 2 ∨ o = 3 := by
  have h1 : isB o = true := by
    have : (isB o && bitB 14 o) = true := h
    simp at this
    exact this.1
  rcases (isB_iff o).1 h1 with rfl | rfl | rfl | rfl | rfl | rfl <;> first | omega | (exact absurd h (by decide))

theorem ret_ex {a b a' b' : Int} {c c' : Bool} (h : a = a') (h' : b = b') (h'' : c = c') : Ending.returned (.tuple #[.int .i64 a, .int .i64 b, .bool c]) = .returned (.tuple #[.int .i64 a', .int .i64 b', .bool c']) := by rw [h, h', h'']

set_option maxHeartbeats 400000 in
theorem Extract_no (o f : Int) (w : World) (h : exB o f = false) :
    Calls Tryd.prog 37 #[.int .i64 o, .int .i64 f] w fun e w' => e = .returned (.tuple #[.int .i64 0, .int .i64 0, .bool false]) ∧ w = w' := by
  cases h1 : writesB o
  · clear h
    go_enter Tryd.func37, Tryd.ntmps37
    go_wp2_with (first | (go_at_call 20; refine (Writes_any _ _).mono ?_; rintro e w' ⟨rfl, rfl⟩) | (go_at_call 13; refine (Is_any _ _).mono ?_; rintro e w' ⟨rfl, rfl⟩))
    go_ret3
    exact ⟨rfl, rfl⟩
  · have h2 : isB f = false := by simpa [exB, h1] using h
    clear h
    go_enter Tryd.func37, Tryd.ntmps37
    go_wp2_with (first | (go_at_call 20; refine (Writes_any _ _).mono ?_; rintro e w' ⟨rfl, rfl⟩) | (go_at_call 13; refine (Is_any _ _).mono ?_; rintro e w' ⟨rfl, rfl⟩))
    go_ret3
    exact ⟨rfl, rfl⟩

set_option maxHeartbeats 2000000 in
theorem Extract_yes (o f : Int) (w : World) (ho : o = 1 ∨ o = 2 ∨ o = 3) (hf : f = 1 ∨ f = 2 ∨ f = 3 ∨ f = 4 ∨ f = 5 ∨ f = 6) (hV : TabAt 5 viewL w) :
    Calls Tryd.prog 37 #[.int .i64 o, .int .i64 f] w fun e w' => e = .returned (.tuple #[.int .i64 (exI o f), .int .i64 (exM o f), .bool true]) ∧ w = w' := by
  have V := Lib.hid hV
  clear hV
  rcases ho with rfl | rfl | rfl <;> rcases hf with rfl | rfl | rfl | rfl | rfl | rfl
  all_goals
    have hb : isB 1 = true ∧ isB 2 = true ∧ isB 3 = true ∧ isB 4 = true ∧ isB 5 = true ∧ isB 6 = true := by decide
    have hw : writesB 1 = true ∧ writesB 2 = true ∧ writesB 3 = true := by decide
    obtain ⟨b1, b2, b3, b4, b5, b6⟩ := hb
    obtain ⟨w1, w2, w3⟩ := hw
    have c1 := V.out 10 (by decide)
    have c2 := V.out 11 (by decide)
    have c3 := V.out 12 (by decide)
    have c4 := V.out 13 (by decide)
    have c5 := V.out 17 (by decide)
    have c6 := V.out 18 (by decide)
    have c7 := V.out 19 (by decide)
    have c8 := V.out 20 (by decide)
    have c9 := V.out 24 (by decide)
    have c10 := V.out 25 (by decide)
    have c11 := V.out 26 (by decide)
    have c12 := V.out 27 (by decide)
    have c13 := V.out 9 (by decide)
    simp only [viewL, List.getD_cons_succ, List.getD_cons_zero] at c1 c2 c3 c4 c5 c6 c7 c8 c9 c10 c11 c12 c13
    go_enter Tryd.func37, Tryd.ntmps37
    go_wp2_with (first | (go_at_call 20; refine (Writes_any _ _).mono ?_; rintro e w' ⟨rfl, rfl⟩) | (go_at_call 13; refine (Is_any _ _).mono ?_; rintro e w' ⟨rfl, rfl⟩))
    go_ret3
    exact ⟨ret_ex (by decide) (by decide) rfl, rfl⟩

theorem Extract_any (o f : Int) (w : World) (hV : TabAt 5 viewL w) :
    Calls Tryd.prog 37 #[.int .i64 o, .int .i64 f] w fun e w' => e = .returned (.tuple #[.int .i64 (exI o f), .int .i64 (exM o f), .bool (exB o f)]) ∧ w = w' := by
  cases h : exB o f
  · have e1 : exI o f = 0 := by simp [exI, h]
    have e2 : exM o f = 0 := by simp [exM, h]
    rw [e1, e2]
    exact Extract_no o f w h
  · have h' : writesB o = true ∧ isB f = true := by simpa [exB] using h
    exact Extract_yes o f w (writes_cases h'.1) ((isB_iff f).1 h'.2) hV

set_option maxHeartbeats 400000 in
theorem Store_yes (o : Nat) (c m : Int) (w : World) (h1 : isB o = true) (h2 : markedB c m = true) (ho : o ≤ 6) (hT : TabAt 6 storL w) :
    Calls Tryd.prog 39 #[.int .i64 o, .int .i64 c, .int .i64 m] w fun e w' => e = .returned (.bool (hasB (storL.getD o 0) (countI c m))) ∧ ∃ n, w' = w.drewN n := by
  have hc := hT o (by simp [storL]; omega)
  generalize storL.getD o 0 = x at hc ⊢
  have o7 : (o : Int) < 7 := by omega
  clear hT
  go_enter Tryd.func39, Tryd.ntmps39
  go_wp2
  go_quiet (first
    | (go_at_call 13; exact Calls.quiet_of_same ((Is_any _ _).mono fun _ _ h => ⟨h.1, h.2.symm⟩))
    | (go_at_call 52; exact Calls.quiet_of_same ((isMarked_any _ _ _).mono fun _ _ h => ⟨h.1, h.2.symm⟩))
    | (go_at_call 56; exact Calls.quiet_of_same ((counted_any _ _ _).mono fun _ _ h => ⟨h.1, h.2.symm⟩))
    | (go_at_call 51; exact Calls.quiet_of_same ((has_any _ _ _).mono fun _ _ h => ⟨h.1, h.2.symm⟩)))
  go_wp2
  go_ret
  exact ⟨rfl, _, rfl⟩

theorem Is_is (c : Int) (b : Bool) (h : isB c = b) (w : World) :
    Calls Tryd.prog 13 #[.int .i64 c] w fun e w' => e = .returned (.bool b) ∧ w' = w := by
  subst h
  exact (Is_any c w).mono fun _ _ h => ⟨h.1, h.2.symm⟩

set_option maxHeartbeats 400000 in
theorem Store_no1 (o c m : Int) (w : World) (h1 : isB o = false) :
    Calls Tryd.prog 39 #[.int .i64 o, .int .i64 c, .int .i64 m] w fun e w' => e = .returned (.bool false) ∧ ∃ n, w' = w.drewN n := by
  have H1 := Lib.hid h1
  clear h1
  go_enter Tryd.func39, Tryd.ntmps39
  go_wp2
  go_quiet ((go_at_call 13; exact Calls.quiet_of_same (Is_is o false H1.out _)))
  go_wp2
  go_ret
  exact ⟨rfl, _, rfl⟩

set_option maxHeartbeats 400000 in
theorem Store_no2 (o c m : Int) (w : World) (h1 : isB o = true) (h2 : markedB c m = false) :
    Calls Tryd.prog 39 #[.int .i64 o, .int .i64 c, .int .i64 m] w fun e w' => e = .returned (.bool false) ∧ ∃ n, w' = w.drewN n := by
  have H1 := Lib.hid h1
  have H2 := Lib.hid h2
  clear h1 h2
  go_enter Tryd.func39, Tryd.ntmps39
  go_wp2
  go_quiet (first
    | (go_at_call 13; exact Calls.quiet_of_same (Is_is o true H1.out _))
    | (go_at_call 52; exact Calls.quiet_of_same (isMarked_is c m false H2.out _)))
  go_wp2
  go_ret
  exact ⟨rfl, _, rfl⟩

theorem Store_any (o c m : Int) (w : World) (hT : TabAt 6 storL w) :
    Calls Tryd.prog 39 #[.int .i64 o, .int .i64 c, .int .i64 m] w fun e w' => e = .returned (.bool (storeB o c m)) ∧ ∃ n, w' = w.drewN n := by
  cases h1 : isB o
  · simp only [storeB, h1, Bool.false_and]
    exact Store_no1 o c m w h1
  · cases h2 : markedB c m
    · simp only [storeB, h1, h2, Bool.false_and, Bool.and_false]
      exact Store_no2 o c m w h1 h2
    · obtain ⟨n, rfl, _, q2⟩ := nat_of_isB h1
      simp only [storeB, h1, h2, Bool.true_and, Int.toNat_natCast]
      exact Store_yes n c m w h1 h2 q2 hT

end Cp
end Go.Proofs.YtgdfoonflkddnaaDoor
