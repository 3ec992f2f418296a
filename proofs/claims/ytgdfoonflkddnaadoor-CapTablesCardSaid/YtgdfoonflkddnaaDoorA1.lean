/- Contracts of the small functions of package cap: what they answer, for any numbers, and that they leave the world alone. -/
import Derived.Test.YtgdfoonflkddnaaDoorProg
import Derived.WalkKit
import Derived.ProofKit
import Derived.Handy
import Derived.Lib.Hide
import Derived.BigQuiet
import Derived.Deep.QuietTactic
import Derived.Outline
namespace Go.Proofs.YtgdfoonflkddnaaDoor
open Go.ChangeShapes Go.WideShapes Go.ChangeAt Go.RowKit
namespace Cp

def isB (c : Int) : Bool := decide (1 ≤ c) && decide (c ≤ 6)
def bitB (s c : Int) : Bool := bits BinOp.and IntKind.i64 (s / 2 ^ c.toNat) 1 == 1
def hasB (s c : Int) : Bool := isB c && bitB s c
def markedB (c m : Int) : Bool := isB c && (decide (0 ≤ m) && decide (m ≤ 2))
def readsB (c : Int) : Bool := hasB 62 c
def writesB (c : Int) : Bool := hasB 14 c
def sendB (c : Int) : Bool := hasB 82 c
def uniqueB (c : Int) : Bool := hasB 6 c

theorem ret_bool {a b : Bool} (h : a = b) : Ending.returned (.bool a) = .returned (.bool b) := by rw [h]

theorem isB_iff (c : Int) : isB c = true ↔ c = 1 ∨ c = 2 ∨ c = 3 ∨ c = 4 ∨ c = 5 ∨ c = 6 := by
  simp [isB]; omega

set_option maxHeartbeats 400000 in
theorem Is_any (c : Int) (w : World) :
    Calls Tryd.prog 13 #[.int .i64 c] w fun e w' => e = .returned (.bool (isB c)) ∧ w = w' := by
  by_cases h1 : 1 ≤ c <;> by_cases h2 : c ≤ 6
  all_goals
    go_enter Tryd.func13, Tryd.ntmps13
    go_wp2
    all_goals (go_ret; exact ⟨ret_bool (by simp [isB]; omega), rfl⟩)

set_option maxHeartbeats 400000 in
theorem has_no (s c : Int) (w : World) (h : isB c = false) :
    Calls Tryd.prog 51 #[.int .i64 s, .int .i64 c] w fun e w' => e = .returned (.bool false) ∧ w = w' := by
  go_enter Tryd.func51, Tryd.ntmps51
  go_wp2_with (go_at_call 13; refine (Is_any _ _).mono ?_; rintro e w' ⟨rfl, rfl⟩)
  go_ret
  exact ⟨rfl, rfl⟩

set_option maxHeartbeats 1000000 in
theorem has_yes (s c : Int) (w : World) (h : isB c = true) :
    Calls Tryd.prog 51 #[.int .i64 s, .int .i64 c] w fun e w' => e = .returned (.bool (bitB s c)) ∧ w = w' := by
  rcases (isB_iff c).1 h with rfl | rfl | rfl | rfl | rfl | rfl
  all_goals
    go_enter Tryd.func51, Tryd.ntmps51
    go_wp2_with (go_at_call 13; refine (Is_any _ _).mono ?_; rintro e w' ⟨rfl, rfl⟩)
    go_ret
    exact ⟨ret_bool (by simp [bitB]), rfl⟩

theorem has_any (s c : Int) (w : World) :
    Calls Tryd.prog 51 #[.int .i64 s, .int .i64 c] w fun e w' => e = .returned (.bool (hasB s c)) ∧ w = w' := by
  by_cases h : isB c = true
  · simp only [hasB, h, Bool.true_and]
    exact has_yes s c w h
  · have h' : isB c = false := by simpa using h
    simp only [hasB, h', Bool.false_and]
    exact has_no s c w h'

set_option maxHeartbeats 400000 in
theorem isMarked_any (c m : Int) (w : World) :
    Calls Tryd.prog 52 #[.int .i64 c, .int .i64 m] w fun e w' => e = .returned (.bool (markedB c m)) ∧ w = w' := by
  by_cases h : isB c = true
  · by_cases h1 : 0 ≤ m <;> by_cases h2 : m ≤ 2
    all_goals
      go_enter Tryd.func52, Tryd.ntmps52
      go_wp2_with (go_at_call 13; refine (Is_any _ _).mono ?_; rintro e w' ⟨rfl, rfl⟩)
      all_goals (go_ret; exact ⟨ret_bool (by simp [markedB, h] <;> omega), rfl⟩)
  · have h' : isB c = false := by simpa using h
    clear h
    go_enter Tryd.func52, Tryd.ntmps52
    go_wp2_with (go_at_call 13; refine (Is_any _ _).mono ?_; rintro e w' ⟨rfl, rfl⟩)
    go_ret
    exact ⟨ret_bool (by simp [markedB, h']), rfl⟩

set_option maxHeartbeats 400000 in
theorem Reads_any (c : Int) (w : World) :
    Calls Tryd.prog 18 #[.int .i64 c] w fun e w' => e = .returned (.bool (readsB c)) ∧ w = w' := by
  go_enter Tryd.func18, Tryd.ntmps18
  go_wp2_with (go_at_call 51; refine (has_any _ _ _).mono ?_; rintro e w' ⟨rfl, rfl⟩)
  go_ret
  exact ⟨rfl, rfl⟩

set_option maxHeartbeats 400000 in
theorem Writes_any (c : Int) (w : World) :
    Calls Tryd.prog 20 #[.int .i64 c] w fun e w' => e = .returned (.bool (writesB c)) ∧ w = w' := by
  go_enter Tryd.func20, Tryd.ntmps20
  go_wp2_with (go_at_call 51; refine (has_any _ _ _).mono ?_; rintro e w' ⟨rfl, rfl⟩)
  go_ret
  exact ⟨rfl, rfl⟩

set_option maxHeartbeats 400000 in
theorem Sendable_any (c : Int) (w : World) :
    Calls Tryd.prog 22 #[.int .i64 c] w fun e w' => e = .returned (.bool (sendB c)) ∧ w = w' := by
  go_enter Tryd.func22, Tryd.ntmps22
  go_wp2_with (go_at_call 51; refine (has_any _ _ _).mono ?_; rintro e w' ⟨rfl, rfl⟩)
  go_ret
  exact ⟨rfl, rfl⟩

set_option maxHeartbeats 400000 in
theorem isUnique_any (c : Int) (w : World) :
    Calls Tryd.prog 54 #[.int .i64 c] w fun e w' => e = .returned (.bool (uniqueB c)) ∧ w = w' := by
  go_enter Tryd.func54, Tryd.ntmps54
  go_wp2_with (go_at_call 51; refine (has_any _ _ _).mono ?_; rintro e w' ⟨rfl, rfl⟩)
  go_ret
  exact ⟨rfl, rfl⟩

set_option maxHeartbeats 400000 in
theorem one_any (n : Int) (w : World) (h0 : 0 ≤ n) (h1 : n ≤ 255) :
    Calls Tryd.prog 45 #[.int .u8 n] w fun e w' => e = .returned (.int .i64 (1 + n % 6)) ∧ w = w' := by
  go_enter Tryd.func45, Tryd.ntmps45
  go_wp2
  go_ret
  exact ⟨rfl, rfl⟩

set_option maxHeartbeats 400000 in
theorem mark_any (n : Int) (w : World) (h0 : 0 ≤ n) (h1 : n ≤ 255) :
    Calls Tryd.prog 46 #[.int .u8 n] w fun e w' => e = .returned (.int .i64 (n % 3)) ∧ w = w' := by
  go_enter Tryd.func46, Tryd.ntmps46
  go_wp2
  go_ret
  exact ⟨rfl, rfl⟩

end Cp
end Go.Proofs.YtgdfoonflkddnaaDoor
