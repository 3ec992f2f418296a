/- Contracts of the small functions of package token over bytes. -/
import Derived.Test.YtlpcpnbjpbhlgaaGreatDoorProg
import Derived.WalkKit
import Derived.ProofKit
import Derived.Handy
import Derived.Lib.Hide
import Derived.BigQuiet
import Derived.Deep.QuietTactic
namespace Go.Proofs.YtlpcpnbjpbhlgaaGreatDoor
open Go.ChangeShapes Go.WideShapes Go.ChangeAt Go.RowKit
namespace Tk

def letB (b : Int) : Bool := (decide (97 ≤ b) && decide (b ≤ 122)) || (decide (65 ≤ b) && decide (b ≤ 90))
def digB (b : Int) : Bool := decide (48 ≤ b) && decide (b ≤ 57)
def partB (b : Int) : Bool := letB b || digB b || decide (b = 95)

theorem ret_bool {a b : Bool} (h : a = b) : Ending.returned (.bool a) = .returned (.bool b) := by rw [h]

set_option maxHeartbeats 400000 in
theorem isLetter_any (b : Int) (w : World) :
    Calls Tryz.prog 46 #[.int .u8 b] w fun e w' => e = .returned (.bool (letB b)) ∧ w = w' := by
  by_cases h1 : 97 ≤ b <;> by_cases h2 : b ≤ 122 <;> by_cases h3 : 65 ≤ b <;> by_cases h4 : b ≤ 90
  all_goals
    go_enter Tryz.func46, Tryz.ntmps46
    go_wp2
    all_goals (go_ret; exact ⟨ret_bool (by simp [letB]; omega), rfl⟩)

set_option maxHeartbeats 400000 in
theorem isDigit_any (b : Int) (w : World) :
    Calls Tryz.prog 33 #[.int .u8 b] w fun e w' => e = .returned (.bool (digB b)) ∧ w = w' := by
  by_cases h1 : 48 ≤ b <;> by_cases h2 : b ≤ 57
  all_goals
    go_enter Tryz.func33, Tryz.ntmps33
    go_wp2
    all_goals (go_ret; exact ⟨ret_bool (by simp [digB]; omega), rfl⟩)

end Tk
end Go.Proofs.YtlpcpnbjpbhlgaaGreatDoor
