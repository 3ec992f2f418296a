/- A digit of a base. -/
import Derived.Test.YtlpcpnbjpbhlgaaGreatDoorA2
namespace Go.Proofs.YtlpcpnbjpbhlgaaGreatDoor
open Go.ChangeShapes Go.WideShapes Go.ChangeAt Go.RowKit
namespace Tk

/-- The value of a digit, and the base itself for what is none. -/
def digitV (b base : Int) : Int := if digB b then b - 48 else if 97 ≤ b ∧ b ≤ 102 then b - 87 else if 65 ≤ b ∧ b ≤ 70 then b - 55 else base

theorem ret_ib {k : IntKind} {a b : Int} {p q : Bool} (h : a = b) (g : p = q) : Ending.returned (.tuple #[.int k a, .bool p]) = .returned (.tuple #[.int k b, .bool q]) := by rw [h, g]

theorem u8_in (z : Int) (h : 0 ≤ z ∧ z < 256) : IntKind.u8.wrap z = z := by
  have := h.1; have := h.2
  simp [IntKind.wrap, IntKind.bits, IntKind.signed]
  omega
theorem u64_in (z : Int) (h : 0 ≤ z ∧ z < 1000) : IntKind.u64.wrap z = z := by
  have := h.1; have := h.2
  simp [IntKind.wrap, IntKind.bits]
  omega

set_option maxHeartbeats 400000 in
theorem digit_any (b base : Int) (w : World) (hb0 : 0 ≤ b) (hb1 : b ≤ 255) :
    Calls Tryz.prog 103 #[.int .u8 b, .int .u64 base] w fun e w' => e = .returned (.tuple #[.int .u64 (digitV b base), .bool (decide (digitV b base < base))]) ∧ w = w' := by
  by_cases hd : digB b = true
  · have hd2 : 48 ≤ b ∧ b ≤ 57 := by simpa [digB] using hd
    obtain ⟨d1, d2⟩ := hd2
    have e1 : IntKind.u8.wrap (b - 48) = b - 48 := u8_in _ (by omega)
    have e2 : IntKind.u64.wrap (b - 48) = b - 48 := u64_in _ (by omega)
    have hv : Hid (digitV b base = b - 48) := by show _ = _; unfold digitV; rw [if_pos hd]
    go_enter Tryz.func103, Tryz.ntmps103
    go_wp2_with (go_at_call 33; refine (isDigit_any _ _).mono ?_; rintro e w' ⟨rfl, rfl⟩)
    go_ret2
    exact ⟨ret_ib hv.out.symm (by rw [hv.out]), rfl⟩
  · have hd' : digB b = false := by simpa using hd
    clear hd
    by_cases h1 : 97 ≤ b
    · by_cases h2 : b ≤ 102
      · have e1 : IntKind.u8.wrap (b - 97) = b - 97 := u8_in _ (by omega)
        have e2 : IntKind.u64.wrap (b - 97) = b - 97 := u64_in _ (by omega)
        have e3 : IntKind.u64.wrap (b - 97 + 10) = b - 97 + 10 := u64_in _ (by omega)
        have hv : Hid (digitV b base = b - 97 + 10) := by show _ = _; unfold digitV; rw [if_neg (by simp [hd']), if_pos ⟨h1, h2⟩]; omega
        go_enter Tryz.func103, Tryz.ntmps103
        go_wp2_with (go_at_call 33; refine (isDigit_any _ _).mono ?_; rintro e w' ⟨rfl, rfl⟩)
        go_ret2
        exact ⟨ret_ib hv.out.symm (by rw [hv.out]), rfl⟩
      · have h3 : 65 ≤ b := by omega
        have h4 : ¬ b ≤ 70 := by omega
        have hv : Hid (digitV b base = base) := by show _ = _; unfold digitV; rw [if_neg (by simp [hd']), if_neg (by omega), if_neg (by omega)]
        go_enter Tryz.func103, Tryz.ntmps103
        go_wp2_with (go_at_call 33; refine (isDigit_any _ _).mono ?_; rintro e w' ⟨rfl, rfl⟩)
        go_ret2
        exact ⟨ret_ib hv.out.symm (by rw [hv.out]; simp), rfl⟩
    · by_cases h3 : 65 ≤ b
      · by_cases h4 : b ≤ 70
        · have e1 : IntKind.u8.wrap (b - 65) = b - 65 := u8_in _ (by omega)
          have e2 : IntKind.u64.wrap (b - 65) = b - 65 := u64_in _ (by omega)
          have e3 : IntKind.u64.wrap (b - 65 + 10) = b - 65 + 10 := u64_in _ (by omega)
          have hv : Hid (digitV b base = b - 65 + 10) := by show _ = _; unfold digitV; rw [if_neg (by simp [hd']), if_neg (by omega), if_pos ⟨h3, h4⟩]; omega
          go_enter Tryz.func103, Tryz.ntmps103
          go_wp2_with (go_at_call 33; refine (isDigit_any _ _).mono ?_; rintro e w' ⟨rfl, rfl⟩)
          go_ret2
          exact ⟨ret_ib hv.out.symm (by rw [hv.out]), rfl⟩
        · have hv : Hid (digitV b base = base) := by show _ = _; unfold digitV; rw [if_neg (by simp [hd']), if_neg (by omega), if_neg (by omega)]
          go_enter Tryz.func103, Tryz.ntmps103
          go_wp2_with (go_at_call 33; refine (isDigit_any _ _).mono ?_; rintro e w' ⟨rfl, rfl⟩)
          go_ret2
          exact ⟨ret_ib hv.out.symm (by rw [hv.out]; simp), rfl⟩
      · have hv : Hid (digitV b base = base) := by show _ = _; unfold digitV; rw [if_neg (by simp [hd']), if_neg (by omega), if_neg (by omega)]
        go_enter Tryz.func103, Tryz.ntmps103
        go_wp2_with (go_at_call 33; refine (isDigit_any _ _).mono ?_; rintro e w' ⟨rfl, rfl⟩)
        go_ret2
        exact ⟨ret_ib hv.out.symm (by rw [hv.out]; simp), rfl⟩

end Tk
end Go.Proofs.YtlpcpnbjpbhlgaaGreatDoor
