/- Contracts of the small functions of package token over bytes, and of the cursor's reads. -/
import Derived.Test.YtlpcpnbjpbhlgaaGreatDoorA1
import Derived.IntWalk
namespace Go.Proofs.YtlpcpnbjpbhlgaaGreatDoor
open Go.ChangeShapes Go.WideShapes Go.ChangeAt Go.RowKit
namespace Tk

set_option maxHeartbeats 400000 in
theorem isPart_any (b : Int) (w : World) :
    Calls Tryz.prog 34 #[.int .u8 b] w fun e w' => e = .returned (.bool (partB b)) ∧ w = w' := by
  by_cases hl : letB b = true
  · go_enter Tryz.func34, Tryz.ntmps34
    go_wp2_with (first | (go_at_call 46; refine (isLetter_any _ _).mono ?_; rintro e w' ⟨rfl, rfl⟩) | (go_at_call 33; refine (isDigit_any _ _).mono ?_; rintro e w' ⟨rfl, rfl⟩))
    all_goals (go_ret; exact ⟨ret_bool (by simp [partB, hl]), rfl⟩)
  · have hl' : letB b = false := by simpa using hl
    clear hl
    by_cases hd : digB b = true
    · go_enter Tryz.func34, Tryz.ntmps34
      go_wp2_with (first | (go_at_call 46; refine (isLetter_any _ _).mono ?_; rintro e w' ⟨rfl, rfl⟩) | (go_at_call 33; refine (isDigit_any _ _).mono ?_; rintro e w' ⟨rfl, rfl⟩))
      all_goals (go_ret; exact ⟨ret_bool (by simp [partB, hl', hd]), rfl⟩)
    · have hd' : digB b = false := by simpa using hd
      clear hd
      by_cases hu : b = 95
      · subst hu
        go_enter Tryz.func34, Tryz.ntmps34
        go_wp2_with (first | (go_at_call 46; refine (isLetter_any _ _).mono ?_; rintro e w' ⟨rfl, rfl⟩) | (go_at_call 33; refine (isDigit_any _ _).mono ?_; rintro e w' ⟨rfl, rfl⟩))
        all_goals (go_ret; exact ⟨ret_bool (by decide), rfl⟩)
      · have hu' : (b == 95) = false := by simpa using hu
        go_enter Tryz.func34, Tryz.ntmps34
        go_wp2_with (first | (go_at_call 46; refine (isLetter_any _ _).mono ?_; rintro e w' ⟨rfl, rfl⟩) | (go_at_call 33; refine (isDigit_any _ _).mono ?_; rintro e w' ⟨rfl, rfl⟩))
        all_goals (go_ret; exact ⟨ret_bool (by simp [partB, hl', hd', hu]), rfl⟩)

theorem ret_int {k : IntKind} {a b : Int} (h : a = b) : Ending.returned (.int k a) = .returned (.int k b) := by rw [h]

/-- What a byte ahead of the cursor is: 0 behind the end. -/
def byteAt (s : ByteArray) (i : Nat) : Int := if h : i < s.size then (s[i]'h).toNat else 0

set_option maxHeartbeats 400000 in
theorem peek_in (s : ByteArray) (k n B : Nat) (w : World) (hs : s.size ≤ 20000) (hn : n ≤ 20)
    (hc0 : w.cell? ⟨B, 0, none⟩ = some (.string s)) (hc2 : w.cell? ⟨B, 2, none⟩ = some (.int .i64 k)) (hk : k + n < s.size) :
    Calls Tryz.prog 71 #[.pointer (some ⟨B, 0, none⟩), .int .i64 n] w fun e w' => e = .returned (.int .u8 (byteAt s (k + n))) ∧ ∃ m, w' = w.drewN m := by
  have hb : (k : Int) + n < s.size := by exact_mod_cast hk
  have hw : IntKind.i64.wrap ((k : Int) + n) = (k : Int) + n := IntWalk.i64_in _ (by omega)
  have h0 : (0 : Int) ≤ (k : Int) + n := by omega
  have hN : ((k : Int) + n).toNat = k + n := by omega
  have hB : Hid (byteAt s (k + n) = (s[k + n]'hk).toNat) := by show _ = _; simp [byteAt, hk]
  go_enter Tryz.func71, Tryz.ntmps71
  go_wp2
  go_quiet (fail)
  go_wp2
  go_quiet (fail)
  go_wp2
  go_ret
  exact ⟨ret_int hB.out.symm, _, World.drewN_drewN _ _ _⟩

set_option maxHeartbeats 400000 in
theorem peek_out (s : ByteArray) (k n B : Nat) (w : World) (hs : s.size ≤ 20000) (hn : n ≤ 20) (hk1 : k ≤ 40000)
    (hc0 : w.cell? ⟨B, 0, none⟩ = some (.string s)) (hc2 : w.cell? ⟨B, 2, none⟩ = some (.int .i64 k)) (hk : ¬ k + n < s.size) :
    Calls Tryz.prog 71 #[.pointer (some ⟨B, 0, none⟩), .int .i64 n] w fun e w' => e = .returned (.int .u8 (byteAt s (k + n))) ∧ ∃ m, w' = w.drewN m := by
  have hb : ¬ (k : Int) + n < s.size := by omega
  have hw : IntKind.i64.wrap ((k : Int) + n) = (k : Int) + n := IntWalk.i64_in _ (by omega)
  have hd : decide ((k : Int) + n < s.size) = false := by simpa using hb
  have hB : Hid (byteAt s (k + n) = 0) := by show _ = _; simp [byteAt, hk]
  go_enter Tryz.func71, Tryz.ntmps71
  go_wp2
  go_quiet (fail)
  go_wp2
  go_ret
  exact ⟨ret_int hB.out.symm, _, rfl⟩

theorem peek_any (s : ByteArray) (k n B : Nat) (w : World) (hs : s.size ≤ 20000) (hn : n ≤ 20) (hk : k ≤ 40000)
    (hc0 : w.cell? ⟨B, 0, none⟩ = some (.string s)) (hc2 : w.cell? ⟨B, 2, none⟩ = some (.int .i64 k)) :
    Calls Tryz.prog 71 #[.pointer (some ⟨B, 0, none⟩), .int .i64 n] w fun e w' => e = .returned (.int .u8 (byteAt s (k + n))) ∧ ∃ m, w' = w.drewN m := by
  by_cases h : k + n < s.size
  · exact peek_in s k n B w hs hn hc0 hc2 h
  · exact peek_out s k n B w hs hn hk hc0 hc2 h

end Tk
end Go.Proofs.YtlpcpnbjpbhlgaaGreatDoor
