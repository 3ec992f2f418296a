/- Where a point is followed by no digit there is no fraction. -/
import Derived.Test.YtlpcpnbjpbhlgaaGreatDoorA4
namespace Go.Proofs.YtlpcpnbjpbhlgaaGreatDoor
open Go.ChangeShapes Go.WideShapes Go.ChangeAt Go.RowKit Go.WideMaps Go.Maps
namespace Tk

/-- peek, at a number of which is said only afterwards which it is. -/
theorem peek_z (s : ByteArray) (k n B : Nat) (z : Int) (w : World) (hs : s.size ≤ 20000) (hn : n ≤ 20) (hk : k ≤ 40000)
    (hc0 : w.cell? ⟨B, 0, none⟩ = some (.string s)) (hc2 : w.cell? ⟨B, 2, none⟩ = some (.int .i64 k)) (hz : z = n) :
    Calls Tryz.prog 71 #[.pointer (some ⟨B, 0, none⟩), .int .i64 z] w fun e w' => e = .returned (.int .u8 (byteAt s (k + n))) ∧ ∃ m, w' = w.drewN m := by
  subst hz
  exact peek_any s k n B w hs hn hk hc0 hc2

set_option maxHeartbeats 1000000 in
theorem fraction_none (w : World) (c : Nat) (s : ByteArray) (st a m : Nat) (hc : Cur w c s st a m) (hs : s.size ≤ 20000) (ha : a ≤ s.size) (h0 : byteAt s a = 46) (h1 : digB (byteAt s (a + 1)) = false) :
    Calls Tryz.prog 74 #[.pointer (some ⟨c, 0, none⟩)] w fun e w' => e = .returned (.bool false) ∧ ∃ n, w' = w.drewN n := by
  have HC := Lib.hid hc
  have H0 := Lib.hid h0
  have H1 := Lib.hid h1
  clear hc h0 h1
  go_enter Tryz.func74, Tryz.ntmps74
  go_wp2_with (first | (go_at_call 33; refine (isDigit_any _ _).mono ?_; rintro e w' ⟨he, rfl⟩; rw [H1.out] at he; subst he) | (go_at_call 71; refine (peek_z s a 0 c _ _ hs (by omega) (by omega) HC.out.text HC.out.pos (by decide)).mono ?_; rintro e w' ⟨he, n, rfl⟩; rw [Nat.add_zero, H0.out] at he; subst he) | (go_at_call 71; refine (peek_z s a 0 c _ _ hs (by omega) (by omega) (HC.out.drew _).text (HC.out.drew _).pos (by decide)).mono ?_; rintro e w' ⟨he, n, rfl⟩; rw [Nat.add_zero, H0.out] at he; subst he) | (go_at_call 71; refine (peek_z s a 1 c _ _ hs (by omega) (by omega) (HC.out.drew _).text (HC.out.drew _).pos (by decide)).mono ?_; rintro e w' ⟨he, n, rfl⟩; subst he))
  go_ret
  exact ⟨rfl, _, rfl⟩

end Tk
end Go.Proofs.YtlpcpnbjpbhlgaaGreatDoor
