/- The digits of an escape. -/
import Derived.Test.YtlpcpnbjpbhlgaaGreatDoorA9
import Derived.Test.YtlpcpnbjpbhlgaaGreatDoorA6
import Derived.Test.YtlpcpnbjpbhlgaaGreatDoorSh
namespace Go.Proofs.YtlpcpnbjpbhlgaaGreatDoor
open Go.ChangeShapes Go.WideShapes Go.ChangeAt Go.RowKit Go.WideMaps Go.Maps
namespace Tk

def hexV (s : ByteArray) (a : Nat) : Nat → Int
  | 0 => 0
  | k + 1 => hexV s a k * 16 + digitV (byteAt s (a + k)) 16

theorem byteAt_range (s : ByteArray) (i : Nat) : 0 ≤ byteAt s i ∧ byteAt s i ≤ 255 := by
  unfold byteAt
  split
  · rename_i h
    have := (s[i]'h).toNat_lt
    omega
  · omega

theorem digitV_range (b : Int) (h : digitV b 16 < 16) (h0 : 0 ≤ b) : 0 ≤ digitV b 16 := by
  unfold digitV at *
  by_cases hd : digB b = true
  · rw [if_pos hd] at *
    have hd2 : 48 ≤ b ∧ b ≤ 57 := by simpa [digB] using hd
    omega
  · rw [if_neg hd] at *
    split at h <;> split <;> omega

theorem hexV_range (s : ByteArray) (a : Nat) : ∀ k, k ≤ 6 → (∀ j, j < k → digitV (byteAt s (a + j)) 16 < 16) → 0 ≤ hexV s a k ∧ hexV s a k < 16 ^ k
  | 0, _, _ => by simp [hexV]
  | k + 1, hk, h => by
    obtain ⟨h1, h2⟩ := hexV_range s a k (by omega) fun j hj => h j (by omega)
    have h3 := h k (by omega)
    have h4 := digitV_range _ h3 (byteAt_range s (a + k)).1
    unfold hexV
    rw [Int.pow_succ]
    omega

theorem i32_in (z : Int) (h : 0 ≤ z ∧ z < 2147483648) : IntKind.i32.wrap z = z := by
  have := h.1; have := h.2
  simp [IntKind.wrap, IntKind.bits, IntKind.signed]
  omega

set_option maxHeartbeats 1000000 in
theorem hex_two (w : World) (c : Nat) (s : ByteArray) (st a m : Nat) (hc : Cur w c s st a m) (hs : s.size ≤ 20000) (h0 : digitV (byteAt s a) 16 < 8) (h1 : digitV (byteAt s (a + 1)) 16 < 16) (hz : a + 2 ≤ s.size) :
    Calls Tryz.prog 110 #[.pointer (some ⟨c, 0, none⟩), .int .i64 2, .int .i32 127] w fun e w' => e = .returned (.int .i32 (hexV s a 2)) ∧ Cur w' c s st (a + 2) m ∧ w.grownBy w' (some c) := by
  have HC := Lib.hid hc
  clear hc
  go_enter Tryz.func110, Tryz.ntmps110
  go_wp2_with fail
  go_loopw [7, 11] (fun r i wr => ∃ k : Nat, k ≤ 2 ∧ i = .int .i64 k ∧ r = .int .i32 (hexV s a k) ∧ Cur wr c s st (a + k) m ∧ w.grownBy wr (some c)) (fun _ i _ => 2 - (intOf i).toNat)
  case atStart => exact ⟨0, by omega, rfl, rfl, HC.out, World.grownBy.refl _ _⟩
  case round =>
    obtain ⟨k, hk, rfl, rfl, hcr, hg⟩ := hrel
    have HCR := Lib.hid hcr
    have HG := Lib.hid hg
    clear hcr hg
    by_cases hlt : k < 2
    · have hd : digitV (byteAt s (a + k)) 16 < 16 := by
        rcases (by omega : k = 0 ∨ k = 1) with rfl | rfl
        · exact Int.lt_trans h0 (by decide)
        · exact h1
      have hd0 := digitV_range _ hd (byteAt_range s (a + k)).1
      have hr := hexV_range s a k (by omega) fun j hj => by
        have : j = 0 := by omega
        subst this
        exact Int.lt_trans h0 (by decide)
      have hp : (16 : Int) ^ k ≤ 16 := by rcases (by omega : k = 0 ∨ k = 1) with rfl | rfl <;> decide
      have l2 : (k : Int) < 2 := by omega
      have HV : Hid (hexV s a (k + 1) = hexV s a k * 16 + digitV (byteAt s (a + k)) 16) := rfl
      generalize hexV s a k = r at hr HV ⊢
      have hbr := byteAt_range s (a + k)
      have e1 : IntKind.i32.wrap (r * 16) = r * 16 := i32_in _ (by omega)
      obtain ⟨d, hdd⟩ : ∃ d, d = digitV (byteAt s (a + k)) 16 := ⟨_, rfl⟩
      rw [← hdd] at hd hd0 HV
      have HD := Lib.hid hdd
      clear hdd
      have e2 : IntKind.i32.wrap d = d := i32_in _ (by omega)
      have e3 : IntKind.i32.wrap (r * 16 + d) = r * 16 + d := i32_in _ (by omega)
      have c2 := HCR.out.pos
      have f2 := HCR.out.free 2
      have e4 : IntKind.i64.wrap (((a + k : Nat) : Int) + 1) = ((a + k : Nat) : Int) + 1 := IntWalk.i64_in _ (by omega)
      go_wp2_with (first | (go_at_call 71; refine (peek_any s (a + k) 0 c _ hs (by omega) (by omega) HCR.out.text HCR.out.pos).mono ?_; rintro e w' ⟨rfl, n, rfl⟩) | (go_at_call 103; refine (digit_any _ 16 _ hbr.1 hbr.2).mono ?_; rintro e w' ⟨he, rfl⟩; rw [← HD.out, decide_eq_true hd] at he; subst he))
      exact ⟨⟨k + 1, by omega, by go_num, by rw [HV.out], (HCR.out.drew n).move (a + (k + 1)) _ (by omega), (HG.out.trans (grown_drewN _ _ _)).trans (grown_set _ ⟨c, 2, none⟩ _)⟩, by simp [intOf]; omega⟩
    · obtain rfl : k = 2 := by omega
      have q0 := digitV_range _ (Int.lt_trans h0 (by decide)) (byteAt_range s a).1
      have q1 := digitV_range _ h1 (byteAt_range s (a + 1)).1
      have hv : hexV s a 2 = digitV (byteAt s a) 16 * 16 + digitV (byteAt s (a + 1)) 16 := by
        show (0 * 16 + digitV (byteAt s (a + 0)) 16) * 16 + digitV (byteAt s (a + 1)) 16 = _
        rw [Nat.add_zero]
        omega
      have r1 : hexV s a 2 ≤ 127 := by omega
      have r0 : 0 ≤ hexV s a 2 := by omega
      obtain ⟨r, hr⟩ : ∃ r, r = hexV s a 2 := ⟨_, rfl⟩
      rw [← hr] at r0 r1 ⊢
      have HR := Lib.hid hr
      have hvr : Lib.validRune r = true := by
        unfold Lib.validRune
        simp
        omega
      have HVR := Lib.hid hvr
      clear hr hv hvr
      have r2 : ¬ (127 : Int) < r := by omega
      go_wp2_with (go_at_call 114; refine (Tryz.utf8_ValidRune _ _).mono ?_; rintro e w' ⟨he, rfl⟩; rw [HVR.out] at he; subst he)
      go_ret
      exact ⟨ret_int HR.out, HCR.out, HG.out⟩

end Tk
end Go.Proofs.YtlpcpnbjpbhlgaaGreatDoor
