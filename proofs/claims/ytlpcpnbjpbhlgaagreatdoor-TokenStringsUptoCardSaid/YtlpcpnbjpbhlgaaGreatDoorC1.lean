/- The reference's small functions over bytes. -/
import Derived.Test.YtlpcpnbjpbhlgaaGreatDoorA9
import Derived.Test.YtlpcpnbjpbhlgaaGreatDoorA6
namespace Go.Proofs.YtlpcpnbjpbhlgaaGreatDoor
open Go.ChangeShapes Go.WideShapes Go.ChangeAt Go.RowKit
namespace Tk

set_option maxHeartbeats 400000 in
theorem refLetter_any (b : Int) (w : World) :
    Calls Tryz.prog 36 #[.int .u8 b] w fun e w' => e = .returned (.bool (letB b)) ∧ w = w' := by
  have fin : ∀ t, t = letB b → Ending.returned (.bool t) = .returned (.bool (letB b)) := fun t h => by rw [h]
  have HF := Lib.hid fin
  clear fin
  by_cases h1 : 97 ≤ b
  · by_cases h2 : b ≤ 122
    · go_enter Tryz.func36, Tryz.ntmps36
      go_wp2
      go_ret
      exact ⟨HF.out _ (by simp [letB, h1, h2]), rfl⟩
    · have h3 : 65 ≤ b := by omega
      have h4 : ¬ b ≤ 90 := by omega
      go_enter Tryz.func36, Tryz.ntmps36
      go_wp2
      go_ret
      exact ⟨HF.out _ (by simp [letB, h2, h4]), rfl⟩
  · by_cases h3 : 65 ≤ b
    · by_cases h4 : b ≤ 90
      · go_enter Tryz.func36, Tryz.ntmps36
        go_wp2
        go_ret
        exact ⟨HF.out _ (by simp [letB, h1, h3, h4]), rfl⟩
      · go_enter Tryz.func36, Tryz.ntmps36
        go_wp2
        go_ret
        exact ⟨HF.out _ (by simp [letB]; omega), rfl⟩
    · go_enter Tryz.func36, Tryz.ntmps36
      go_wp2
      go_ret
      exact ⟨HF.out _ (by simp [letB]; omega), rfl⟩

def dec10 (b : Int) : Int := if digB b then b - 48 else -1

set_option maxHeartbeats 400000 in
theorem refDigit_any (b : Int) (w : World) (h0 : 0 ≤ b) (h255 : b ≤ 255) :
    Calls Tryz.prog 66 #[.int .u8 b, .int .i64 10] w fun e w' => e = .returned (.int .i64 (dec10 b)) ∧ w = w' := by
  have fin : ∀ z, z = dec10 b → Ending.returned (.int .i64 z) = .returned (.int .i64 (dec10 b)) := fun z h => by rw [h]
  have HF := Lib.hid fin
  clear fin
  by_cases hd : 48 ≤ b ∧ b ≤ 57
  · obtain ⟨h1, h2⟩ := hd
    have e1 : IntKind.u8.wrap (b - 48) = b - 48 := u8_in _ (by omega)
    have e2 : IntKind.i64.wrap (b - 48) = b - 48 := IntWalk.i64_in _ (by omega)
    go_enter Tryz.func66, Tryz.ntmps66
    go_wp2
    go_ret
    exact ⟨HF.out _ (by simp [dec10, digB, h1, h2]), rfl⟩
  · by_cases ha : 97 ≤ b ∧ b ≤ 102
    · obtain ⟨h1, h2⟩ := ha
      have e1 : IntKind.u8.wrap (b - 97) = b - 97 := u8_in _ (by omega)
      have e2 : IntKind.i64.wrap (b - 97) = b - 97 := IntWalk.i64_in _ (by omega)
      have e3 : IntKind.i64.wrap (b - 97 + 10) = b - 97 + 10 := IntWalk.i64_in _ (by omega)
      go_enter Tryz.func66, Tryz.ntmps66
      go_wp2
      go_ret
      exact ⟨HF.out _ (by simp [dec10, digB]; omega), rfl⟩
    · by_cases hA : 65 ≤ b ∧ b ≤ 70
      · obtain ⟨h1, h2⟩ := hA
        have e1 : IntKind.u8.wrap (b - 65) = b - 65 := u8_in _ (by omega)
        have e2 : IntKind.i64.wrap (b - 65) = b - 65 := IntWalk.i64_in _ (by omega)
        have e3 : IntKind.i64.wrap (b - 65 + 10) = b - 65 + 10 := IntWalk.i64_in _ (by omega)
        go_enter Tryz.func66, Tryz.ntmps66
        go_wp2
        go_ret
        exact ⟨HF.out _ (by simp [dec10, digB]; omega), rfl⟩
      · have hr : b < 48 ∨ (57 < b ∧ b < 65) ∨ (70 < b ∧ b < 97) ∨ 102 < b := by omega
        have hz : (-1 : Int) = dec10 b := by
          unfold dec10
          rw [if_neg]
          simp [digB]
          omega
        rcases hr with h | ⟨h1, h2⟩ | ⟨h1, h2⟩ | h
        all_goals
          go_enter Tryz.func66, Tryz.ntmps66
          go_wp2
          go_ret
          exact ⟨HF.out _ rfl, rfl⟩

set_option maxHeartbeats 400000 in
theorem refWord_any (b : Int) (w : World) (h0 : 0 ≤ b) (h255 : b ≤ 255) :
    Calls Tryz.prog 38 #[.int .u8 b] w fun e w' => e = .returned (.bool (partB b)) ∧ w = w' := by
  have fin : ∀ t, t = partB b → Ending.returned (.bool t) = .returned (.bool (partB b)) := fun t h => by rw [h]
  have HF := Lib.hid fin
  clear fin
  cases hl : letB b
  · have HL := Lib.hid hl
    by_cases hd : digB b = true
    · have hz : (0 : Int) ≤ dec10 b := by
        have hd2 : 48 ≤ b ∧ b ≤ 57 := by simpa [digB] using hd
        unfold dec10
        rw [if_pos hd]
        omega
      have HD := Lib.hid hd
      clear hl hd
      go_enter Tryz.func38, Tryz.ntmps38
      go_wp2_with (first | (go_at_call 36; refine (refLetter_any _ _).mono ?_; rintro e w' ⟨he, rfl⟩; rw [HL.out] at he; subst he) | (go_at_call 66; refine (refDigit_any _ _ h0 h255).mono ?_; rintro e w' ⟨rfl, rfl⟩))
      go_ret
      exact ⟨HF.out _ (by simp [partB, HL.out, HD.out]), rfl⟩
    · have hd' : digB b = false := by simpa using hd
      have hz : dec10 b = -1 := by unfold dec10; rw [hd']; rfl
      have HZ := Lib.hid hz
      have HD := Lib.hid hd'
      clear hl hd hz hd'
      by_cases hu : b = 95
      · subst hu
        go_enter Tryz.func38, Tryz.ntmps38
        go_wp2_with (first | (go_at_call 36; refine (refLetter_any _ _).mono ?_; rintro e w' ⟨he, rfl⟩; rw [HL.out] at he; subst he) | (go_at_call 66; refine (refDigit_any _ _ h0 h255).mono ?_; rintro e w' ⟨he, rfl⟩; rw [HZ.out] at he; subst he))
        go_ret
        exact ⟨HF.out _ (by decide), rfl⟩
      · have hu' : (b == 95) = false := by simpa using hu
        go_enter Tryz.func38, Tryz.ntmps38
        go_wp2_with (first | (go_at_call 36; refine (refLetter_any _ _).mono ?_; rintro e w' ⟨he, rfl⟩; rw [HL.out] at he; subst he) | (go_at_call 66; refine (refDigit_any _ _ h0 h255).mono ?_; rintro e w' ⟨he, rfl⟩; rw [HZ.out] at he; subst he))
        go_ret
        exact ⟨HF.out _ (by simp [partB, HL.out, HD.out, hu]), rfl⟩
  · have HL := Lib.hid hl
    clear hl
    go_enter Tryz.func38, Tryz.ntmps38
    go_wp2_with (go_at_call 36; refine (refLetter_any _ _).mono ?_; rintro e w' ⟨he, rfl⟩; rw [HL.out] at he; subst he)
    go_ret
    exact ⟨HF.out _ (by simp [partB, HL.out]), rfl⟩

set_option maxHeartbeats 400000 in
theorem refAt_any (s : ByteArray) (i : Nat) (w : World) (hs : s.size ≤ 20000) (hi : i ≤ 40000) :
    Calls Tryz.prog 37 #[.string s, .int .i64 i] w fun e w' => e = .returned (.int .u8 (byteAt s i)) ∧ w = w' := by
  by_cases h : i < s.size
  · have h1 : (i : Int) < s.size := by omega
    have h0 : (0 : Int) ≤ i := by omega
    have hB : Hid (byteAt s i = (s[i]'h).toNat) := by show _ = _; simp [byteAt, h]
    go_enter Tryz.func37, Tryz.ntmps37
    go_wp2
    go_ret
    exact ⟨ret_int hB.out.symm, rfl⟩
  · have h1 : ¬ (i : Int) < s.size := by omega
    have hd : decide ((i : Int) < s.size) = false := by simpa using h1
    have hB : Hid (byteAt s i = 0) := by show _ = _; simp [byteAt, h]
    go_enter Tryz.func37, Tryz.ntmps37
    go_wp2
    go_ret
    exact ⟨ret_int hB.out.symm, rfl⟩

end Tk
end Go.Proofs.YtlpcpnbjpbhlgaaGreatDoor
