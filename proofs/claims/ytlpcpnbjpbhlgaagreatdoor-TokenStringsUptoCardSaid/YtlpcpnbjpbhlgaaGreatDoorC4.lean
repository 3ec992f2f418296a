/- The reference's identifiers. -/
import Derived.Test.YtlpcpnbjpbhlgaaGreatDoorC3
import Derived.Test.YtlpcpnbjpbhlgaaGreatDoorA14
import Derived.Deep.OwnRows
namespace Go.Proofs.YtlpcpnbjpbhlgaaGreatDoor
open Go.ChangeShapes Go.WideShapes Go.ChangeAt Go.RowKit
namespace Tk

def identE (s : ByteArray) : Nat := if letB (byteAt s 0) || byteAt s 0 == 95 then wordEnd s 0 else 0

theorem letB0 : letB 0 = false := by decide

set_option maxHeartbeats 2000000 in
theorem refIdent_any (s : ByteArray) (w : World) (hs : s.size ≤ 20000) :
    Calls Tryz.prog 23 #[.string s, .int .i64 0] w fun e w' => e = .returned (.int .i64 (identE s)) ∧ w = w' := by
  have HAt : Hid (∀ (k : Nat) (h : k < s.size), byteAt s k = (s[k]'h).toNat) := fun k h => by simp [byteAt, h]
  have at0 : ∀ w : World, Calls Tryz.prog 37 #[.string s, .int .i64 0] w fun e w' => e = .returned (.int .u8 (byteAt s 0)) ∧ w = w' := fun w => refAt_any s 0 w hs (by omega)
  have HA := Lib.hid at0
  clear at0
  cases hl : letB (byteAt s 0)
  · have HL := Lib.hid hl
    by_cases h95 : byteAt s 0 = 95
    · have HE : Hid (identE s = wordEnd s 0) := by show _ = _; unfold identE; rw [h95]; rfl
      have H95 := Lib.hid h95
      clear hl h95
      go_enter Tryz.func23, Tryz.ntmps23
      go_wp2_with (first | (go_at_call 37; refine (HA.out _).mono ?_; rintro e w' ⟨he, hw⟩; subst hw; rw [H95.out] at he; subst he) | (go_at_call 36; refine (refLetter_any _ _).mono ?_; rintro e w' ⟨he, hw⟩; subst hw; rw [show letB 95 = false by decide] at he; subst he))
      go_loopw [1] (fun i wr => ∃ b : Nat, b ≤ s.size ∧ i = .int .i64 b ∧ runEnd partB s b = runEnd partB s 0 ∧ w = wr) (fun i _ => s.size - (intOf i).toNat)
      case atStart => exact ⟨0, Nat.zero_le _, rfl, rfl, rfl⟩
      case round =>
        obtain ⟨b, hb, rfl, hrun, rfl⟩ := hrel
        have HR := Lib.hid hrun
        clear hrun
        by_cases hlt : b < s.size
        · have l1 : (b : Int) < s.size := by omega
          have l2 : (0 : Int) ≤ b := by omega
          have hbr := byteAt_range s b
          rw [HAt.out b hlt] at hbr
          by_cases hp : partB (byteAt s b) = true
          · have HP := Lib.hid hp
            have HP2 : Hid (partB ((s[b]'hlt).toNat : Int) = true) := by show _ = _; rw [← HAt.out b hlt]; exact hp
            have e2 : IntKind.i64.wrap ((b : Int) + 1) = (b : Int) + 1 := IntWalk.i64_in _ (by omega)
            clear hp
            go_wp2_with (go_at_call 38; refine (refWord_any _ _ hbr.1 hbr.2).mono ?_; rintro e w' ⟨he, hw⟩; subst hw; rw [HP2.out] at he; subst he)
            exact ⟨⟨b + 1, by omega, by go_num, (runEnd_on part0 HP.out).symm.trans HR.out, trivial⟩, by simp [intOf]; omega⟩
          · have hp' : partB (byteAt s b) = false := by simpa using hp
            have HP := Lib.hid hp'
            have HP2 : Hid (partB ((s[b]'hlt).toNat : Int) = false) := by show _ = _; rw [← HAt.out b hlt]; exact hp'
            have HRB : Hid (runEnd partB s 0 = b) := by show _ = _; rw [← HR.out, runEnd_off hp']
            clear hp hp'
            go_wp2_with (go_at_call 38; refine (refWord_any _ _ hbr.1 hbr.2).mono ?_; rintro e w' ⟨he, hw⟩; subst hw; rw [HP2.out] at he; subst he)
            go_loopw [1] (fun i wr => ∃ d : Nat, d ≤ s.size ∧ i = .int .i64 d ∧ runEnd quoteB s d = runEnd quoteB s b ∧ w = wr) (fun i _ => s.size - (intOf i).toNat)
            case atStart => exact ⟨b, hb, rfl, rfl, rfl⟩
            case round =>
              obtain ⟨d, hd, rfl, hrun, rfl⟩ := hrel
              have HR2 := Lib.hid hrun
              clear hrun
              by_cases hlt2 : d < s.size
              · have l3 : (d : Int) < s.size := by omega
                have l4 : (0 : Int) ≤ d := by omega
                by_cases hq : quoteB (byteAt s d) = true
                · have HQ := Lib.hid hq
                  have hq2 : ((s[d]'hlt2).toNat : Int) == 39 := by rw [← HAt.out d hlt2]; exact hq
                  have e3 : IntKind.i64.wrap ((d : Int) + 1) = (d : Int) + 1 := IntWalk.i64_in _ (by omega)
                  clear hq
                  go_wp2_with fail
                  exact ⟨⟨d + 1, by omega, by go_num, (runEnd_on quote0 HQ.out).symm.trans HR2.out, trivial⟩, by simp [intOf]; omega⟩
                · have hq' : quoteB (byteAt s d) = false := by simpa using hq
                  have HQ := Lib.hid hq'
                  have hq2 : (((s[d]'hlt2).toNat : Int) == 39) = false := by rw [← HAt.out d hlt2]; exact hq'
                  clear hq hq'
                  go_wp2_with fail
                  go_ret
                  have he : d = identE s := by rw [HE.out]; unfold wordEnd; rw [HRB.out, ← HR2.out, runEnd_off HQ.out]
                  exact ⟨ret_int (by rw [← he]), rfl⟩
              · have l3 : ¬ (d : Int) < s.size := by omega
                have l4 : decide ((d : Int) < s.size) = false := decide_eq_false l3
                go_wp2_with fail
                go_ret
                have he : d = identE s := by rw [HE.out]; unfold wordEnd; rw [HRB.out, ← HR2.out, runEnd_off (by rw [byteAt_out (by omega)]; exact quote0)]
                exact ⟨ret_int (by rw [← he]), rfl⟩
        · have l1 : ¬ (b : Int) < s.size := by omega
          have l2 : decide ((b : Int) < s.size) = false := decide_eq_false l1
          have HRB : Hid (runEnd partB s 0 = b) := by show _ = _; rw [← HR.out, runEnd_off (by rw [byteAt_out (by omega)]; exact part0)]
          go_wp2_with fail
          go_loopw [1] (fun i wr => ∃ d : Nat, d ≤ s.size ∧ i = .int .i64 d ∧ runEnd quoteB s d = runEnd quoteB s b ∧ w = wr) (fun i _ => s.size - (intOf i).toNat)
          case atStart => exact ⟨b, hb, rfl, rfl, rfl⟩
          case round =>
            obtain ⟨d, hd, rfl, hrun, rfl⟩ := hrel
            have HR2 := Lib.hid hrun
            clear hrun
            by_cases hlt2 : d < s.size
            · have l3 : (d : Int) < s.size := by omega
              have l4 : (0 : Int) ≤ d := by omega
              by_cases hq : quoteB (byteAt s d) = true
              · have HQ := Lib.hid hq
                have hq2 : ((s[d]'hlt2).toNat : Int) == 39 := by rw [← HAt.out d hlt2]; exact hq
                have e3 : IntKind.i64.wrap ((d : Int) + 1) = (d : Int) + 1 := IntWalk.i64_in _ (by omega)
                clear hq
                go_wp2_with fail
                exact ⟨⟨d + 1, by omega, by go_num, (runEnd_on quote0 HQ.out).symm.trans HR2.out, trivial⟩, by simp [intOf]; omega⟩
              · have hq' : quoteB (byteAt s d) = false := by simpa using hq
                have HQ := Lib.hid hq'
                have hq2 : (((s[d]'hlt2).toNat : Int) == 39) = false := by rw [← HAt.out d hlt2]; exact hq'
                clear hq hq'
                go_wp2_with fail
                go_ret
                have he : d = identE s := by rw [HE.out]; unfold wordEnd; rw [HRB.out, ← HR2.out, runEnd_off HQ.out]
                exact ⟨ret_int (by rw [← he]), rfl⟩
            · have l3 : ¬ (d : Int) < s.size := by omega
              have l4 : decide ((d : Int) < s.size) = false := decide_eq_false l3
              go_wp2_with fail
              go_ret
              have he : d = identE s := by rw [HE.out]; unfold wordEnd; rw [HRB.out, ← HR2.out, runEnd_off (by rw [byteAt_out (by omega)]; exact quote0)]
              exact ⟨ret_int (by rw [← he]), rfl⟩
    · have HE : Hid (0 = identE s) := by show _ = _; unfold identE; rw [hl]; simp [h95]
      have h95' : (byteAt s 0 == 95) = false := by simpa using h95
      clear hl h95
      go_enter Tryz.func23, Tryz.ntmps23
      go_wp2_with (first | (go_at_call 37; refine (HA.out _).mono ?_; rintro e w' ⟨rfl, hw⟩; subst hw) | (go_at_call 36; refine (refLetter_any _ _).mono ?_; rintro e w' ⟨he, hw⟩; subst hw; rw [HL.out] at he; subst he))
      go_ret
      exact ⟨ret_int (by rw [← HE.out]; rfl), rfl⟩
  · have HE : Hid (identE s = wordEnd s 0) := by show _ = _; unfold identE; rw [hl]; rfl
    have HL := Lib.hid hl
    clear hl
    go_enter Tryz.func23, Tryz.ntmps23
    go_wp2_with (first | (go_at_call 37; refine (HA.out _).mono ?_; rintro e w' ⟨rfl, hw⟩; subst hw) | (go_at_call 36; refine (refLetter_any _ _).mono ?_; rintro e w' ⟨he, hw⟩; subst hw; rw [HL.out] at he; subst he))
    go_loopw [1] (fun i wr => ∃ b : Nat, b ≤ s.size ∧ i = .int .i64 b ∧ runEnd partB s b = runEnd partB s 0 ∧ w = wr) (fun i _ => s.size - (intOf i).toNat)
    case atStart => exact ⟨0, Nat.zero_le _, rfl, rfl, rfl⟩
    case round =>
      obtain ⟨b, hb, rfl, hrun, rfl⟩ := hrel
      have HR := Lib.hid hrun
      clear hrun
      by_cases hlt : b < s.size
      · have l1 : (b : Int) < s.size := by omega
        have l2 : (0 : Int) ≤ b := by omega
        have hbr := byteAt_range s b
        rw [HAt.out b hlt] at hbr
        by_cases hp : partB (byteAt s b) = true
        · have HP := Lib.hid hp
          have HP2 : Hid (partB ((s[b]'hlt).toNat : Int) = true) := by show _ = _; rw [← HAt.out b hlt]; exact hp
          have e2 : IntKind.i64.wrap ((b : Int) + 1) = (b : Int) + 1 := IntWalk.i64_in _ (by omega)
          clear hp
          go_wp2_with (go_at_call 38; refine (refWord_any _ _ hbr.1 hbr.2).mono ?_; rintro e w' ⟨he, hw⟩; subst hw; rw [HP2.out] at he; subst he)
          exact ⟨⟨b + 1, by omega, by go_num, (runEnd_on part0 HP.out).symm.trans HR.out, trivial⟩, by simp [intOf]; omega⟩
        · have hp' : partB (byteAt s b) = false := by simpa using hp
          have HP := Lib.hid hp'
          have HP2 : Hid (partB ((s[b]'hlt).toNat : Int) = false) := by show _ = _; rw [← HAt.out b hlt]; exact hp'
          have HRB : Hid (runEnd partB s 0 = b) := by show _ = _; rw [← HR.out, runEnd_off hp']
          clear hp hp'
          go_wp2_with (go_at_call 38; refine (refWord_any _ _ hbr.1 hbr.2).mono ?_; rintro e w' ⟨he, hw⟩; subst hw; rw [HP2.out] at he; subst he)
          go_loopw [1] (fun i wr => ∃ d : Nat, d ≤ s.size ∧ i = .int .i64 d ∧ runEnd quoteB s d = runEnd quoteB s b ∧ w = wr) (fun i _ => s.size - (intOf i).toNat)
          case atStart => exact ⟨b, hb, rfl, rfl, rfl⟩
          case round =>
            obtain ⟨d, hd, rfl, hrun, rfl⟩ := hrel
            have HR2 := Lib.hid hrun
            clear hrun
            by_cases hlt2 : d < s.size
            · have l3 : (d : Int) < s.size := by omega
              have l4 : (0 : Int) ≤ d := by omega
              by_cases hq : quoteB (byteAt s d) = true
              · have HQ := Lib.hid hq
                have hq2 : ((s[d]'hlt2).toNat : Int) == 39 := by rw [← HAt.out d hlt2]; exact hq
                have e3 : IntKind.i64.wrap ((d : Int) + 1) = (d : Int) + 1 := IntWalk.i64_in _ (by omega)
                clear hq
                go_wp2_with fail
                exact ⟨⟨d + 1, by omega, by go_num, (runEnd_on quote0 HQ.out).symm.trans HR2.out, trivial⟩, by simp [intOf]; omega⟩
              · have hq' : quoteB (byteAt s d) = false := by simpa using hq
                have HQ := Lib.hid hq'
                have hq2 : (((s[d]'hlt2).toNat : Int) == 39) = false := by rw [← HAt.out d hlt2]; exact hq'
                clear hq hq'
                go_wp2_with fail
                go_ret
                have he : d = identE s := by rw [HE.out]; unfold wordEnd; rw [HRB.out, ← HR2.out, runEnd_off HQ.out]
                exact ⟨ret_int (by rw [← he]), rfl⟩
            · have l3 : ¬ (d : Int) < s.size := by omega
              have l4 : decide ((d : Int) < s.size) = false := decide_eq_false l3
              go_wp2_with fail
              go_ret
              have he : d = identE s := by rw [HE.out]; unfold wordEnd; rw [HRB.out, ← HR2.out, runEnd_off (by rw [byteAt_out (by omega)]; exact quote0)]
              exact ⟨ret_int (by rw [← he]), rfl⟩
      · have l1 : ¬ (b : Int) < s.size := by omega
        have l2 : decide ((b : Int) < s.size) = false := decide_eq_false l1
        have HRB : Hid (runEnd partB s 0 = b) := by show _ = _; rw [← HR.out, runEnd_off (by rw [byteAt_out (by omega)]; exact part0)]
        go_wp2_with fail
        go_loopw [1] (fun i wr => ∃ d : Nat, d ≤ s.size ∧ i = .int .i64 d ∧ runEnd quoteB s d = runEnd quoteB s b ∧ w = wr) (fun i _ => s.size - (intOf i).toNat)
        case atStart => exact ⟨b, hb, rfl, rfl, rfl⟩
        case round =>
          obtain ⟨d, hd, rfl, hrun, rfl⟩ := hrel
          have HR2 := Lib.hid hrun
          clear hrun
          by_cases hlt2 : d < s.size
          · have l3 : (d : Int) < s.size := by omega
            have l4 : (0 : Int) ≤ d := by omega
            by_cases hq : quoteB (byteAt s d) = true
            · have HQ := Lib.hid hq
              have hq2 : ((s[d]'hlt2).toNat : Int) == 39 := by rw [← HAt.out d hlt2]; exact hq
              have e3 : IntKind.i64.wrap ((d : Int) + 1) = (d : Int) + 1 := IntWalk.i64_in _ (by omega)
              clear hq
              go_wp2_with fail
              exact ⟨⟨d + 1, by omega, by go_num, (runEnd_on quote0 HQ.out).symm.trans HR2.out, trivial⟩, by simp [intOf]; omega⟩
            · have hq' : quoteB (byteAt s d) = false := by simpa using hq
              have HQ := Lib.hid hq'
              have hq2 : (((s[d]'hlt2).toNat : Int) == 39) = false := by rw [← HAt.out d hlt2]; exact hq'
              clear hq hq'
              go_wp2_with fail
              go_ret
              have he : d = identE s := by rw [HE.out]; unfold wordEnd; rw [HRB.out, ← HR2.out, runEnd_off HQ.out]
              exact ⟨ret_int (by rw [← he]), rfl⟩
          · have l3 : ¬ (d : Int) < s.size := by omega
            have l4 : decide ((d : Int) < s.size) = false := decide_eq_false l3
            go_wp2_with fail
            go_ret
            have he : d = identE s := by rw [HE.out]; unfold wordEnd; rw [HRB.out, ← HR2.out, runEnd_off (by rw [byteAt_out (by omega)]; exact quote0)]
            exact ⟨ret_int (by rw [← he]), rfl⟩

end Tk
end Go.Proofs.YtlpcpnbjpbhlgaaGreatDoor
