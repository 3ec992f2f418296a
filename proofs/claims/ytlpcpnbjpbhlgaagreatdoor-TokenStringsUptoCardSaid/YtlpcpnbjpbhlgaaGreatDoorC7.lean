/- How one byte stands in a literal. -/
import Derived.Test.YtlpcpnbjpbhlgaaGreatDoorA6
namespace Go.Proofs.YtlpcpnbjpbhlgaaGreatDoor
open Go.ChangeShapes Go.WideShapes Go.ChangeAt Go.RowKit
namespace Tk

def hexD (n : Nat) : UInt8 := if n < 10 then (48 + n).toUInt8 else (55 + n).toUInt8
def quoteOne (x : UInt8) : List UInt8 :=
  if x == 10 then [92, 110] else if x == 9 then [92, 116] else if x == 13 then [92, 114] else if x == 0 then [92, 48] else if x == 34 then [92, 34] else if x == 92 then [92, 92]
  else if x.toNat < 32 || x.toNat == 127 then [92, 120, hexD (x.toNat / 16), hexD (x.toNat % 16)] else [x]

theorem ret_str {a b : ByteArray} (h : a = b) : Ending.returned (.string a) = .returned (.string b) := by rw [h]

/-- The bytes that are written otherwise, but for those with a digit of base 16. -/
theorem quoted_six (x : UInt8) (hx : x = 10 ∨ x = 9 ∨ x = 13 ∨ x = 0 ∨ x = 34 ∨ x = 92) (w : World) :
    Calls Tryz.prog 19 #[.string ⟨#[x]⟩] w fun e w' => e = .returned (.string ⟨(quoteOne x).toArray⟩) ∧ ∃ n, w' = w.drewN n := by
  rcases hx with rfl | rfl | rfl | rfl | rfl | rfl
  all_goals
    go_enter Tryz.func19, Tryz.ntmps19
    go_wp2_with fail
    go_ret
    exact ⟨ret_str (by kernel_rfl), 0, rfl⟩

set_option maxHeartbeats 4000000 in
theorem quoted_hex (x : UInt8) (hx : x = 1 ∨ x = 2 ∨ x = 3 ∨ x = 4 ∨ x = 5 ∨ x = 6 ∨ x = 7 ∨ x = 8 ∨ x = 11 ∨ x = 12 ∨ x = 14 ∨ x = 15 ∨ x = 16 ∨ x = 17 ∨ x = 18 ∨ x = 19 ∨ x = 20 ∨ x = 21 ∨ x = 22 ∨ x = 23 ∨ x = 24 ∨ x = 25 ∨ x = 26 ∨ x = 27 ∨ x = 28 ∨ x = 29 ∨ x = 30 ∨ x = 31 ∨ x = 127) (w : World) :
    Calls Tryz.prog 19 #[.string ⟨#[x]⟩] w fun e w' => e = .returned (.string ⟨(quoteOne x).toArray⟩) ∧ ∃ n, w' = w.drewN n := by
  have hidx : ∀ w : World, (Instr.index 9 (.string ⟨#[x]⟩) (.int .i64 0)).run Tryz.prog w = .ok (.int .u8 x.toNat) w := fun w => by simp [go_sem]; rfl
  rcases hx with rfl | rfl | rfl | rfl | rfl | rfl | rfl | rfl | rfl | rfl | rfl | rfl | rfl | rfl | rfl | rfl | rfl | rfl | rfl | rfl | rfl | rfl | rfl | rfl | rfl | rfl | rfl | rfl | rfl
  all_goals
    go_enter Tryz.func19, Tryz.ntmps19
    go_wp2_with fail
    go_quiet (fail)
    go_wp2_with fail
    go_ret
    exact ⟨ret_str (by kernel_rfl), _, rfl⟩

theorem quoted_plain (x : UInt8) (h10 : x ≠ 10) (h9 : x ≠ 9) (h13 : x ≠ 13) (h0 : x ≠ 0) (h34 : x ≠ 34) (h92 : x ≠ 92) (h32 : ¬ x.toNat < 32) (h127 : x.toNat ≠ 127) (w : World) :
    Calls Tryz.prog 19 #[.string ⟨#[x]⟩] w fun e w' => e = .returned (.string ⟨(quoteOne x).toArray⟩) ∧ ∃ n, w' = w.drewN n := by
  have q10 : (x == 10) = false := by simpa using h10
  have q9 : (x == 9) = false := by simpa using h9
  have q13 : (x == 13) = false := by simpa using h13
  have q0 : (x == 0) = false := by simpa using h0
  have q34 : (x == 34) = false := by simpa using h34
  have q92 : (x == 92) = false := by simpa using h92
  have hidx : ∀ w : World, (Instr.index 9 (.string ⟨#[x]⟩) (.int .i64 0)).run Tryz.prog w = .ok (.int .u8 x.toNat) w := fun w => by simp [go_sem]; rfl
  have hq : quoteOne x = [x] := by
    unfold quoteOne
    rw [q10, q9, q13, q0, q34, q92]
    simp [h127]
    omega
  have HQ := Lib.hid hq
  have l32 : ¬ (x.toNat : Int) < 32 := by omega
  have l127 : ((x.toNat : Int) == 127) = false := by simp; omega
  clear hq h10 h9 h13 h0 h34 h92 h32 h127
  go_enter Tryz.func19, Tryz.ntmps19
  go_wp2_with fail
  go_ret
  exact ⟨ret_str (by rw [HQ.out]), 0, rfl⟩

theorem quoted_any (x : UInt8) (w : World) :
    Calls Tryz.prog 19 #[.string ⟨#[x]⟩] w fun e w' => e = .returned (.string ⟨(quoteOne x).toArray⟩) ∧ ∃ n, w' = w.drewN n := by
  by_cases h6 : x = 10 ∨ x = 9 ∨ x = 13 ∨ x = 0 ∨ x = 34 ∨ x = 92
  · exact quoted_six x h6 w
  · by_cases hh : x.toNat < 32 ∨ x.toNat = 127
    · refine quoted_hex x ?_ w
      have hall : ((List.range 256).all fun n => decide (¬ (n < 32 ∨ n = 127)) || decide (n ∈ [10, 9, 13, 0, 34, 92]) || decide (n ∈ [1, 2, 3, 4, 5, 6, 7, 8, 11, 12, 14, 15, 16, 17, 18, 19, 20, 21, 22, 23, 24, 25, 26, 27, 28, 29, 30, 31, 127])) = true := by decide +kernel
      have := List.all_eq_true.1 hall x.toNat (List.mem_range.2 x.toNat_lt)
      have hx : ∀ k : UInt8, x.toNat = k.toNat → x = k := fun k h => UInt8.toNat_inj.1 h
      simp only [Bool.or_eq_true, decide_eq_true_eq, List.mem_cons, List.not_mem_nil, or_false] at this
      rcases this with (h | h) | h
      · exact absurd hh h
      · exfalso
        apply h6
        rcases h with h | h | h | h | h | h
        · exact .inl (hx 10 h)
        · exact .inr (.inl (hx 9 h))
        · exact .inr (.inr (.inl (hx 13 h)))
        · exact .inr (.inr (.inr (.inl (hx 0 h))))
        · exact .inr (.inr (.inr (.inr (.inl (hx 34 h)))))
        · exact .inr (.inr (.inr (.inr (.inr (hx 92 h)))))
      · rcases h with h | h | h | h | h | h | h | h | h | h | h | h | h | h | h | h | h | h | h | h | h | h | h | h | h | h | h | h | h
        all_goals (have := UInt8.toNat_inj.1 (show x.toNat = UInt8.toNat (UInt8.ofNat x.toNat) by rw [UInt8.toNat_ofNat']; omega); rw [h] at this; subst this; decide)
    · have h1 : ¬ x.toNat < 32 := fun h => hh (.inl h)
      have h2 : x.toNat ≠ 127 := fun h => hh (.inr h)
      simp only [not_or] at h6
      exact quoted_plain x h6.1 h6.2.1 h6.2.2.1 h6.2.2.2.1 h6.2.2.2.2.1 h6.2.2.2.2.2 h1 h2 w

end Tk
end Go.Proofs.YtlpcpnbjpbhlgaaGreatDoor
