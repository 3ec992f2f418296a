/- Contracts of the reference's functions over names. -/
import Derived.Test.YtgdfoonflkddnaaDoorE1
namespace Go.Proofs.YtgdfoonflkddnaaDoor
open Go.ChangeShapes Go.WideShapes Go.ChangeAt Go.RowKit
namespace Cp

theorem below_drewN {B : Nat} {a w : World} (h : Below B a w) (n : Nat) : Below B a (w.drewN n) := ⟨h.os, h.tape, h.output, h.size, h.block⟩

set_option maxHeartbeats 4000000 in
theorem rName_in (c : Nat) (w : World) (h : c < 12) :
    Calls Tryd.prog 12 #[.int .i64 c] w fun e w' => e = .returned (.string (nmS c)) ∧ Below w.heap.size w w' := by
  have hB : ∀ o, Below w.heap.size w (w.alloc o) := fun o => (Below.refl _ _).alloc (Nat.le_refl _) o
  have H := Lib.hid hB
  clear hB
  have : c = 0 ∨ c = 1 ∨ c = 2 ∨ c = 3 ∨ c = 4 ∨ c = 5 ∨ c = 6 ∨ c = 7 ∨ c = 8 ∨ c = 9 ∨ c = 10 ∨ c = 11 := by omega
  rcases this with rfl | rfl | rfl | rfl | rfl | rfl | rfl | rfl | rfl | rfl | rfl | rfl
  all_goals
    go_enter Tryd.func12, Tryd.ntmps12
    go_wp2
    go_ret
    exact ⟨ret_string rfl, H.out _⟩

set_option maxHeartbeats 400000 in
theorem rName_out (c : Int) (w : World) (h : c < 0 ∨ 12 ≤ c) :
    Calls Tryd.prog 12 #[.int .i64 c] w fun e w' => e = .returned (.string ⟨#[]⟩) ∧ Below w.heap.size w w' := by
  have hB : ∀ o, Below w.heap.size w (w.alloc o) := fun o => (Below.refl _ _).alloc (Nat.le_refl _) o
  have H := Lib.hid hB
  clear hB
  rcases h with h | h
  · go_enter Tryd.func12, Tryd.ntmps12
    go_wp2
    go_ret
    exact ⟨ret_string rfl, H.out _⟩
  · have h0 : ¬ c < 0 := by omega
    go_enter Tryd.func12, Tryd.ntmps12
    go_wp2
    go_ret
    exact ⟨ret_string rfl, H.out _⟩

theorem rName_any (c : Int) (w : World) :
    Calls Tryd.prog 12 #[.int .i64 c] w fun e w' => e = .returned (.string (nameS c)) ∧ Below w.heap.size w w' := by
  by_cases h0 : 0 ≤ c ∧ c < 12
  · have H : nameS c = nmS c.toNat := by simp [nameS, h0]
    obtain ⟨n, rfl⟩ := Int.eq_ofNat_of_zero_le h0.1
    rw [H, Int.toNat_natCast]
    exact rName_in n w (by omega)
  · have H : nameS c = ⟨#[]⟩ := by
      rw [nameS, if_neg]
      simp only [Bool.and_eq_true, decide_eq_true_eq]
      exact h0
    rw [H]
    exact rName_out c w (by omega)

set_option maxHeartbeats 800000 in
theorem rParse_any (s : ByteArray) (w : World) :
    Calls Tryd.prog 10 #[.string s] w fun e w' => e = .returned (.tuple #[.int .i64 (parseI s), .int .i64 (parseE s)]) ∧ Below w.heap.size w w' := by
  go_enter Tryd.func10, Tryd.ntmps10
  go_wp2
  go_loopw [4] (fun i wr => ∃ k : Nat, 1 ≤ k ∧ k ≤ 12 ∧ i = .int .i64 k ∧ NoneTo s k ∧ Below w.heap.size w wr) (fun i _ => 12 - (intOf i).toNat)
  case atStart => exact ⟨1, by omega, by omega, rfl, fun c h1 h2 => absurd h2 (by omega), Below.refl _ _⟩
  case round =>
    obtain ⟨k, hk1, hk, rfl, hno, hb⟩ := hrel
    have HN := Lib.hid hno
    have HB := Lib.hid hb
    clear hno hb
    by_cases hlt : k < 12
    · have hl : (k : Int) ≤ 11 := by omega
      cases he : ((nmS k).toList == s.toList)
      · have HE := Lib.hid (HN.out.next he)
        go_wp2_with (go_at_call 12; refine (rName_in k _ hlt).mono ?_; rintro e w' ⟨rfl, hb'⟩; have HB' := Lib.hid hb'; clear hb')
        go_roundw
        case rel => exact ⟨k + 1, by omega, by omega, by go_num, HE.out, HB.out.trans (HB'.out.mono HB.out.size)⟩
        case measure => simp [intOf]; omega
      · have HE := Lib.hid (parse_hit hk1 hlt HN.out he)
        go_wp2_with (go_at_call 12; refine (rName_in k _ hlt).mono ?_; rintro e w' ⟨rfl, hb'⟩; have HB' := Lib.hid hb'; clear hb')
        go_ret2
        exact ⟨ret_ints HE.out.1.symm HE.out.2.symm, HB.out.trans (HB'.out.mono HB.out.size)⟩
    · have HE : Hid (NoneTo s 12) := fun c h1 h2 => HN.out c h1 (by omega)
      have hl : ¬ (k : Int) ≤ 11 := by omega
      go_wp2
      go_ret2
      exact ⟨ret_ints (parse_none HE.out).1.symm (parse_none HE.out).2.symm, HB.out⟩

end Cp
end Go.Proofs.YtgdfoonflkddnaaDoor
