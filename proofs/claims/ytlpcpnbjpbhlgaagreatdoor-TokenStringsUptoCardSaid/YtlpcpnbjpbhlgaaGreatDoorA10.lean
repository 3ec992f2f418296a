/- Push of a digit to a small number. -/
import Derived.Test.YtlpcpnbjpbhlgaaGreatDoorA9
import Derived.Test.YtlpcpnbjpbhlgaaGreatDoorA5
import Derived.Test.YtlpcpnbjpbhlgaaGreatDoorSh
import Derived.Laws.Externs
namespace Go.Proofs.YtlpcpnbjpbhlgaaGreatDoor
open Go.ChangeShapes Go.WideShapes Go.ChangeAt Go.RowKit
namespace Tk

theorem add_run (x y : Nat) (hx : x + y < 18446744073709551616) (w : World) :
    (callFunc 105 #[.int .u64 (x : Int), .int .u64 (y : Int), .int .u64 0]).run Tryz.prog w = .ok (.value (.tuple #[.int .u64 ((x : Int) + y), .int .u64 0])) w := by
  rw [run_callFunc_extern Tryz.func105 (by kernel_rfl) (by kernel_rfl) (by kernel_rfl) (e := add64Entry) (by kernel_rfl), run_add64 x y 0 (by omega) (by omega) (by omega) (by omega)]
  simp only [Result.andThen]
  rw [show ((x : Int) + y + 0) % 18446744073709551616 = x + y by omega, show ((x : Int) + y + 0) / 18446744073709551616 = 0 by omega]

theorem mul_small (x y : Nat) (h : x * y < 18446744073709551616) (hx : x < 18446744073709551616) (hy : y < 18446744073709551616) (w : World) :
    Calls Tryz.prog 104 #[.int .u64 x, .int .u64 y] w fun e w' => e = .returned (.tuple #[.int .u64 0, .int .u64 ((x * y : Nat) : Int)]) ∧ w' = w := by
  refine (Tryz.bits_Mul64 x y hx hy w).mono ?_
  rintro e w' ⟨rfl, rfl⟩
  rw [Nat.div_eq_of_lt h, Nat.mod_eq_of_lt h]
  exact ⟨rfl, rfl⟩

theorem mul_zero' (y : Nat) (hy : y < 18446744073709551616) (w : World) :
    Calls Tryz.prog 104 #[.int .u64 0, .int .u64 y] w fun e w' => e = .returned (.tuple #[.int .u64 0, .int .u64 0]) ∧ w' = w := by
  refine (mul_small 0 y (by omega) (by omega) hy w).mono ?_
  rintro e w' ⟨rfl, rfl⟩
  rw [Nat.zero_mul]
  exact ⟨rfl, rfl⟩

/-- A number below 2^64 in block b. -/
structure Wide (w : World) (b : Nat) (x : Nat) : Prop where
  hi : w.cell? ⟨b, 0, none⟩ = some (.int .u64 0)
  lo : w.cell? ⟨b, 1, none⟩ = some (.int .u64 x)
  free : ∀ j, w.frozen? ⟨b, j, none⟩ = false

theorem Wide.set {w : World} {b x : Nat} (h : Wide w b x) (y : Nat) (z : Int) (hz : z = y) : Wide ((w.setCell ⟨b, 0, none⟩ (.int .u64 0)).setCell ⟨b, 1, none⟩ (.int .u64 z)) b y where
  hi := (set_off _ b 1 0 _ (by decide)).trans (World.cell?_setCell_same _ _ _ h.hi)
  lo := hz ▸ World.cell?_setCell_same _ _ _ ((set_off _ b 0 1 _ (by decide)).trans h.lo)
  free := fun j => by rw [World.frozen?_setCell, World.frozen?_setCell]; exact h.free j

set_option maxHeartbeats 1000000 in
theorem push_small (b x base d : Nat) (w : World) (h : Wide w b x) (hx : x < 18446744073709551616) (hb : base < 100) (hd : d < 100) (hm : x * base + d < 18446744073709551616) :
    Calls Tryz.prog 89 #[.pointer (some ⟨b, 0, none⟩), .int .u64 base, .int .u64 d] w fun e w' => e = .returned (.bool true) ∧ Wide w' b (x * base + d) ∧ w.grownBy w' (some b) := by
  have h0 := h.hi
  have h1 := h.lo
  have g0 := h.free 0
  have g1 := h.free 1
  have HH := Lib.hid h
  have hz : ∀ w : World, (callFunc 105 #[.int .u64 0, .int .u64 0, .int .u64 0]).run Tryz.prog w = .ok (.value (.tuple #[.int .u64 0, .int .u64 0])) w := add_run 0 0 (by omega)
  obtain ⟨p, hp⟩ : ∃ p, p = x * base := ⟨_, rfl⟩
  have ha := add_run p d (by omega)
  have HZ := Lib.hid hz
  have HA := Lib.hid ha
  have HP := Lib.hid hp
  clear hp hz ha h
  go_enter Tryz.func89, Tryz.ntmps89
  go_upto_region 2 with (go_at_call 104; refine (mul_zero' base (by omega) _).mono ?_; rintro e w' ⟨rfl, rfl⟩)
  go_upto_region 3 with (go_at_call 104; refine (mul_small x base (by omega) (by omega) (by omega) _).mono ?_; rintro e w' ⟨rfl, rfl⟩; rw [← HP.out])
  go_wp2_with (first | simp only [HZ.out] | simp only [HA.out])
  go_ret
  refine ⟨rfl, ?_, (grown_set _ ⟨b, 0, none⟩ _).trans (grown_set _ ⟨b, 1, none⟩ _)⟩
  exact HH.out.set (x * base + d) _ (by rw [← HP.out]; omega)

end Tk
end Go.Proofs.YtlpcpnbjpbhlgaaGreatDoor
