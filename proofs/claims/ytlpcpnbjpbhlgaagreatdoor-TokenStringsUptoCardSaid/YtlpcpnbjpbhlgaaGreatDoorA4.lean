/- The cursor: what it holds, and what its methods read. -/
import Derived.Test.YtlpcpnbjpbhlgaaGreatDoorA3
namespace Go.Proofs.YtlpcpnbjpbhlgaaGreatDoor
open Go.ChangeShapes Go.WideShapes Go.ChangeAt Go.RowKit
namespace Tk

/-- Block c is a cursor over a text. -/
structure Cur (w : World) (c : Nat) (s : ByteArray) (st a : Nat) (m : Nat) : Prop where
  text : w.cell? ⟨c, 0, none⟩ = some (.string s)
  start : w.cell? ⟨c, 1, none⟩ = some (.int .i64 st)
  pos : w.cell? ⟨c, 2, none⟩ = some (.int .i64 a)
  words : w.cell? ⟨c, 3, none⟩ = some (.map (some m))
  free : ∀ j, w.frozen? ⟨c, j, none⟩ = false

theorem Cur.drew {w : World} {c : Nat} {s : ByteArray} {st a m : Nat} (h : Cur w c s st a m) (n : Nat) : Cur (w.drewN n) c s st a m := ⟨h.text, h.start, h.pos, h.words, h.free⟩

set_option maxHeartbeats 400000 in
theorem has_any (s p : ByteArray) (c a : Nat) (w : World) (ha : a ≤ s.size) (h0 : w.cell? ⟨c, 0, none⟩ = some (.string s)) (h2 : w.cell? ⟨c, 2, none⟩ = some (.int .i64 a)) :
    Calls Tryz.prog 42 #[.pointer (some ⟨c, 0, none⟩), .string p] w fun e w' => e = .returned (.bool (Lib.hasPrefix (s.extract a s.size).data.toList p.data.toList)) ∧ ∃ n, w' = w.drewN n := by
  have b1 : (a : Int) ≤ s.size := by omega
  have b2 : (0 : Int) ≤ a := by omega
  go_enter Tryz.func42, Tryz.ntmps42
  go_wp2
  go_quiet ((go_at_call 69; exact Calls.quiet_of_same (Tryz.strings_HasPrefix _ _ _)))
  go_wp2
  go_ret
  exact ⟨rfl, _, rfl⟩

end Tk
end Go.Proofs.YtlpcpnbjpbhlgaaGreatDoor
