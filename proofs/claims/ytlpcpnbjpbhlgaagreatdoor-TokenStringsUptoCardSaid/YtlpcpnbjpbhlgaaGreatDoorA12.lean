/- A comment of a few bytes below 128. -/
import Derived.Test.YtlpcpnbjpbhlgaaGreatDoorA11
import Derived.Test.YtlpcpnbjpbhlgaaGreatDoorA7
namespace Go.Proofs.YtlpcpnbjpbhlgaaGreatDoor
open Go.ChangeShapes Go.WideShapes Go.ChangeAt Go.RowKit Go.WideMaps Go.Maps
namespace Tk

set_option maxHeartbeats 1000000 in
theorem comment_short (w : World) (c : Nat) (s : ByteArray) (st a b m : Nat) (hc : Cur w c s st a m) (hab : a ≤ b) (hb : b ≤ s.size) (h8 : b - a ≤ 8) (hA : AscS (s.extract a b)) :
    Calls Tryz.prog 43 #[.pointer (some ⟨c, 0, none⟩), .int .i64 b] w fun e w' => e = .returned (.tuple #[]) ∧ Cur w' c s a b m ∧ w.grownBy w' (some c) := by
  have HC := Lib.hid hc
  have HA := Lib.hid hA
  have h8' : (s.extract a b).size ≤ 8 := by rw [ByteArray.size_extract]; omega
  clear hc hA
  have c1 := HC.out.start
  have c2 := HC.out.pos
  have f1 := HC.out.free 1
  go_enter Tryz.func43, Tryz.ntmps43
  go_upto_region 1 with (fail)
  obtain ⟨wx, hwx⟩ : ∃ wx, wx = w.setCell ⟨c, 1, none⟩ (.int .i64 a) := ⟨_, rfl⟩
  have HCx : Hid (Cur wx c s a a m) := by rw [hwx]; exact HC.out.begin a
  have HGx : Hid (w.grownBy wx (some c)) := by rw [hwx]; exact grown_set _ ⟨c, 1, none⟩ _
  rw [← hwx]
  clear hwx c1 c2 f1 HC
  have c0 := HCx.out.text
  have c2 := HCx.out.pos
  have f2 := HCx.out.free 2
  have i0 : (0 : Int) ≤ b := by omega
  have i1 : (a : Int) ≤ b := by omega
  have i2 : (b : Int) ≤ s.size := by omega
  have i3 : (0 : Int) ≤ a := by omega
  have i4 : ¬ (b : Int) < 0 := by omega
  go_quiet ((go_at_call 16; exact Calls.quiet_of_same (valid_short _ _ h8' HA.out)))
  go_wp2_with fail
  refine bodyPost_end (v := .tuple #[]) (by simp [results, Tryz.results43]) rfl ?_
  exact ⟨rfl, (HCx.out.drew nq).move b _ rfl, (HGx.out.trans (grown_drewN _ _ _)).trans (grown_set _ ⟨c, 2, none⟩ _)⟩

end Tk
end Go.Proofs.YtlpcpnbjpbhlgaaGreatDoor
