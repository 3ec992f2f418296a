/- An escape with two digits, and a character of one byte. -/
import Derived.Test.YtlpcpnbjpbhlgaaGreatDoorA14
namespace Go.Proofs.YtlpcpnbjpbhlgaaGreatDoor
open Go.ChangeShapes Go.WideShapes Go.ChangeAt Go.RowKit Go.WideMaps Go.Maps
namespace Tk

set_option maxHeartbeats 1000000 in
theorem escape_x (w : World) (c : Nat) (s : ByteArray) (st a m : Nat) (hc : Cur w c s st a m) (hs : s.size ≤ 20000) (hx : byteAt s (a + 1) = 120) (h0 : digitV (byteAt s (a + 2)) 16 < 8) (h1 : digitV (byteAt s (a + 2 + 1)) 16 < 16) (hz : a + 4 ≤ s.size) :
    Calls Tryz.prog 93 #[.pointer (some ⟨c, 0, none⟩)] w fun e w' => e = .returned (.int .i32 (hexV s (a + 2) 2)) ∧ Cur w' c s st (a + 4) m ∧ w.grownBy w' (some c) := by
  have HC := Lib.hid hc
  have HX := Lib.hid hx
  clear hc hx
  go_enter Tryz.func93, Tryz.ntmps93
  go_upto_region 2 with (go_at_call 71; refine (peek_any s a 1 c _ hs (by omega) (by omega) HC.out.text HC.out.pos).mono ?_; rintro e w' ⟨he, n, rfl⟩; rw [HX.out] at he; subst he)
  obtain ⟨wo, hwo⟩ : ∃ wo, wo = w.drewN n := ⟨_, rfl⟩
  have HCo : Hid (Cur wo c s st a m) := by rw [hwo]; exact HC.out.drew n
  have HGo : Hid (w.grownBy wo (some c)) := by rw [hwo]; exact grown_drewN _ _ _
  rw [← hwo]
  clear hwo
  have c2 := HCo.out.pos
  have f2 := HCo.out.free 2
  have e1 : IntKind.i64.wrap ((a : Int) + 2) = (a : Int) + 2 := IntWalk.i64_in _ (by omega)
  have hC1 : Hid (Cur (wo.setCell ⟨c, 2, none⟩ (.int .i64 ((a : Int) + 2))) c s st (a + 2) m) := HCo.out.move (a + 2) _ (by omega)
  go_wp2_with (go_at_call 110; refine (hex_two _ c s st (a + 2) m hC1.out hs h0 h1 (by omega)).mono ?_; rintro e w' ⟨rfl, hcw, hgw⟩)
  go_ret
  exact ⟨rfl, hcw, (HGo.out.trans (grown_set _ ⟨c, 2, none⟩ _)).trans hgw⟩

end Tk
end Go.Proofs.YtlpcpnbjpbhlgaaGreatDoor
