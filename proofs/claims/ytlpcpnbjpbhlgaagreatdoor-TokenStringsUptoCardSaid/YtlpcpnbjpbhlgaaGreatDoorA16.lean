/- A character of a literal: an escape with two digits, or a byte below 128. -/
import Derived.Test.YtlpcpnbjpbhlgaaGreatDoorA15
namespace Go.Proofs.YtlpcpnbjpbhlgaaGreatDoor
open Go.ChangeShapes Go.WideShapes Go.ChangeAt Go.RowKit Go.WideMaps Go.Maps
namespace Tk

def back1 : ByteArray := ⟨#[92]⟩

set_option maxHeartbeats 1000000 in
theorem char_x (w : World) (c : Nat) (s : ByteArray) (st a m : Nat) (hc : Cur w c s st a m) (hs : s.size ≤ 20000) (hb : Lib.hasPrefix (s.extract a s.size).data.toList back1.data.toList = true) (hx : byteAt s (a + 1) = 120) (h0 : digitV (byteAt s (a + 2)) 16 < 8) (h1 : digitV (byteAt s (a + 2 + 1)) 16 < 16) (hz : a + 4 ≤ s.size) :
    Calls Tryz.prog 77 #[.pointer (some ⟨c, 0, none⟩)] w fun e w' => e = .returned (.int .i32 (hexV s (a + 2) 2)) ∧ Cur w' c s st (a + 4) m ∧ w.grownBy w' (some c) := by
  have HC := Lib.hid hc
  have HB := Lib.hid hb
  clear hc hb
  go_enter Tryz.func77, Tryz.ntmps77
  go_wp2_with (first | (go_at_call 42; refine (has_any s back1 c a _ (by omega) HC.out.text HC.out.pos).mono ?_; rintro e w' ⟨he, n, rfl⟩; rw [HB.out] at he; subst he) | (go_at_call 93; refine (escape_x _ c s st a m (HC.out.drew _) hs hx h0 h1 hz).mono ?_; rintro e w' ⟨rfl, hcw, hgw⟩))
  go_ret
  exact ⟨rfl, hcw, World.grownBy.trans (grown_drewN _ _ _) hgw⟩

set_option maxHeartbeats 1000000 in
theorem char_ascii (w : World) (c : Nat) (s : ByteArray) (st a m : Nat) (x : UInt8) (hc : Cur w c s st a m) (hs : s.size ≤ 20000) (ha : a < s.size) (hb : Lib.hasPrefix (s.extract a s.size).data.toList back1.data.toList = false) (hx : (s.extract a s.size).data.toList[0]? = some x) (h1 : x.toNat < 128) (h2 : x.toNat ≠ 10) :
    Calls Tryz.prog 77 #[.pointer (some ⟨c, 0, none⟩)] w fun e w' => e = .returned (.int .i32 x.toNat) ∧ Cur w' c s st (a + 1) m ∧ w.grownBy w' (some c) := by
  have HC := Lib.hid hc
  have HB := Lib.hid hb
  have HX := Lib.hid hx
  clear hc hb hx
  go_enter Tryz.func77, Tryz.ntmps77
  go_upto_region 3 with (go_at_call 42; refine (has_any s back1 c a _ (by omega) HC.out.text HC.out.pos).mono ?_; rintro e w' ⟨he, n, rfl⟩; rw [HB.out] at he; subst he)
  obtain ⟨wo, hwo⟩ : ∃ wo, wo = w.drewN n := ⟨_, rfl⟩
  have HCo : Hid (Cur wo c s st a m) := by rw [hwo]; exact HC.out.drew n
  have HGo : Hid (w.grownBy wo (some c)) := by rw [hwo]; exact grown_drewN _ _ _
  rw [← hwo]
  clear hwo
  have c0 := HCo.out.text
  have c2 := HCo.out.pos
  have f2 := HCo.out.free 2
  have i1 : (a : Int) ≤ s.size := by omega
  have i2 : (0 : Int) ≤ a := by omega
  go_quiet ((go_at_call 94; exact Calls.quiet_of_same (Tryz.utf8_DecodeRuneInString_ascii _ x _ HX.out h1)))
  have k1 : ¬ (x.toNat : Int) = 10 := by omega
  have k2 : ¬ (x.toNat : Int) = 65533 := by omega
  have k3 : ((x.toNat : Int) == 10) = false := by simpa using k1
  have k4 : ((x.toNat : Int) == 65533) = false := by simpa using k2
  have e1 : IntKind.i64.wrap ((a : Int) + 1) = (a : Int) + 1 := IntWalk.i64_in _ (by omega)
  go_wp2_with fail
  go_ret
  exact ⟨rfl, (HCo.out.drew _).move (a + 1) _ (by omega), (HGo.out.trans (grown_drewN _ _ _)).trans (grown_set _ ⟨c, 2, none⟩ _)⟩

end Tk
end Go.Proofs.YtlpcpnbjpbhlgaaGreatDoor
