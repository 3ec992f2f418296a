/- The escapes of two bytes. -/
import Derived.Test.YtlpcpnbjpbhlgaaGreatDoorA16
namespace Go.Proofs.YtlpcpnbjpbhlgaaGreatDoor
open Go.ChangeShapes Go.WideShapes Go.ChangeAt Go.RowKit Go.WideMaps Go.Maps
namespace Tk

/-- The second byte of an escape, and the character that it stands for. -/
def escs : List (Int × Int) := [(110, 10), (116, 9), (114, 13), (48, 0), (34, 34), (92, 92)]

set_option maxHeartbeats 2000000 in
theorem escape_two (w : World) (c : Nat) (s : ByteArray) (st a m : Nat) (b r : Int) (hb : (b, r) ∈ escs) (hc : Cur w c s st a m) (hs : s.size ≤ 20000) (hx : byteAt s (a + 1) = b) (hz : a + 2 ≤ s.size) :
    Calls Tryz.prog 93 #[.pointer (some ⟨c, 0, none⟩)] w fun e w' => e = .returned (.int .i32 r) ∧ Cur w' c s st (a + 2) m ∧ w.grownBy w' (some c) := by
  have HC := Lib.hid hc
  have HX := Lib.hid hx
  clear hc hx
  simp only [escs, List.mem_cons, Prod.mk.injEq, List.not_mem_nil, or_false] at hb
  rcases hb with ⟨rfl, rfl⟩ | ⟨rfl, rfl⟩ | ⟨rfl, rfl⟩ | ⟨rfl, rfl⟩ | ⟨rfl, rfl⟩ | ⟨rfl, rfl⟩
  all_goals
    go_enter Tryz.func93, Tryz.ntmps93
    go_upto_region 2 with (go_at_call 71; refine (peek_any s a 1 c _ hs (by omega) (by omega) HC.out.text HC.out.pos).mono ?_; rintro e w' ⟨he, n, rfl⟩; rw [HX.out] at he; subst he)
    obtain ⟨wo, hwo⟩ : ∃ wo, wo = w.drewN n := ⟨_, rfl⟩
    have HCo : Hid (Cur wo c s st a m) := by rw [hwo]; exact HC.out.drew n
    have HGo : Hid (w.grownBy wo (some c)) := by rw [hwo]; exact grown_drewN _ _ _
    rw [← hwo]
    clear hwo
    have c2 := HCo.out.pos
    have f2 := HCo.out.free 2
    have e1 : IntKind.i64.wrap ((a : Int) + 2) = (a : Int) + 2 := IntWalk.i64_in _ (by omega)
    go_wp2_with fail
    go_ret
    exact ⟨rfl, HCo.out.move (a + 2) _ (by omega), HGo.out.trans (grown_set _ ⟨c, 2, none⟩ _)⟩

set_option maxHeartbeats 1000000 in
theorem char_two (w : World) (c : Nat) (s : ByteArray) (st a m : Nat) (b r : Int) (he : (b, r) ∈ escs) (hc : Cur w c s st a m) (hs : s.size ≤ 20000) (hb : Lib.hasPrefix (s.extract a s.size).data.toList back1.data.toList = true) (hx : byteAt s (a + 1) = b) (hz : a + 2 ≤ s.size) :
    Calls Tryz.prog 77 #[.pointer (some ⟨c, 0, none⟩)] w fun e w' => e = .returned (.int .i32 r) ∧ Cur w' c s st (a + 2) m ∧ w.grownBy w' (some c) := by
  have HC := Lib.hid hc
  have HB := Lib.hid hb
  have HX := Lib.hid hx
  have HE := Lib.hid he
  clear hc hb hx he
  go_enter Tryz.func77, Tryz.ntmps77
  go_wp2_with (first | (go_at_call 42; refine (has_any s back1 c a _ (by omega) HC.out.text HC.out.pos).mono ?_; rintro e w' ⟨he, n, rfl⟩; rw [HB.out] at he; subst he) | (go_at_call 93; refine (escape_two _ c s st a m b r HE.out (HC.out.drew _) hs HX.out hz).mono ?_; rintro e w' ⟨rfl, hcw, hgw⟩))
  go_ret
  exact ⟨rfl, hcw, World.grownBy.trans (grown_drewN _ _ _) hgw⟩

end Tk
end Go.Proofs.YtlpcpnbjpbhlgaaGreatDoor
