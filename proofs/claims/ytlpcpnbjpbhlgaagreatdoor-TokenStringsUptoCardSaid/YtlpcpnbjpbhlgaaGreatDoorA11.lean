/- ValidString of a short text of bytes below 128. -/
import Derived.Test.YtlpcpnbjpbhlgaaGreatDoorA2
import Derived.Lib.ValidAsc
namespace Go.Proofs.YtlpcpnbjpbhlgaaGreatDoor
open Go.ChangeShapes Go.WideShapes Go.ChangeAt Go.RowKit
namespace Tk

def strSize : Value → Nat
  | .string s => s.size
  | _ => 0

def AscS (s : ByteArray) : Prop := ∀ b ∈ s.data.toList, b.toNat < 128

theorem AscS.tail {s : ByteArray} (h : AscS s) : AscS (s.extract 1 s.size) := fun b hb => by
  rw [Lib.ext_list] at hb
  exact h b (List.mem_of_mem_drop hb)

theorem AscS.first {s : ByteArray} (h : AscS s) (h0 : 0 < s.size) : (s[0]'h0).toNat < 128 := by
  refine h _ ?_
  obtain ⟨d⟩ := s
  exact Array.mem_toList_iff.2 (Array.getElem_mem (xs := d) (i := 0) h0)

set_option maxHeartbeats 1000000 in
set_option maxRecDepth 3000 in
theorem valid_short (s : ByteArray) (w : World) (hs : s.size ≤ 8) (ha : AscS s) :
    Calls Tryz.prog 16 #[.string s] w fun e w' => e = .returned (.bool true) ∧ w' = w := by
  have HA := Lib.hid ha
  clear ha
  go_enter Tryz.func16, Tryz.ntmps16
  go_wp2_with fail
  go_loopw [0] (fun v wr => ∃ t : ByteArray, v = .string t ∧ t.size ≤ 8 ∧ AscS t ∧ wr = w) (fun v _ => strSize v)
  case atStart => exact ⟨s, rfl, hs, HA.out, rfl⟩
  case round =>
    obtain ⟨t, rfl, ht, hat, rfl⟩ := hrel
    have HT := Lib.hid hat
    clear hat
    by_cases h0 : 0 < t.size
    · have i0 : (0 : Int) < t.size := by omega
      have i1 : (1 : Int) ≤ t.size := by omega
      have hlt : ((t[0]'h0).toNat : Int) < 128 := by have := HT.out.first h0; omega
      have hsz : (t.extract 1 t.size).size = t.size - 1 := Lib.ext_size t 1
      have hs8 : ¬ (8 : Int) < ((t.extract 1 t.size).size : Int) := by omega
      have HN := Lib.hid HT.out.tail
      go_wp2_with fail
      refine ⟨⟨_, rfl, by omega, HN.out, trivial⟩, ?_⟩
      show (t.extract 1 t.size).size < t.size
      omega
    · have i0 : ¬ (0 : Int) < t.size := by omega
      have i1 : (t.size : Int) ≤ 0 := by omega
      go_wp2_with fail
      go_ret
      exact ⟨rfl, rfl⟩

end Tk
end Go.Proofs.YtlpcpnbjpbhlgaaGreatDoor
