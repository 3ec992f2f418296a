/- Where a line ends. -/
import Derived.Test.YtlpcpnbjpbhlgaaGreatDoorA6
import Derived.Lib.IndexLaws
namespace Go.Proofs.YtlpcpnbjpbhlgaaGreatDoor
open Go.ChangeShapes Go.WideShapes Go.ChangeAt Go.RowKit Go.WideMaps Go.Maps
namespace Tk

theorem index_below (l : List UInt8) (c : UInt8) : Lib.indexByte l c < l.length ∨ Lib.indexByte l c = -1 := by
  induction l with
  | nil => exact .inr rfl
  | cons b l ih =>
    have hg := Lib.indexByte_ge l c
    unfold Lib.indexByte
    by_cases hb : (b == c) = true
    · rw [if_pos hb]; left; simp
    · rw [if_neg hb]
      by_cases h1 : (Lib.indexByte l c == -1) = true
      · rw [if_pos h1]; exact .inr rfl
      · rw [if_neg h1]
        left
        rcases ih with h | h
        · simp; omega
        · rw [h] at h1; exact absurd rfl h1

theorem ext_len (s : ByteArray) (a b : Nat) : (s.extract a b).data.toList.length = min b s.size - a := by
  rw [Array.length_toList]
  exact ByteArray.size_extract

/-- The byte c behind place a. -/
def findAt (s : ByteArray) (a : Nat) (c : UInt8) : Int := Lib.indexByte (s.extract a s.size).data.toList c
def lineEndZ (s : ByteArray) (a : Nat) : Int := if 0 ≤ findAt s a 10 then a + findAt s a 10 else s.size

set_option maxHeartbeats 400000 in
theorem lineEnd_any (w : World) (c : Nat) (s : ByteArray) (st a m : Nat) (hc : Cur w c s st a m) (hs : s.size ≤ 20000) (ha : a ≤ s.size) :
    Calls Tryz.prog 44 #[.pointer (some ⟨c, 0, none⟩)] w fun e w' => e = .returned (.int .i64 (lineEndZ s a)) ∧ ∃ n, w' = w.drewN n := by
  have c0 := hc.text
  have c2 := hc.pos
  have b1 : (a : Int) ≤ s.size := by omega
  have b2 : (0 : Int) ≤ a := by omega
  obtain ⟨z, hz⟩ : ∃ z, z = findAt s a 10 := ⟨_, rfl⟩
  have hz' : Lib.indexByte (s.extract a s.size).data.toList (Int.toNat 10).toUInt8 = z := hz.symm
  have HZ := Lib.hid hz
  have HZ' := Lib.hid hz'
  have hb := index_below (s.extract a s.size).data.toList (Int.toNat 10).toUInt8
  rw [hz', ext_len, Nat.min_self] at hb
  clear hz hz'
  by_cases h : 0 ≤ z
  · have hw : IntKind.i64.wrap ((a : Int) + z) = (a : Int) + z := IntWalk.i64_in _ (by omega)
    have HE : Hid (lineEndZ s a = a + z) := by show _ = _; unfold lineEndZ; rw [← HZ.out, if_pos h]
    clear hb
    go_enter Tryz.func44, Tryz.ntmps44
    go_wp2
    go_quiet ((go_at_call 41; exact Calls.quiet_of_same (Tryz.strings_IndexByte _ _ _)))
    rw [HZ'.out]
    go_wp2
    go_ret
    exact ⟨ret_int HE.out.symm, _, rfl⟩
  · have HE : Hid (lineEndZ s a = s.size) := by show _ = _; unfold lineEndZ; rw [← HZ.out, if_neg h]
    clear hb
    go_enter Tryz.func44, Tryz.ntmps44
    go_wp2
    go_quiet ((go_at_call 41; exact Calls.quiet_of_same (Tryz.strings_IndexByte _ _ _)))
    rw [HZ'.out]
    go_wp2
    go_ret
    exact ⟨ret_int HE.out.symm, _, rfl⟩

end Tk
end Go.Proofs.YtlpcpnbjpbhlgaaGreatDoor
