/- The lists of keywords and symbols. -/
import Derived.Test.YtlpcpnbjpbhlgaaGreatDoorC4
namespace Go.Proofs.YtlpcpnbjpbhlgaaGreatDoor
open Go.ChangeShapes Go.WideShapes Go.ChangeAt Go.RowKit
namespace Tk

def kwCells : Array Value := (kwWords.map fun l => Value.string ⟨l.toArray⟩).toArray

set_option maxHeartbeats 2000000 in
set_option maxRecDepth 100000 in
theorem refKeywords_any (w : World) :
    Calls Tryz.prog 12 #[] w fun e w' => e = .returned (.slice (some ⟨w.heap.size, 0, none⟩) 51 51) ∧ w' = w.alloc (.cells kwCells 9) := by
  obtain ⟨K, hK⟩ : ∃ K, K = kwCells := ⟨_, rfl⟩
  rw [← hK]
  have HK := Lib.hid hK
  clear hK
  go_enter Tryz.func12, Tryz.ntmps12
  go_wp2
  go_ret
  refine ⟨rfl, ?_⟩
  rw [HK.out]
  rfl

def symCells2 : Array Value := (symL.map fun l => Value.string ⟨l.toArray⟩).toArray

set_option maxHeartbeats 2000000 in
set_option maxRecDepth 100000 in
theorem refSymbols_any (w : World) :
    Calls Tryz.prog 14 #[] w fun e w' => e = .returned (.slice (some ⟨w.heap.size, 0, none⟩) 43 43) ∧ w' = w.alloc (.cells symCells2 9) := by
  obtain ⟨K, hK⟩ : ∃ K, K = symCells2 := ⟨_, rfl⟩
  rw [← hK]
  have HK := Lib.hid hK
  clear hK
  go_enter Tryz.func14, Tryz.ntmps14
  go_wp2
  go_ret
  refine ⟨rfl, ?_⟩
  rw [HK.out]
  rfl

set_option maxHeartbeats 2000000 in
set_option maxRecDepth 100000 in
theorem keywords_any (w : World) (ht : Lib.TabIs Tryz.prog w "strings.asciiSpace" .u8 Lib.asciiSpaceTab) :
    Calls Tryz.prog 11 #[] w fun e w' => e = .returned (.slice (some ⟨w.heap.size, 0, none⟩) 51 51) ∧ w' = w.alloc (.cells kwCells 9) := by
  have HT := Lib.hid ht
  clear ht
  go_enter Tryz.func11, Tryz.ntmps11
  go_wp2_with fail
  refine (Tryz.strings_Fields ⟨kwText.toArray⟩ _ (by decide) kw_ascii HT.out).mono ?_
  rintro e w' ⟨rfl, rfl⟩
  rw [kw_fields, kwWords_len]
  go_wp2_with fail
  go_ret
  exact ⟨rfl, rfl⟩

end Tk
end Go.Proofs.YtlpcpnbjpbhlgaaGreatDoor
