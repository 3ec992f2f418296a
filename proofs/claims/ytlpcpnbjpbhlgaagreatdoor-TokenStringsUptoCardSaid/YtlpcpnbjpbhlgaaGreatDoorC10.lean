/- The symbols of the program. -/
import Derived.Test.YtlpcpnbjpbhlgaaGreatDoorC6
import Derived.Test.YtlpcpnbjpbhlgaaGreatDoorA8
import Derived.Test.YtlpcpnbjpbhlgaaGreatDoorB2
import Derived.Deep.WholeRow
namespace Go.Proofs.YtlpcpnbjpbhlgaaGreatDoor
open Go.ChangeShapes Go.WideShapes Go.ChangeAt Go.RowKit
namespace Tk

theorem symCells_same : symCells = symCells2 := by kernel_rfl

set_option maxHeartbeats 4000000 in
set_option maxRecDepth 100000 in
theorem symbols_any (w : World) (hS : Syms w) :
    Calls Tryz.prog 13 #[] w fun e w' => e = .returned (.slice (some ⟨w.heap.size, 0, none⟩) 43 43) ∧ w' = w.alloc (.cells symCells2 50) := by
  obtain ⟨tt, fr, hblk⟩ := hS.block
  have G := Lib.hid hblk
  have hVs : (Tryz.prog.info? 50).map (·.size) = some symCells.size := by kernel_rfl
  have HV := Lib.hid hVs
  have hst : ∀ c : Array Value, c.size = 43 → (storeCells ⟨w.heap.size, 0, none⟩ symCells.toList).run Tryz.prog (w.alloc (.cells c 50)) = .ok () (w.alloc (.cells symCells 50)) :=
    fun c hc => run_storeCells_new w 50 c symCells HV.out (hc.trans (by kernel_rfl)) (by kernel_rfl)
  have HS2 := Lib.hid hst
  clear hblk hVs hS hst
  go_enter Tryz.func13, Tryz.ntmps13
  go_wp2_with (refine wpList_load_row rfl 50 (.global 0) rfl 0 rfl _ _ _ _ G.out Tryz.underlying50 rfl HV.out ?_)
  case isTrue h =>
    rw [HS2.out _ rfl]
    simp only [Result.andThen]
    go_wp2
    go_ret
    exact ⟨rfl, by rw [symCells_same]⟩

def kwB : List ByteArray := kwWords.map fun l => ⟨l.toArray⟩
def syB : List ByteArray := symL.map fun l => ⟨l.toArray⟩

theorem cells_of_list (w : World) (t : TypeId) (xs : List ByteArray) (cs : Array Value) (h : cs = (xs.map Value.string).toArray) (j : Nat) (hj : j < xs.length) : (w.alloc (.cells cs t)).cell? ⟨w.heap.size, 0 + j, none⟩ = some (.string (xs.getD j ByteArray.empty)) := by
  rw [Nat.zero_add, Lib.cell_of_heap (World.alloc_heap_new w (.cells cs t)), h]
  simp [List.getD, hj]

theorem cells_old {w w' : World} {b j : Nat} {v : Value} (h : w.cell? ⟨b, j, none⟩ = some v) (hb : Below w.heap.size w w') : w'.cell? ⟨b, j, none⟩ = some v :=
  (World.cell?_of_block (hb.block b (lt_cell h))).trans h

/-- Two lists of strings that the program and the reference have just made, with the same strings. -/
theorem equal_any (xs : List ByteArray) (n : Nat) (hn : xs.length = n) (hb : n ≤ 1000) (b1 b2 : Nat) (w : World) (h1 : ∀ j, j < xs.length → w.cell? ⟨b1, 0 + j, none⟩ = some (.string (xs.getD j ByteArray.empty))) (h2 : ∀ j, j < xs.length → w.cell? ⟨b2, 0 + j, none⟩ = some (.string (xs.getD j ByteArray.empty))) :
    Calls Tryz.prog 10 #[.slice (some ⟨b1, 0, none⟩) n n, .slice (some ⟨b2, 0, none⟩) n n] w fun e w' => e = .returned (.bool true) ∧ ∃ q, w' = w.drewN q := by
  refine (Tryz.slices_Equal_string b1 0 n n b2 0 n n xs xs w (by omega) (by omega) (by omega) (by omega) h1 h2).mono ?_
  rintro e w' ⟨rfl, h⟩
  exact ⟨by simp, h⟩

end Tk
end Go.Proofs.YtlpcpnbjpbhlgaaGreatDoor
