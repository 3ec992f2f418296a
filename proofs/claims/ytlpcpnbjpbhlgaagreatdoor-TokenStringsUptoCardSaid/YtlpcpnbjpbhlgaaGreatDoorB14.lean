/- The examples of the chapter hold. -/
import Derived.Test.YtlpcpnbjpbhlgaaGreatDoorB13
namespace Go.Proofs.YtlpcpnbjpbhlgaaGreatDoor
open Go.ChangeShapes Go.WideShapes Go.ChangeAt Go.RowKit Go.WideMaps Go.Maps
namespace Tk

abbrev Spaces (w : World) : Prop := Lib.TabIs Tryz.prog w "strings.asciiSpace" .u8 Lib.asciiSpaceTab

theorem syms_below {w w' : World} (h : Syms w) (hb : Below w.heap.size w w') : Syms w' := by
  obtain ⟨t, fr, hs⟩ := h.block
  exact ⟨t, fr, (hb.block _ (Array.getElem?_eq_some_iff.1 hs).1).trans hs⟩

/-- What a scanned list holds. -/
theorem row_cell {w : World} {base g cap n : Nat} {xs : List Value} (h : w.ownsRow base 34 4 (.slice (some ⟨g, 0, none⟩) n cap) n xs) (j : Nat) (u : Value) (hj : xs[j]? = some u) : w.cell? ⟨g, j, none⟩ = some u := by
  have := (World.ownsRowF_of h).cells (g := g) rfl j u hj
  rwa [show ((⟨g, 0, none⟩ : Addr).add j) = ⟨g, j, none⟩ by simp [Addr.add]; exact fun h => h.symm] at this

set_option maxHeartbeats 2000000 in
set_option maxRecDepth 100000 in
theorem awake_any (w : World) (hspace : Spaces w) (hsy : Syms w) (hpo : Pow10 w) (hu : Utf8T w) :
    Calls Tryz.prog 5 #[] w fun e w' => e = .returned (.bool true) ∧ Below w.heap.size w w' := by
  have HS := Lib.hid hspace
  have HY := Lib.hid hsy
  have HP := Lib.hid hpo
  have HU := Lib.hid hu
  clear hspace hsy hpo hu
  go_enter Tryz.func5, Tryz.ntmps5
  go_wp2_with fail
  refine (scan_any w text1 toks1 (by decide) toks1_ok HS.out HY.out HP.out HU.out).mono ?_
  rintro e w1 ⟨v1, rfl, hr1, hb1⟩
  have HB1 := Lib.hid hb1
  have HR1 := Lib.hid hr1
  clear hb1 hr1
  go_wp2_with fail
  refine (scan_any w1 text2 toks2 (by decide) toks2_ok (tabIs_below HS.out HB1.out) (syms_below HY.out HB1.out) (tabIs_below HP.out HB1.out) (utf8_below HU.out HB1.out)).mono ?_
  rintro e w2 ⟨v2, rfl, hr2, hb2⟩
  obtain ⟨g1, c1, rfl⟩ := ownsRow_succ (k := 3) HR1.out
  obtain ⟨g2, c2, rfl⟩ := ownsRow_succ (k := 6) hr2
  have hg1 : g1 < w1.heap.size := (HR1.out.lt g1 rfl).2
  have hc1 : ∀ j u, (cellsOf toks1)[j]? = some u → w2.cell? ⟨g1, j, none⟩ = some u := fun j u h => (World.cell?_of_block (hb2.block g1 hg1)).trans (row_cell HR1.out j u h)
  have hc2 : ∀ j u, (cellsOf toks2)[j]? = some u → w2.cell? ⟨g2, j, none⟩ = some u := fun j u h => row_cell hr2 j u h
  have a0 := hc1 0 (.int .i64 2) rfl
  have a1 := hc1 1 (.string ⟨#[108, 101, 116]⟩) rfl
  have a2 := hc1 2 (.int .i64 0) rfl
  have a3 := hc1 3 (.bool true) rfl
  have a5 := hc1 5 (.string ⟨#[120, 39]⟩) rfl
  have a13 := hc1 13 (.string ⟨#[50, 53, 53]⟩) rfl
  have d5 := hc2 5 (.string ⟨#[46]⟩) rfl
  have d17 := hc2 17 (.string ⟨#[46, 62]⟩) rfl
  have d24 := hc2 24 (.int .i64 5) rfl
  have d25 := hc2 25 (.string ⟨#[97, 65]⟩) rfl
  have d26 := hc2 26 (.int .i64 9) rfl
  have d27 := hc2 27 (.bool false) rfl
  have HB2 := Lib.hid hb2
  clear hc1 hc2 hr2 hb2 hg1
  go_wp2_with fail
  go_ret
  exact ⟨rfl, HB1.out.trans (HB2.out.mono HB1.out.size)⟩

end Tk
end Go.Proofs.YtlpcpnbjpbhlgaaGreatDoor
