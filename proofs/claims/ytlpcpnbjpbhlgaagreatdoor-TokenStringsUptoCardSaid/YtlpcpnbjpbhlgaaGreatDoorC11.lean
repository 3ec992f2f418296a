/- The law TokenNames: whatever the text, it answers true. -/
import Derived.Test.YtlpcpnbjpbhlgaaGreatDoorC10
import Derived.Test.YtlpcpnbjpbhlgaaGreatDoorC9
import Derived.Test.YtlpcpnbjpbhlgaaGreatDoorB14
namespace Go.Proofs.YtlpcpnbjpbhlgaaGreatDoor
open Go.ChangeShapes Go.WideShapes Go.ChangeAt Go.RowKit
namespace Tk

/-- The variables that the program's functions read. -/
structure LawEnv (w : World) (mm : Int) : Prop where
  sp : Spaces w
  sy : Syms w
  po : Pow10 w
  u8 : Utf8T w
  ml : w.cell? ⟨5, 0, none⟩ = some (.int .i64 mm)

theorem LawEnv.below {w w' : World} {mm : Int} (h : LawEnv w mm) (hb : Below w.heap.size w w') : LawEnv w' mm :=
  ⟨tabIs_below h.sp hb, syms_below h.sy hb, tabIs_below h.po hb, utf8_below h.u8 hb, cells_old h.ml hb⟩

theorem LawEnv.drew {w : World} {mm : Int} (h : LawEnv w mm) (n : Nat) : LawEnv (w.drewN n) mm := h.below (below_drewN _ _ _)

set_option maxHeartbeats 4000000 in
set_option maxRecDepth 100000 in
theorem names_any (s : ByteArray) (w : World) (mm : Int) (hE : LawEnv w mm) :
    Calls Tryz.prog 3 #[.string s] w fun e w' => e = .returned (.bool true) ∧ Below w.heap.size w w' := by
  have HE := Lib.hid hE
  clear hE
  by_cases h500 : s.size ≤ 500
  · have l1 : ¬ (500 : Int) < s.size := by omega
    have l2 : decide ((500 : Int) < s.size) = false := decide_eq_false l1
    have hs : s.size ≤ 20000 := by omega
    obtain ⟨R, hR⟩ : ∃ R : Value, R = (if Lib.validD s.data.toList then .tuple #[.string ⟨(quoteAll s.data.toList).toArray⟩, .int .i64 0] else .tuple #[.string ⟨#[]⟩, .int .i64 2]) := ⟨_, rfl⟩
    obtain ⟨q, z, hq⟩ : ∃ (q : ByteArray) (z : Int), R = .tuple #[.string q, .int .i64 z] := by
      rw [hR]
      split
      · exact ⟨_, _, rfl⟩
      · exact ⟨_, _, rfl⟩
    obtain ⟨t, ht⟩ : ∃ t, t = identP s.data.toList := ⟨_, rfl⟩
    have hi2 : refIdentP s = t := by rw [ht, ident_same]
    have q1 : ∀ w : World, Utf8T w → Calls Tryz.prog 6 #[.string s] w fun e w' => e = .returned (.tuple #[.string q, .int .i64 z]) ∧ Below w.heap.size w w' := fun w h => by
      have := quote_any s w (Nat.le_trans hs (by decide)) h
      rwa [← hR, hq] at this
    have q2 : ∀ w : World, Utf8T w → Calls Tryz.prog 7 #[.string s] w fun e w' => e = .returned (.tuple #[.string q, .int .i64 z]) ∧ Below w.heap.size w w' := fun w h => by
      have := refQuote_any s w hs h
      rwa [← hR, hq] at this
    have q3 : ∀ (w : World) (mm : Int), w.cell? ⟨5, 0, none⟩ = some (.int .i64 mm) → Calls Tryz.prog 8 #[.string s] w fun e w' => e = .returned (.bool t) ∧ w = w' := fun w mm h => by
      rw [ht]
      exact isIdent_any s w mm hs h
    have q4 : ∀ w : World, Calls Tryz.prog 9 #[.string s] w fun e w' => e = .returned (.bool t) ∧ Below w.heap.size w w' := fun w => by
      rw [← hi2]
      exact refIsIdent_any s w hs
    have Q1 := Lib.hid q1
    have Q2 := Lib.hid q2
    have Q3 := Lib.hid q3
    have Q4 := Lib.hid q4
    clear q1 q2 q3 q4 hR hq ht hi2
    go_enter Tryz.func3, Tryz.ntmps3
    go_wp2_with fail
    refine (Q1.out _ HE.out.u8).mono ?_
    rintro e w1 ⟨rfl, hb1⟩
    have HE1 := Lib.hid (HE.out.below hb1)
    have HB1 := Lib.hid hb1
    clear hb1
    go_wp2_with fail
    refine (Q2.out _ HE1.out.u8).mono ?_
    rintro e w2 ⟨rfl, hb2⟩
    have HE2 := Lib.hid (HE1.out.below hb2)
    have HB2 := Lib.hid (HB1.out.trans (hb2.mono HB1.out.size))
    clear hb2
    go_wp2_with fail
    refine (Q3.out _ mm HE2.out.ml).mono ?_
    rintro e w2' ⟨rfl, rfl⟩
    go_wp2_with fail
    refine (Q4.out _).mono ?_
    rintro e w3 ⟨rfl, hb3⟩
    have HE3 := Lib.hid (HE2.out.below hb3)
    have HB3 := Lib.hid (HB2.out.trans (hb3.mono HB2.out.size))
    clear hb3
    go_wp2_with fail
    refine (keywords_any _ HE3.out.sp).mono ?_
    rintro e w4 ⟨rfl, h4⟩
    have b4 : Below w3.heap.size w3 w4 := by rw [h4]; exact (Below.refl _ _).alloc (Nat.le_refl _) _
    have k4 : ∀ j, j < kwB.length → w4.cell? ⟨w3.heap.size, 0 + j, none⟩ = some (.string (kwB.getD j ByteArray.empty)) := by rw [h4]; exact cells_of_list w3 _ kwB kwCells rfl
    have HE4 := Lib.hid (HE3.out.below b4)
    have HB4 := Lib.hid (HB3.out.trans (b4.mono HB3.out.size))
    have K4 := Lib.hid k4
    clear h4 b4 k4
    go_wp2_with fail
    refine (refKeywords_any _).mono ?_
    rintro e w5 ⟨rfl, h5⟩
    have b5 : Below w4.heap.size w4 w5 := by rw [h5]; exact (Below.refl _ _).alloc (Nat.le_refl _) _
    have k5 : ∀ j, j < kwB.length → w5.cell? ⟨w4.heap.size, 0 + j, none⟩ = some (.string (kwB.getD j ByteArray.empty)) := by rw [h5]; exact cells_of_list w4 _ kwB kwCells rfl
    have K45 : Hid (∀ j, j < kwB.length → w5.cell? ⟨w3.heap.size, 0 + j, none⟩ = some (.string (kwB.getD j ByteArray.empty))) := fun j hj => cells_old (K4.out j hj) b5
    have HE5 := Lib.hid (HE4.out.below b5)
    have HB5 := Lib.hid (HB4.out.trans (b5.mono HB4.out.size))
    have K5 := Lib.hid k5
    clear h5 b5 k5
    go_wp2_with fail
    refine (equal_any kwB 51 (by decide +kernel) (by omega) _ _ _ K45.out K5.out).mono ?_
    rintro e w6 ⟨rfl, n6, h6⟩
    have b6 : Below w5.heap.size w5 w6 := by rw [h6]; exact below_drewN _ _ _
    have HE6 := Lib.hid (HE5.out.below b6)
    have HB6 := Lib.hid (HB5.out.trans (b6.mono HB5.out.size))
    clear h6 b6
    go_wp2_with fail
    refine (symbols_any _ HE6.out.sy).mono ?_
    rintro e w7 ⟨rfl, h7⟩
    have b7 : Below w6.heap.size w6 w7 := by rw [h7]; exact (Below.refl _ _).alloc (Nat.le_refl _) _
    have k7 : ∀ j, j < syB.length → w7.cell? ⟨w6.heap.size, 0 + j, none⟩ = some (.string (syB.getD j ByteArray.empty)) := by rw [h7]; exact cells_of_list w6 _ syB symCells2 rfl
    have HE7 := Lib.hid (HE6.out.below b7)
    have HB7 := Lib.hid (HB6.out.trans (b7.mono HB6.out.size))
    have K7 := Lib.hid k7
    clear h7 b7 k7
    go_wp2_with fail
    refine (refSymbols_any _).mono ?_
    rintro e w8 ⟨rfl, h8⟩
    have b8 : Below w7.heap.size w7 w8 := by rw [h8]; exact (Below.refl _ _).alloc (Nat.le_refl _) _
    have k8 : ∀ j, j < syB.length → w8.cell? ⟨w7.heap.size, 0 + j, none⟩ = some (.string (syB.getD j ByteArray.empty)) := by rw [h8]; exact cells_of_list w7 _ syB symCells2 rfl
    have K78 : Hid (∀ j, j < syB.length → w8.cell? ⟨w6.heap.size, 0 + j, none⟩ = some (.string (syB.getD j ByteArray.empty))) := fun j hj => cells_old (K7.out j hj) b8
    have HE8 := Lib.hid (HE7.out.below b8)
    have HB8 := Lib.hid (HB7.out.trans (b8.mono HB7.out.size))
    have K8 := Lib.hid k8
    clear h8 b8 k8
    go_wp2_with fail
    refine (equal_any syB 43 (by decide +kernel) (by omega) _ _ _ K78.out K8.out).mono ?_
    rintro e w9 ⟨rfl, n9, h9⟩
    have b9 : Below w8.heap.size w8 w9 := by rw [h9]; exact below_drewN _ _ _
    have HE9 := Lib.hid (HE8.out.below b9)
    have HB9 := Lib.hid (HB8.out.trans (b9.mono HB8.out.size))
    clear h9 b9
    go_wp2_with fail
    refine (awake_any _ HE9.out.sp HE9.out.sy HE9.out.po HE9.out.u8).mono ?_
    rintro e w10 ⟨rfl, hb10⟩
    go_wp2_with fail
    go_ret
    exact ⟨rfl, HB9.out.trans (hb10.mono HB9.out.size)⟩
  · have l1 : (500 : Int) < s.size := by omega
    go_enter Tryz.func3, Tryz.ntmps3
    go_wp2_with (go_at_call 5; refine (awake_any _ HE.out.sp HE.out.sy HE.out.po HE.out.u8).mono ?_; rintro e w1 ⟨rfl, hb1⟩)
    go_ret
    exact ⟨rfl, hb1⟩

end Tk
end Go.Proofs.YtlpcpnbjpbhlgaaGreatDoor
