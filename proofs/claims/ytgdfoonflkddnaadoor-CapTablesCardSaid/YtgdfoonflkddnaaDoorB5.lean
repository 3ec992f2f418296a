/- CapTables: the walk. -/
import Derived.Test.YtgdfoonflkddnaaDoorE4
import Derived.Test.YtgdfoonflkddnaaDoorE5
namespace Go.Proofs.YtgdfoonflkddnaaDoor
open Go.ChangeShapes Go.WideShapes Go.ChangeAt Go.RowKit
namespace Cp

/-- All tables that the law reads. -/
structure TabsAt (w : World) : Prop where
  names : NamesAt w
  mem : TabAt 1 memL w
  fit : TabAt 2 fitL w
  mark : TabAt 3 markL w
  recs : TabAt 4 recL w
  view : TabAt 5 viewL w

theorem TabsAt.below {w w' : World} (h : TabsAt w) (hb : Below w.heap.size w w') : TabsAt w' :=
  ⟨h.names.below hb, h.mem.below hb, h.fit.below hb, h.mark.below hb, h.recs.below hb, h.view.below hb⟩

theorem TabsAt.drew {w : World} (h : TabsAt w) (n : Nat) : TabsAt (w.drewN n) := ⟨h.names, h.mem.drew n, h.fit.drew n, h.mark.drew n, h.recs.drew n, h.view.drew n⟩

set_option maxHeartbeats 4000000 in
set_option maxRecDepth 100000 in
theorem tables_walk (a m b o : Int) (s : ByteArray) (w : World) (hA : TabsAt w) :
    Calls Tryd.prog 3 #[.int .i64 a, .int .i64 m, .int .i64 b, .int .i64 o, .string s] w fun e w' => e = .returned (.bool true) ∧ Below w.heap.size w w' := by
  have HA := Lib.hid hA
  have HB := Lib.hid (Below.refl w.heap.size w)
  clear hA
  go_enter Tryd.func3, Tryd.ntmps3
  go_wp2_with (first
    | (go_at_call 9; refine (Parse_any _ _ HA.out.names).mono ?_; rintro e w' ⟨rfl, rfl⟩)
    | (go_at_call 10; refine (rParse_any _ _).mono ?_; rintro e w' ⟨rfl, hb⟩; have HA2 := Lib.hid (HA.out.below hb); have HB2 := Lib.hid (HB.out.trans (hb.mono HB.out.size)); clear hb HA HB; have HA := HA2; have HB := HB2; clear HA2 HB2)
    | (go_at_call 11; refine (Name_any _ _ HA.out.names).mono ?_; rintro e w' ⟨rfl, rfl⟩)
    | (go_at_call 12; refine (rName_any _ _).mono ?_; rintro e w' ⟨rfl, hb⟩; have HA2 := Lib.hid (HA.out.below hb); have HB2 := Lib.hid (HB.out.trans (hb.mono HB.out.size)); clear hb HA HB; have HA := HA2; have HB := HB2; clear HA2 HB2)
    | (go_at_call 13; refine (Is_any _ _).mono ?_; rintro e w' ⟨rfl, rfl⟩)
    | (go_at_call 14; refine (rIs_any _ _).mono ?_; rintro e w' ⟨rfl, rfl⟩)
    | (go_at_call 16; refine (Members_any _ _ HA.out.names HA.out.mem).mono ?_; rintro e w' ⟨v, rfl, ho, hb⟩; have HO := Lib.hid ho; clear ho; have HA2 := Lib.hid (HA.out.below hb); have HB2 := Lib.hid (HB.out.trans (hb.mono HB.out.size)); clear hb HA HB; have HA := HA2; have HB := HB2; clear HA2 HB2)
    | (go_at_call 17; refine (rMembers_any _ _).mono ?_; rintro e w' ⟨v, rfl, ho, hb⟩; have HP := Lib.hid ho; have HO2 := Lib.hid (HO.out.below hb); clear ho HO; have HA2 := Lib.hid (HA.out.below hb); have HB2 := Lib.hid (HB.out.trans (hb.mono HB.out.size)); clear hb HA HB; have HA := HA2; have HB := HB2; clear HA2 HB2)
    | (go_at_call 15; refine (Equal_owned _ _ _ _ _ _ HO2.out HP.out).mono ?_; rintro e w' ⟨rfl, q, hw⟩; have HA2 := Lib.hid (show TabsAt w' by rw [hw]; exact HA.out.drew q); have HB2 := Lib.hid (show Below w.heap.size w w' by rw [hw]; exact below_drewN HB.out q); clear hw HA HB; have HA := HA2; have HB := HB2; clear HA2 HB2)
    | (go_at_call 18; refine (Reads_any _ _).mono ?_; rintro e w' ⟨rfl, rfl⟩)
    | (go_at_call 19; refine (rReads_any _ _).mono ?_; rintro e w' ⟨rfl, rfl⟩)
    | (go_at_call 20; refine (Writes_any _ _).mono ?_; rintro e w' ⟨rfl, rfl⟩)
    | (go_at_call 21; refine (rWrites_any _ _).mono ?_; rintro e w' ⟨rfl, rfl⟩)
    | (go_at_call 22; refine (Sendable_any _ _).mono ?_; rintro e w' ⟨rfl, rfl⟩)
    | (go_at_call 23; refine (rSend_any _ _).mono ?_; rintro e w' ⟨rfl, rfl⟩)
    | (go_at_call 24; refine (Sub_any _ _ _ HA.out.fit HA.out.mark).mono ?_; rintro e w' ⟨rfl, q, hw⟩; have HA2 := Lib.hid (show TabsAt w' by rw [hw]; exact HA.out.drew q); have HB2 := Lib.hid (show Below w.heap.size w w' by rw [hw]; exact below_drewN HB.out q); clear hw HA HB; have HA := HA2; have HB := HB2; clear HA2 HB2)
    | (go_at_call 25; refine (rSub_any _ _ _).mono ?_; rintro e w' ⟨rfl, rfl⟩)
    | (go_at_call 26; refine (Fits_any _ _ _ _ _ HA.out.fit HA.out.mark).mono ?_; rintro e w' ⟨rfl, q, hw⟩; have HA2 := Lib.hid (show TabsAt w' by rw [hw]; exact HA.out.drew q); have HB2 := Lib.hid (show Below w.heap.size w w' by rw [hw]; exact below_drewN HB.out q); clear hw HA HB; have HA := HA2; have HB := HB2; clear HA2 HB2)
    | (go_at_call 27; refine (rFits_any _ _ _ _ _).mono ?_; rintro e w' ⟨rfl, rfl⟩)
    | (go_at_call 28; refine (Alias_any _ _ _).mono ?_; rintro e w' ⟨rfl, rfl⟩)
    | (go_at_call 29; refine (rAlias_any _ _ _).mono ?_; rintro e w' ⟨rfl, rfl⟩)
    | (go_at_call 30; refine (Consumed_any _ _ _).mono ?_; rintro e w' ⟨rfl, rfl⟩)
    | (go_at_call 31; refine (rConsumed_any _ _ _).mono ?_; rintro e w' ⟨rfl, rfl⟩)
    | (go_at_call 32; refine (Recover_any _ _ HA.out.recs).mono ?_; rintro e w' ⟨rfl, rfl⟩)
    | (go_at_call 33; refine (rRecover_any _ _).mono ?_; rintro e w' ⟨rfl, rfl⟩)
    | (go_at_call 34; refine (awake_any _ HA.out.fit HA.out.mark HA.out.view).mono ?_; rintro e w' ⟨rfl, q, hw⟩; have HA2 := Lib.hid (show TabsAt w' by rw [hw]; exact HA.out.drew q); have HB2 := Lib.hid (show Below w.heap.size w w' by rw [hw]; exact below_drewN HB.out q); clear hw HA HB; have HA := HA2; have HB := HB2; clear HA2 HB2))
  go_ret
  exact ⟨rfl, HB.out⟩

end Cp
end Go.Proofs.YtgdfoonflkddnaaDoor
