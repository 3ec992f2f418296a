/- The law's own examples hold. -/
import Derived.Test.YtgdfoonflkddnaaDoorA4
namespace Go.Proofs.YtgdfoonflkddnaaDoor
open Go.ChangeShapes Go.WideShapes Go.ChangeAt Go.RowKit
namespace Cp

theorem Fits_is (a m b o : Int) (r : Bool) (h : fitsB a m b o = r) (w : World) (hF : TabAt 2 fitL w) (hM : TabAt 3 markL w) :
    Calls Tryd.prog 26 #[.int .i64 a, .int .i64 m, .int .i64 b, .int .i64 o] w fun e w' => e = .returned (.bool r) ∧ ∃ n, w' = w.drewN n := by
  subst h
  exact Fits_any a m b o w hF hM

theorem View_is (o f : Int) (x : Int) (r : Bool) (hx : viewI o f = x) (h : viewB o f = r) (w : World) (hV : TabAt 5 viewL w) :
    Calls Tryd.prog 35 #[.int .i64 o, .int .i64 f] w fun e w' => e = .returned (.tuple #[.int .i64 x, .bool r]) ∧ w = w' := by
  subst h hx
  exact View_any o f w hV

set_option maxHeartbeats 1000000 in
theorem awake_any (w : World) (hF : TabAt 2 fitL w) (hM : TabAt 3 markL w) (hV : TabAt 5 viewL w) :
    Calls Tryd.prog 34 #[] w fun e w' => e = .returned (.bool true) ∧ ∃ n, w' = w.drewN n := by
  have F := Lib.hid hF
  have M := Lib.hid hM
  have V := Lib.hid hV
  clear hF hM hV
  go_enter Tryd.func34, Tryd.ntmps34
  go_wp2_with fail
  refine (View_is 1 3 6 true (by decide) (by decide) _ V.out).mono ?_; rintro e w' ⟨rfl, rfl⟩
  go_wp2_with fail
  refine (View_is 4 3 4 true (by decide) (by decide) _ V.out).mono ?_; rintro e w' ⟨rfl, rfl⟩
  go_wp2_with fail
  refine (Alias_any 1 0 _).mono ?_; rintro e w' ⟨rfl, rfl⟩
  rw [show aliC 1 0 = 1 from by decide, show aliM 1 0 = 2 from by decide]
  go_wp2_with fail
  refine (Extract_any 3 1 _ V.out).mono ?_; rintro e w' ⟨rfl, rfl⟩
  rw [show exI 3 1 = 1 from by decide, show exM 3 1 = 1 from by decide, show exB 3 1 = true from by decide]
  go_wp2_with fail
  refine (Fits_is 1 2 6 0 true (by decide) _ F.out M.out).mono ?_; rintro e w' ⟨rfl, n, rfl⟩
  go_wp2_with fail
  refine (Fits_is 1 2 5 0 false (by decide) _ (F.out.drew _) (M.out.drew _)).mono ?_; rintro e w' ⟨rfl, n', rfl⟩
  go_wp2
  go_ret
  exact ⟨rfl, _, rfl⟩

end Cp
end Go.Proofs.YtgdfoonflkddnaaDoor
