/- CapViews: the walk. -/
import Derived.Test.YtgdfoonflkddnaaDoorD1
namespace Go.Proofs.YtgdfoonflkddnaaDoor
open Go.ChangeShapes Go.WideShapes Go.ChangeAt Go.RowKit
namespace Cp

set_option maxHeartbeats 1000000 in
theorem views_walk (a b m : Int) (w : World) (hF : TabAt 2 fitL w) (hM : TabAt 3 markL w) (hV : TabAt 5 viewL w) (hST : TabAt 6 storL w) (hLO : TabAt 7 besL w) (hGL : TabAt 8 elsL w) :
    Calls Tryd.prog 4 #[.int .i64 a, .int .i64 b, .int .i64 m] w fun e w' => e = .returned (.bool true) ∧ ∃ q, w' = w.drewN q := by
  have F := Lib.hid hF
  have M := Lib.hid hM
  have V := Lib.hid hV
  have ST := Lib.hid hST
  have LO := Lib.hid hLO
  have GL := Lib.hid hGL
  clear hF hM hV hST hLO hGL
  go_enter Tryd.func4, Tryd.ntmps4
  go_wp2_with (first
    | (go_at_call 35; refine (View_any _ _ _ (by first | exact V.out | exact V.out.drew _)).mono ?_; rintro e w' ⟨rfl, rfl⟩)
    | (go_at_call 36; refine (rView_any _ _ _).mono ?_; rintro e w' ⟨rfl, rfl⟩)
    | (go_at_call 37; refine (Extract_any _ _ _ (by first | exact V.out | exact V.out.drew _)).mono ?_; rintro e w' ⟨rfl, rfl⟩)
    | (go_at_call 38; refine (rExtract_any _ _ _).mono ?_; rintro e w' ⟨rfl, rfl⟩)
    | (go_at_call 39; refine (Store_any _ _ _ _ (by first | exact ST.out | exact ST.out.drew _)).mono ?_; rintro e w' ⟨rfl, q, rfl⟩)
    | (go_at_call 40; refine (rStore_any _ _ _ _).mono ?_; rintro e w' ⟨rfl, rfl⟩)
    | (go_at_call 41; refine (Local_any _ _ _ (by first | exact LO.out | exact LO.out.drew _)).mono ?_; rintro e w' ⟨rfl, rfl⟩)
    | (go_at_call 42; refine (rLocal_any _ _ _).mono ?_; rintro e w' ⟨rfl, rfl⟩)
    | (go_at_call 43; refine (Global_any _ _ _ (by first | exact GL.out | exact GL.out.drew _)).mono ?_; rintro e w' ⟨rfl, rfl⟩)
    | (go_at_call 44; refine (rGlobal_any _ _ _).mono ?_; rintro e w' ⟨rfl, rfl⟩)
    | (go_at_call 34; refine (awake_any _ (by first | exact F.out | exact F.out.drew _) (by first | exact M.out | exact M.out.drew _) (by first | exact V.out | exact V.out.drew _)).mono ?_; rintro e w' ⟨rfl, q, rfl⟩))
  go_ret
  exact ⟨rfl, _, rfl⟩

end Cp
end Go.Proofs.YtgdfoonflkddnaaDoor
