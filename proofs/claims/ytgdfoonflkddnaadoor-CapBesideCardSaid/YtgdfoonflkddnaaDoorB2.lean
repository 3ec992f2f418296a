/- CapBeside: facts over the finite tables, and the walk. -/
import Derived.Test.YtgdfoonflkddnaaDoorB1
namespace Go.Proofs.YtgdfoonflkddnaaDoor
open Go.ChangeShapes Go.WideShapes Go.ChangeAt Go.RowKit
namespace Cp

theorem local_sym : ∀ x ∈ six, ∀ y ∈ six, localB y x = localB x y := by decide +kernel
theorem global_sym : ∀ x ∈ six, ∀ y ∈ six, globalB y x = globalB x y := by decide +kernel
theorem global_local : ∀ x ∈ six, ∀ y ∈ six, globalB x y = true → localB x y = true ∧ (writesB x = true → readsB y = false) := by decide +kernel
theorem alias_local : ∀ x ∈ six, ∀ y ∈ six, fitsB (aliC x 0) (aliM x 0) y 0 = true → localB x y = true := by decide +kernel
theorem sub_global : ∀ x ∈ six, ∀ y ∈ six, ∀ z ∈ six, fitsB x 1 y 0 = true → sendB y = true → localB x z = true → globalB y z = true := by decide +kernel

set_option maxHeartbeats 1000000 in
theorem beside_L1Ffa (a b c x y z : Int) (w : World) (ha : 0 ≤ a ∧ a ≤ 255) (hb : 0 ≤ b ∧ b ≤ 255) (hc : 0 ≤ c ∧ c ≤ 255)
    (hx : 1 + a % 6 = x) (hy : 1 + b % 6 = y) (hz : 1 + c % 6 = z)
    (hF : TabAt 2 fitL w) (hM : TabAt 3 markL w) (hV : TabAt 5 viewL w) (hLO : TabAt 7 besL w) (hGL : TabAt 8 elsL w)
    (e0 : localB x y = false) (e1 : localB y x = false) (e2 : globalB x y = false) (e3 : globalB y x = false) (e4 : fitsB (aliC x 0) (aliM x 0) y 0 = false) (e5 : fitsB x 1 y 0 = false) :
    Calls Tryd.prog 7 #[.int .u8 a, .int .u8 b, .int .u8 c] w fun e w' => e = .returned (.bool true) ∧ ∃ q, w' = w.drewN q := by
  have F := Lib.hid hF
  have M := Lib.hid hM
  have V := Lib.hid hV
  have LO := Lib.hid hLO
  have GL := Lib.hid hGL
  have A := Lib.hid ha
  have B := Lib.hid hb
  have C := Lib.hid hc
  have HX := Lib.hid hx
  have HY := Lib.hid hy
  have HZ := Lib.hid hz
  clear hF hM hV hLO hGL ha hb hc hx hy hz
  go_enter Tryd.func7, Tryd.ntmps7
  go_wp2_with (first
        | (go_at_call 45; first | ((with_reducible refine (one_is a x HX.out _ A.out.1 A.out.2).mono ?_); rintro e w' ⟨rfl, rfl⟩) | ((with_reducible refine (one_is b y HY.out _ B.out.1 B.out.2).mono ?_); rintro e w' ⟨rfl, rfl⟩) | ((with_reducible refine (one_is c z HZ.out _ C.out.1 C.out.2).mono ?_); rintro e w' ⟨rfl, rfl⟩))
        | (go_at_call 26; refine (Fits_any _ _ _ _ _ (by first | exact F.out | exact F.out.drew _) (by first | exact M.out | exact M.out.drew _)).mono ?_; rintro e w' ⟨rfl, q, rfl⟩)
        | (go_at_call 24; refine (Sub_any _ _ _ (by first | exact F.out | exact F.out.drew _) (by first | exact M.out | exact M.out.drew _)).mono ?_; rintro e w' ⟨rfl, q, rfl⟩)
        | (go_at_call 18; refine (Reads_any _ _).mono ?_; rintro e w' ⟨rfl, rfl⟩)
        | (go_at_call 20; refine (Writes_any _ _).mono ?_; rintro e w' ⟨rfl, rfl⟩)
        | (go_at_call 22; refine (Sendable_any _ _).mono ?_; rintro e w' ⟨rfl, rfl⟩)
        | (go_at_call 41; refine (Local_any _ _ _ (by first | exact LO.out | exact LO.out.drew _)).mono ?_; rintro e w' ⟨rfl, rfl⟩)
        | (go_at_call 43; refine (Global_any _ _ _ (by first | exact GL.out | exact GL.out.drew _)).mono ?_; rintro e w' ⟨rfl, rfl⟩)
        | (go_at_call 28; refine (Alias_any _ _ _).mono ?_; rintro e w' ⟨rfl, rfl⟩)
        | (go_at_call 34; refine (awake_any _ (by first | exact F.out | exact F.out.drew _) (by first | exact M.out | exact M.out.drew _) (by first | exact V.out | exact V.out.drew _)).mono ?_; rintro e w' ⟨rfl, q, rfl⟩))
  go_ret
  exact ⟨rfl, _, rfl⟩

set_option maxHeartbeats 1000000 in
theorem beside_L1Ffb (a b c x y z : Int) (w : World) (ha : 0 ≤ a ∧ a ≤ 255) (hb : 0 ≤ b ∧ b ≤ 255) (hc : 0 ≤ c ∧ c ≤ 255)
    (hx : 1 + a % 6 = x) (hy : 1 + b % 6 = y) (hz : 1 + c % 6 = z)
    (hF : TabAt 2 fitL w) (hM : TabAt 3 markL w) (hV : TabAt 5 viewL w) (hLO : TabAt 7 besL w) (hGL : TabAt 8 elsL w)
    (e0 : localB x y = false) (e1 : localB y x = false) (e2 : globalB x y = false) (e3 : globalB y x = false) (e4 : fitsB (aliC x 0) (aliM x 0) y 0 = false) (e5 : fitsB x 1 y 0 = true) (e6 : sendB y = false) :
    Calls Tryd.prog 7 #[.int .u8 a, .int .u8 b, .int .u8 c] w fun e w' => e = .returned (.bool true) ∧ ∃ q, w' = w.drewN q := by
  have F := Lib.hid hF
  have M := Lib.hid hM
  have V := Lib.hid hV
  have LO := Lib.hid hLO
  have GL := Lib.hid hGL
  have A := Lib.hid ha
  have B := Lib.hid hb
  have C := Lib.hid hc
  have HX := Lib.hid hx
  have HY := Lib.hid hy
  have HZ := Lib.hid hz
  clear hF hM hV hLO hGL ha hb hc hx hy hz
  go_enter Tryd.func7, Tryd.ntmps7
  go_wp2_with (first
        | (go_at_call 45; first | ((with_reducible refine (one_is a x HX.out _ A.out.1 A.out.2).mono ?_); rintro e w' ⟨rfl, rfl⟩) | ((with_reducible refine (one_is b y HY.out _ B.out.1 B.out.2).mono ?_); rintro e w' ⟨rfl, rfl⟩) | ((with_reducible refine (one_is c z HZ.out _ C.out.1 C.out.2).mono ?_); rintro e w' ⟨rfl, rfl⟩))
        | (go_at_call 26; refine (Fits_any _ _ _ _ _ (by first | exact F.out | exact F.out.drew _) (by first | exact M.out | exact M.out.drew _)).mono ?_; rintro e w' ⟨rfl, q, rfl⟩)
        | (go_at_call 24; refine (Sub_any _ _ _ (by first | exact F.out | exact F.out.drew _) (by first | exact M.out | exact M.out.drew _)).mono ?_; rintro e w' ⟨rfl, q, rfl⟩)
        | (go_at_call 18; refine (Reads_any _ _).mono ?_; rintro e w' ⟨rfl, rfl⟩)
        | (go_at_call 20; refine (Writes_any _ _).mono ?_; rintro e w' ⟨rfl, rfl⟩)
        | (go_at_call 22; refine (Sendable_any _ _).mono ?_; rintro e w' ⟨rfl, rfl⟩)
        | (go_at_call 41; refine (Local_any _ _ _ (by first | exact LO.out | exact LO.out.drew _)).mono ?_; rintro e w' ⟨rfl, rfl⟩)
        | (go_at_call 43; refine (Global_any _ _ _ (by first | exact GL.out | exact GL.out.drew _)).mono ?_; rintro e w' ⟨rfl, rfl⟩)
        | (go_at_call 28; refine (Alias_any _ _ _).mono ?_; rintro e w' ⟨rfl, rfl⟩)
        | (go_at_call 34; refine (awake_any _ (by first | exact F.out | exact F.out.drew _) (by first | exact M.out | exact M.out.drew _) (by first | exact V.out | exact V.out.drew _)).mono ?_; rintro e w' ⟨rfl, q, rfl⟩))
  go_ret
  exact ⟨rfl, _, rfl⟩

set_option maxHeartbeats 1000000 in
theorem beside_L1Ffc (a b c x y z : Int) (w : World) (ha : 0 ≤ a ∧ a ≤ 255) (hb : 0 ≤ b ∧ b ≤ 255) (hc : 0 ≤ c ∧ c ≤ 255)
    (hx : 1 + a % 6 = x) (hy : 1 + b % 6 = y) (hz : 1 + c % 6 = z)
    (hF : TabAt 2 fitL w) (hM : TabAt 3 markL w) (hV : TabAt 5 viewL w) (hLO : TabAt 7 besL w) (hGL : TabAt 8 elsL w)
    (e0 : localB x y = false) (e1 : localB y x = false) (e2 : globalB x y = false) (e3 : globalB y x = false) (e4 : fitsB (aliC x 0) (aliM x 0) y 0 = false) (e5 : fitsB x 1 y 0 = true) (e6 : sendB y = true) (e7 : localB x z = false) :
    Calls Tryd.prog 7 #[.int .u8 a, .int .u8 b, .int .u8 c] w fun e w' => e = .returned (.bool true) ∧ ∃ q, w' = w.drewN q := by
  have F := Lib.hid hF
  have M := Lib.hid hM
  have V := Lib.hid hV
  have LO := Lib.hid hLO
  have GL := Lib.hid hGL
  have A := Lib.hid ha
  have B := Lib.hid hb
  have C := Lib.hid hc
  have HX := Lib.hid hx
  have HY := Lib.hid hy
  have HZ := Lib.hid hz
  clear hF hM hV hLO hGL ha hb hc hx hy hz
  go_enter Tryd.func7, Tryd.ntmps7
  go_wp2_with (first
        | (go_at_call 45; first | ((with_reducible refine (one_is a x HX.out _ A.out.1 A.out.2).mono ?_); rintro e w' ⟨rfl, rfl⟩) | ((with_reducible refine (one_is b y HY.out _ B.out.1 B.out.2).mono ?_); rintro e w' ⟨rfl, rfl⟩) | ((with_reducible refine (one_is c z HZ.out _ C.out.1 C.out.2).mono ?_); rintro e w' ⟨rfl, rfl⟩))
        | (go_at_call 26; refine (Fits_any _ _ _ _ _ (by first | exact F.out | exact F.out.drew _) (by first | exact M.out | exact M.out.drew _)).mono ?_; rintro e w' ⟨rfl, q, rfl⟩)
        | (go_at_call 24; refine (Sub_any _ _ _ (by first | exact F.out | exact F.out.drew _) (by first | exact M.out | exact M.out.drew _)).mono ?_; rintro e w' ⟨rfl, q, rfl⟩)
        | (go_at_call 18; refine (Reads_any _ _).mono ?_; rintro e w' ⟨rfl, rfl⟩)
        | (go_at_call 20; refine (Writes_any _ _).mono ?_; rintro e w' ⟨rfl, rfl⟩)
        | (go_at_call 22; refine (Sendable_any _ _).mono ?_; rintro e w' ⟨rfl, rfl⟩)
        | (go_at_call 41; refine (Local_any _ _ _ (by first | exact LO.out | exact LO.out.drew _)).mono ?_; rintro e w' ⟨rfl, rfl⟩)
        | (go_at_call 43; refine (Global_any _ _ _ (by first | exact GL.out | exact GL.out.drew _)).mono ?_; rintro e w' ⟨rfl, rfl⟩)
        | (go_at_call 28; refine (Alias_any _ _ _).mono ?_; rintro e w' ⟨rfl, rfl⟩)
        | (go_at_call 34; refine (awake_any _ (by first | exact F.out | exact F.out.drew _) (by first | exact M.out | exact M.out.drew _) (by first | exact V.out | exact V.out.drew _)).mono ?_; rintro e w' ⟨rfl, q, rfl⟩))
  go_ret
  exact ⟨rfl, _, rfl⟩

set_option maxHeartbeats 1000000 in
theorem beside_L1Ffd (a b c x y z : Int) (w : World) (ha : 0 ≤ a ∧ a ≤ 255) (hb : 0 ≤ b ∧ b ≤ 255) (hc : 0 ≤ c ∧ c ≤ 255)
    (hx : 1 + a % 6 = x) (hy : 1 + b % 6 = y) (hz : 1 + c % 6 = z)
    (hF : TabAt 2 fitL w) (hM : TabAt 3 markL w) (hV : TabAt 5 viewL w) (hLO : TabAt 7 besL w) (hGL : TabAt 8 elsL w)
    (e0 : localB x y = false) (e1 : localB y x = false) (e2 : globalB x y = false) (e3 : globalB y x = false) (e4 : fitsB (aliC x 0) (aliM x 0) y 0 = false) (e5 : fitsB x 1 y 0 = true) (e6 : sendB y = true) (e7 : localB x z = true) (e8 : globalB y z = true) :
    Calls Tryd.prog 7 #[.int .u8 a, .int .u8 b, .int .u8 c] w fun e w' => e = .returned (.bool true) ∧ ∃ q, w' = w.drewN q := by
  have F := Lib.hid hF
  have M := Lib.hid hM
  have V := Lib.hid hV
  have LO := Lib.hid hLO
  have GL := Lib.hid hGL
  have A := Lib.hid ha
  have B := Lib.hid hb
  have C := Lib.hid hc
  have HX := Lib.hid hx
  have HY := Lib.hid hy
  have HZ := Lib.hid hz
  clear hF hM hV hLO hGL ha hb hc hx hy hz
  go_enter Tryd.func7, Tryd.ntmps7
  go_wp2_with (first
        | (go_at_call 45; first | ((with_reducible refine (one_is a x HX.out _ A.out.1 A.out.2).mono ?_); rintro e w' ⟨rfl, rfl⟩) | ((with_reducible refine (one_is b y HY.out _ B.out.1 B.out.2).mono ?_); rintro e w' ⟨rfl, rfl⟩) | ((with_reducible refine (one_is c z HZ.out _ C.out.1 C.out.2).mono ?_); rintro e w' ⟨rfl, rfl⟩))
        | (go_at_call 26; refine (Fits_any _ _ _ _ _ (by first | exact F.out | exact F.out.drew _) (by first | exact M.out | exact M.out.drew _)).mono ?_; rintro e w' ⟨rfl, q, rfl⟩)
        | (go_at_call 24; refine (Sub_any _ _ _ (by first | exact F.out | exact F.out.drew _) (by first | exact M.out | exact M.out.drew _)).mono ?_; rintro e w' ⟨rfl, q, rfl⟩)
        | (go_at_call 18; refine (Reads_any _ _).mono ?_; rintro e w' ⟨rfl, rfl⟩)
        | (go_at_call 20; refine (Writes_any _ _).mono ?_; rintro e w' ⟨rfl, rfl⟩)
        | (go_at_call 22; refine (Sendable_any _ _).mono ?_; rintro e w' ⟨rfl, rfl⟩)
        | (go_at_call 41; refine (Local_any _ _ _ (by first | exact LO.out | exact LO.out.drew _)).mono ?_; rintro e w' ⟨rfl, rfl⟩)
        | (go_at_call 43; refine (Global_any _ _ _ (by first | exact GL.out | exact GL.out.drew _)).mono ?_; rintro e w' ⟨rfl, rfl⟩)
        | (go_at_call 28; refine (Alias_any _ _ _).mono ?_; rintro e w' ⟨rfl, rfl⟩)
        | (go_at_call 34; refine (awake_any _ (by first | exact F.out | exact F.out.drew _) (by first | exact M.out | exact M.out.drew _) (by first | exact V.out | exact V.out.drew _)).mono ?_; rintro e w' ⟨rfl, q, rfl⟩))
  go_ret
  exact ⟨rfl, _, rfl⟩

set_option maxHeartbeats 1000000 in
theorem beside_L1Tfa (a b c x y z : Int) (w : World) (ha : 0 ≤ a ∧ a ≤ 255) (hb : 0 ≤ b ∧ b ≤ 255) (hc : 0 ≤ c ∧ c ≤ 255)
    (hx : 1 + a % 6 = x) (hy : 1 + b % 6 = y) (hz : 1 + c % 6 = z)
    (hF : TabAt 2 fitL w) (hM : TabAt 3 markL w) (hV : TabAt 5 viewL w) (hLO : TabAt 7 besL w) (hGL : TabAt 8 elsL w)
    (e0 : localB x y = true) (e1 : localB y x = true) (e2 : globalB x y = false) (e3 : globalB y x = false) (e4 : fitsB (aliC x 0) (aliM x 0) y 0 = false) (e5 : fitsB x 1 y 0 = false) :
    Calls Tryd.prog 7 #[.int .u8 a, .int .u8 b, .int .u8 c] w fun e w' => e = .returned (.bool true) ∧ ∃ q, w' = w.drewN q := by
  have F := Lib.hid hF
  have M := Lib.hid hM
  have V := Lib.hid hV
  have LO := Lib.hid hLO
  have GL := Lib.hid hGL
  have A := Lib.hid ha
  have B := Lib.hid hb
  have C := Lib.hid hc
  have HX := Lib.hid hx
  have HY := Lib.hid hy
  have HZ := Lib.hid hz
  clear hF hM hV hLO hGL ha hb hc hx hy hz
  go_enter Tryd.func7, Tryd.ntmps7
  go_wp2_with (first
        | (go_at_call 45; first | ((with_reducible refine (one_is a x HX.out _ A.out.1 A.out.2).mono ?_); rintro e w' ⟨rfl, rfl⟩) | ((with_reducible refine (one_is b y HY.out _ B.out.1 B.out.2).mono ?_); rintro e w' ⟨rfl, rfl⟩) | ((with_reducible refine (one_is c z HZ.out _ C.out.1 C.out.2).mono ?_); rintro e w' ⟨rfl, rfl⟩))
        | (go_at_call 26; refine (Fits_any _ _ _ _ _ (by first | exact F.out | exact F.out.drew _) (by first | exact M.out | exact M.out.drew _)).mono ?_; rintro e w' ⟨rfl, q, rfl⟩)
        | (go_at_call 24; refine (Sub_any _ _ _ (by first | exact F.out | exact F.out.drew _) (by first | exact M.out | exact M.out.drew _)).mono ?_; rintro e w' ⟨rfl, q, rfl⟩)
        | (go_at_call 18; refine (Reads_any _ _).mono ?_; rintro e w' ⟨rfl, rfl⟩)
        | (go_at_call 20; refine (Writes_any _ _).mono ?_; rintro e w' ⟨rfl, rfl⟩)
        | (go_at_call 22; refine (Sendable_any _ _).mono ?_; rintro e w' ⟨rfl, rfl⟩)
        | (go_at_call 41; refine (Local_any _ _ _ (by first | exact LO.out | exact LO.out.drew _)).mono ?_; rintro e w' ⟨rfl, rfl⟩)
        | (go_at_call 43; refine (Global_any _ _ _ (by first | exact GL.out | exact GL.out.drew _)).mono ?_; rintro e w' ⟨rfl, rfl⟩)
        | (go_at_call 28; refine (Alias_any _ _ _).mono ?_; rintro e w' ⟨rfl, rfl⟩)
        | (go_at_call 34; refine (awake_any _ (by first | exact F.out | exact F.out.drew _) (by first | exact M.out | exact M.out.drew _) (by first | exact V.out | exact V.out.drew _)).mono ?_; rintro e w' ⟨rfl, q, rfl⟩))
  go_ret
  exact ⟨rfl, _, rfl⟩

set_option maxHeartbeats 1000000 in
theorem beside_L1Tfb (a b c x y z : Int) (w : World) (ha : 0 ≤ a ∧ a ≤ 255) (hb : 0 ≤ b ∧ b ≤ 255) (hc : 0 ≤ c ∧ c ≤ 255)
    (hx : 1 + a % 6 = x) (hy : 1 + b % 6 = y) (hz : 1 + c % 6 = z)
    (hF : TabAt 2 fitL w) (hM : TabAt 3 markL w) (hV : TabAt 5 viewL w) (hLO : TabAt 7 besL w) (hGL : TabAt 8 elsL w)
    (e0 : localB x y = true) (e1 : localB y x = true) (e2 : globalB x y = false) (e3 : globalB y x = false) (e4 : fitsB (aliC x 0) (aliM x 0) y 0 = false) (e5 : fitsB x 1 y 0 = true) (e6 : sendB y = false) :
    Calls Tryd.prog 7 #[.int .u8 a, .int .u8 b, .int .u8 c] w fun e w' => e = .returned (.bool true) ∧ ∃ q, w' = w.drewN q := by
  have F := Lib.hid hF
  have M := Lib.hid hM
  have V := Lib.hid hV
  have LO := Lib.hid hLO
  have GL := Lib.hid hGL
  have A := Lib.hid ha
  have B := Lib.hid hb
  have C := Lib.hid hc
  have HX := Lib.hid hx
  have HY := Lib.hid hy
  have HZ := Lib.hid hz
  clear hF hM hV hLO hGL ha hb hc hx hy hz
  go_enter Tryd.func7, Tryd.ntmps7
  go_wp2_with (first
        | (go_at_call 45; first | ((with_reducible refine (one_is a x HX.out _ A.out.1 A.out.2).mono ?_); rintro e w' ⟨rfl, rfl⟩) | ((with_reducible refine (one_is b y HY.out _ B.out.1 B.out.2).mono ?_); rintro e w' ⟨rfl, rfl⟩) | ((with_reducible refine (one_is c z HZ.out _ C.out.1 C.out.2).mono ?_); rintro e w' ⟨rfl, rfl⟩))
        | (go_at_call 26; refine (Fits_any _ _ _ _ _ (by first | exact F.out | exact F.out.drew _) (by first | exact M.out | exact M.out.drew _)).mono ?_; rintro e w' ⟨rfl, q, rfl⟩)
        | (go_at_call 24; refine (Sub_any _ _ _ (by first | exact F.out | exact F.out.drew _) (by first | exact M.out | exact M.out.drew _)).mono ?_; rintro e w' ⟨rfl, q, rfl⟩)
        | (go_at_call 18; refine (Reads_any _ _).mono ?_; rintro e w' ⟨rfl, rfl⟩)
        | (go_at_call 20; refine (Writes_any _ _).mono ?_; rintro e w' ⟨rfl, rfl⟩)
        | (go_at_call 22; refine (Sendable_any _ _).mono ?_; rintro e w' ⟨rfl, rfl⟩)
        | (go_at_call 41; refine (Local_any _ _ _ (by first | exact LO.out | exact LO.out.drew _)).mono ?_; rintro e w' ⟨rfl, rfl⟩)
        | (go_at_call 43; refine (Global_any _ _ _ (by first | exact GL.out | exact GL.out.drew _)).mono ?_; rintro e w' ⟨rfl, rfl⟩)
        | (go_at_call 28; refine (Alias_any _ _ _).mono ?_; rintro e w' ⟨rfl, rfl⟩)
        | (go_at_call 34; refine (awake_any _ (by first | exact F.out | exact F.out.drew _) (by first | exact M.out | exact M.out.drew _) (by first | exact V.out | exact V.out.drew _)).mono ?_; rintro e w' ⟨rfl, q, rfl⟩))
  go_ret
  exact ⟨rfl, _, rfl⟩

set_option maxHeartbeats 1000000 in
theorem beside_L1Tfc (a b c x y z : Int) (w : World) (ha : 0 ≤ a ∧ a ≤ 255) (hb : 0 ≤ b ∧ b ≤ 255) (hc : 0 ≤ c ∧ c ≤ 255)
    (hx : 1 + a % 6 = x) (hy : 1 + b % 6 = y) (hz : 1 + c % 6 = z)
    (hF : TabAt 2 fitL w) (hM : TabAt 3 markL w) (hV : TabAt 5 viewL w) (hLO : TabAt 7 besL w) (hGL : TabAt 8 elsL w)
    (e0 : localB x y = true) (e1 : localB y x = true) (e2 : globalB x y = false) (e3 : globalB y x = false) (e4 : fitsB (aliC x 0) (aliM x 0) y 0 = false) (e5 : fitsB x 1 y 0 = true) (e6 : sendB y = true) (e7 : localB x z = false) :
    Calls Tryd.prog 7 #[.int .u8 a, .int .u8 b, .int .u8 c] w fun e w' => e = .returned (.bool true) ∧ ∃ q, w' = w.drewN q := by
  have F := Lib.hid hF
  have M := Lib.hid hM
  have V := Lib.hid hV
  have LO := Lib.hid hLO
  have GL := Lib.hid hGL
  have A := Lib.hid ha
  have B := Lib.hid hb
  have C := Lib.hid hc
  have HX := Lib.hid hx
  have HY := Lib.hid hy
  have HZ := Lib.hid hz
  clear hF hM hV hLO hGL ha hb hc hx hy hz
  go_enter Tryd.func7, Tryd.ntmps7
  go_wp2_with (first
        | (go_at_call 45; first | ((with_reducible refine (one_is a x HX.out _ A.out.1 A.out.2).mono ?_); rintro e w' ⟨rfl, rfl⟩) | ((with_reducible refine (one_is b y HY.out _ B.out.1 B.out.2).mono ?_); rintro e w' ⟨rfl, rfl⟩) | ((with_reducible refine (one_is c z HZ.out _ C.out.1 C.out.2).mono ?_); rintro e w' ⟨rfl, rfl⟩))
        | (go_at_call 26; refine (Fits_any _ _ _ _ _ (by first | exact F.out | exact F.out.drew _) (by first | exact M.out | exact M.out.drew _)).mono ?_; rintro e w' ⟨rfl, q, rfl⟩)
        | (go_at_call 24; refine (Sub_any _ _ _ (by first | exact F.out | exact F.out.drew _) (by first | exact M.out | exact M.out.drew _)).mono ?_; rintro e w' ⟨rfl, q, rfl⟩)
        | (go_at_call 18; refine (Reads_any _ _).mono ?_; rintro e w' ⟨rfl, rfl⟩)
        | (go_at_call 20; refine (Writes_any _ _).mono ?_; rintro e w' ⟨rfl, rfl⟩)
        | (go_at_call 22; refine (Sendable_any _ _).mono ?_; rintro e w' ⟨rfl, rfl⟩)
        | (go_at_call 41; refine (Local_any _ _ _ (by first | exact LO.out | exact LO.out.drew _)).mono ?_; rintro e w' ⟨rfl, rfl⟩)
        | (go_at_call 43; refine (Global_any _ _ _ (by first | exact GL.out | exact GL.out.drew _)).mono ?_; rintro e w' ⟨rfl, rfl⟩)
        | (go_at_call 28; refine (Alias_any _ _ _).mono ?_; rintro e w' ⟨rfl, rfl⟩)
        | (go_at_call 34; refine (awake_any _ (by first | exact F.out | exact F.out.drew _) (by first | exact M.out | exact M.out.drew _) (by first | exact V.out | exact V.out.drew _)).mono ?_; rintro e w' ⟨rfl, q, rfl⟩))
  go_ret
  exact ⟨rfl, _, rfl⟩

set_option maxHeartbeats 1000000 in
theorem beside_L1Tfd (a b c x y z : Int) (w : World) (ha : 0 ≤ a ∧ a ≤ 255) (hb : 0 ≤ b ∧ b ≤ 255) (hc : 0 ≤ c ∧ c ≤ 255)
    (hx : 1 + a % 6 = x) (hy : 1 + b % 6 = y) (hz : 1 + c % 6 = z)
    (hF : TabAt 2 fitL w) (hM : TabAt 3 markL w) (hV : TabAt 5 viewL w) (hLO : TabAt 7 besL w) (hGL : TabAt 8 elsL w)
    (e0 : localB x y = true) (e1 : localB y x = true) (e2 : globalB x y = false) (e3 : globalB y x = false) (e4 : fitsB (aliC x 0) (aliM x 0) y 0 = false) (e5 : fitsB x 1 y 0 = true) (e6 : sendB y = true) (e7 : localB x z = true) (e8 : globalB y z = true) :
    Calls Tryd.prog 7 #[.int .u8 a, .int .u8 b, .int .u8 c] w fun e w' => e = .returned (.bool true) ∧ ∃ q, w' = w.drewN q := by
  have F := Lib.hid hF
  have M := Lib.hid hM
  have V := Lib.hid hV
  have LO := Lib.hid hLO
  have GL := Lib.hid hGL
  have A := Lib.hid ha
  have B := Lib.hid hb
  have C := Lib.hid hc
  have HX := Lib.hid hx
  have HY := Lib.hid hy
  have HZ := Lib.hid hz
  clear hF hM hV hLO hGL ha hb hc hx hy hz
  go_enter Tryd.func7, Tryd.ntmps7
  go_wp2_with (first
        | (go_at_call 45; first | ((with_reducible refine (one_is a x HX.out _ A.out.1 A.out.2).mono ?_); rintro e w' ⟨rfl, rfl⟩) | ((with_reducible refine (one_is b y HY.out _ B.out.1 B.out.2).mono ?_); rintro e w' ⟨rfl, rfl⟩) | ((with_reducible refine (one_is c z HZ.out _ C.out.1 C.out.2).mono ?_); rintro e w' ⟨rfl, rfl⟩))
        | (go_at_call 26; refine (Fits_any _ _ _ _ _ (by first | exact F.out | exact F.out.drew _) (by first | exact M.out | exact M.out.drew _)).mono ?_; rintro e w' ⟨rfl, q, rfl⟩)
        | (go_at_call 24; refine (Sub_any _ _ _ (by first | exact F.out | exact F.out.drew _) (by first | exact M.out | exact M.out.drew _)).mono ?_; rintro e w' ⟨rfl, q, rfl⟩)
        | (go_at_call 18; refine (Reads_any _ _).mono ?_; rintro e w' ⟨rfl, rfl⟩)
        | (go_at_call 20; refine (Writes_any _ _).mono ?_; rintro e w' ⟨rfl, rfl⟩)
        | (go_at_call 22; refine (Sendable_any _ _).mono ?_; rintro e w' ⟨rfl, rfl⟩)
        | (go_at_call 41; refine (Local_any _ _ _ (by first | exact LO.out | exact LO.out.drew _)).mono ?_; rintro e w' ⟨rfl, rfl⟩)
        | (go_at_call 43; refine (Global_any _ _ _ (by first | exact GL.out | exact GL.out.drew _)).mono ?_; rintro e w' ⟨rfl, rfl⟩)
        | (go_at_call 28; refine (Alias_any _ _ _).mono ?_; rintro e w' ⟨rfl, rfl⟩)
        | (go_at_call 34; refine (awake_any _ (by first | exact F.out | exact F.out.drew _) (by first | exact M.out | exact M.out.drew _) (by first | exact V.out | exact V.out.drew _)).mono ?_; rintro e w' ⟨rfl, q, rfl⟩))
  go_ret
  exact ⟨rfl, _, rfl⟩

set_option maxHeartbeats 1000000 in
theorem beside_L1Tta (a b c x y z : Int) (w : World) (ha : 0 ≤ a ∧ a ≤ 255) (hb : 0 ≤ b ∧ b ≤ 255) (hc : 0 ≤ c ∧ c ≤ 255)
    (hx : 1 + a % 6 = x) (hy : 1 + b % 6 = y) (hz : 1 + c % 6 = z)
    (hF : TabAt 2 fitL w) (hM : TabAt 3 markL w) (hV : TabAt 5 viewL w) (hLO : TabAt 7 besL w) (hGL : TabAt 8 elsL w)
    (e0 : localB x y = true) (e1 : localB y x = true) (e2 : globalB x y = false) (e3 : globalB y x = false) (e4 : fitsB (aliC x 0) (aliM x 0) y 0 = true) (e5 : fitsB x 1 y 0 = false) :
    Calls Tryd.prog 7 #[.int .u8 a, .int .u8 b, .int .u8 c] w fun e w' => e = .returned (.bool true) ∧ ∃ q, w' = w.drewN q := by
  have F := Lib.hid hF
  have M := Lib.hid hM
  have V := Lib.hid hV
  have LO := Lib.hid hLO
  have GL := Lib.hid hGL
  have A := Lib.hid ha
  have B := Lib.hid hb
  have C := Lib.hid hc
  have HX := Lib.hid hx
  have HY := Lib.hid hy
  have HZ := Lib.hid hz
  clear hF hM hV hLO hGL ha hb hc hx hy hz
  go_enter Tryd.func7, Tryd.ntmps7
  go_wp2_with (first
        | (go_at_call 45; first | ((with_reducible refine (one_is a x HX.out _ A.out.1 A.out.2).mono ?_); rintro e w' ⟨rfl, rfl⟩) | ((with_reducible refine (one_is b y HY.out _ B.out.1 B.out.2).mono ?_); rintro e w' ⟨rfl, rfl⟩) | ((with_reducible refine (one_is c z HZ.out _ C.out.1 C.out.2).mono ?_); rintro e w' ⟨rfl, rfl⟩))
        | (go_at_call 26; refine (Fits_any _ _ _ _ _ (by first | exact F.out | exact F.out.drew _) (by first | exact M.out | exact M.out.drew _)).mono ?_; rintro e w' ⟨rfl, q, rfl⟩)
        | (go_at_call 24; refine (Sub_any _ _ _ (by first | exact F.out | exact F.out.drew _) (by first | exact M.out | exact M.out.drew _)).mono ?_; rintro e w' ⟨rfl, q, rfl⟩)
        | (go_at_call 18; refine (Reads_any _ _).mono ?_; rintro e w' ⟨rfl, rfl⟩)
        | (go_at_call 20; refine (Writes_any _ _).mono ?_; rintro e w' ⟨rfl, rfl⟩)
        | (go_at_call 22; refine (Sendable_any _ _).mono ?_; rintro e w' ⟨rfl, rfl⟩)
        | (go_at_call 41; refine (Local_any _ _ _ (by first | exact LO.out | exact LO.out.drew _)).mono ?_; rintro e w' ⟨rfl, rfl⟩)
        | (go_at_call 43; refine (Global_any _ _ _ (by first | exact GL.out | exact GL.out.drew _)).mono ?_; rintro e w' ⟨rfl, rfl⟩)
        | (go_at_call 28; refine (Alias_any _ _ _).mono ?_; rintro e w' ⟨rfl, rfl⟩)
        | (go_at_call 34; refine (awake_any _ (by first | exact F.out | exact F.out.drew _) (by first | exact M.out | exact M.out.drew _) (by first | exact V.out | exact V.out.drew _)).mono ?_; rintro e w' ⟨rfl, q, rfl⟩))
  go_ret
  exact ⟨rfl, _, rfl⟩

set_option maxHeartbeats 1000000 in
theorem beside_L1Ttb (a b c x y z : Int) (w : World) (ha : 0 ≤ a ∧ a ≤ 255) (hb : 0 ≤ b ∧ b ≤ 255) (hc : 0 ≤ c ∧ c ≤ 255)
    (hx : 1 + a % 6 = x) (hy : 1 + b % 6 = y) (hz : 1 + c % 6 = z)
    (hF : TabAt 2 fitL w) (hM : TabAt 3 markL w) (hV : TabAt 5 viewL w) (hLO : TabAt 7 besL w) (hGL : TabAt 8 elsL w)
    (e0 : localB x y = true) (e1 : localB y x = true) (e2 : globalB x y = false) (e3 : globalB y x = false) (e4 : fitsB (aliC x 0) (aliM x 0) y 0 = true) (e5 : fitsB x 1 y 0 = true) (e6 : sendB y = false) :
    Calls Tryd.prog 7 #[.int .u8 a, .int .u8 b, .int .u8 c] w fun e w' => e = .returned (.bool true) ∧ ∃ q, w' = w.drewN q := by
  have F := Lib.hid hF
  have M := Lib.hid hM
  have V := Lib.hid hV
  have LO := Lib.hid hLO
  have GL := Lib.hid hGL
  have A := Lib.hid ha
  have B := Lib.hid hb
  have C := Lib.hid hc
  have HX := Lib.hid hx
  have HY := Lib.hid hy
  have HZ := Lib.hid hz
  clear hF hM hV hLO hGL ha hb hc hx hy hz
  go_enter Tryd.func7, Tryd.ntmps7
  go_wp2_with (first
        | (go_at_call 45; first | ((with_reducible refine (one_is a x HX.out _ A.out.1 A.out.2).mono ?_); rintro e w' ⟨rfl, rfl⟩) | ((with_reducible refine (one_is b y HY.out _ B.out.1 B.out.2).mono ?_); rintro e w' ⟨rfl, rfl⟩) | ((with_reducible refine (one_is c z HZ.out _ C.out.1 C.out.2).mono ?_); rintro e w' ⟨rfl, rfl⟩))
        | (go_at_call 26; refine (Fits_any _ _ _ _ _ (by first | exact F.out | exact F.out.drew _) (by first | exact M.out | exact M.out.drew _)).mono ?_; rintro e w' ⟨rfl, q, rfl⟩)
        | (go_at_call 24; refine (Sub_any _ _ _ (by first | exact F.out | exact F.out.drew _) (by first | exact M.out | exact M.out.drew _)).mono ?_; rintro e w' ⟨rfl, q, rfl⟩)
        | (go_at_call 18; refine (Reads_any _ _).mono ?_; rintro e w' ⟨rfl, rfl⟩)
        | (go_at_call 20; refine (Writes_any _ _).mono ?_; rintro e w' ⟨rfl, rfl⟩)
        | (go_at_call 22; refine (Sendable_any _ _).mono ?_; rintro e w' ⟨rfl, rfl⟩)
        | (go_at_call 41; refine (Local_any _ _ _ (by first | exact LO.out | exact LO.out.drew _)).mono ?_; rintro e w' ⟨rfl, rfl⟩)
        | (go_at_call 43; refine (Global_any _ _ _ (by first | exact GL.out | exact GL.out.drew _)).mono ?_; rintro e w' ⟨rfl, rfl⟩)
        | (go_at_call 28; refine (Alias_any _ _ _).mono ?_; rintro e w' ⟨rfl, rfl⟩)
        | (go_at_call 34; refine (awake_any _ (by first | exact F.out | exact F.out.drew _) (by first | exact M.out | exact M.out.drew _) (by first | exact V.out | exact V.out.drew _)).mono ?_; rintro e w' ⟨rfl, q, rfl⟩))
  go_ret
  exact ⟨rfl, _, rfl⟩

set_option maxHeartbeats 1000000 in
theorem beside_L1Ttc (a b c x y z : Int) (w : World) (ha : 0 ≤ a ∧ a ≤ 255) (hb : 0 ≤ b ∧ b ≤ 255) (hc : 0 ≤ c ∧ c ≤ 255)
    (hx : 1 + a % 6 = x) (hy : 1 + b % 6 = y) (hz : 1 + c % 6 = z)
    (hF : TabAt 2 fitL w) (hM : TabAt 3 markL w) (hV : TabAt 5 viewL w) (hLO : TabAt 7 besL w) (hGL : TabAt 8 elsL w)
    (e0 : localB x y = true) (e1 : localB y x = true) (e2 : globalB x y = false) (e3 : globalB y x = false) (e4 : fitsB (aliC x 0) (aliM x 0) y 0 = true) (e5 : fitsB x 1 y 0 = true) (e6 : sendB y = true) (e7 : localB x z = false) :
    Calls Tryd.prog 7 #[.int .u8 a, .int .u8 b, .int .u8 c] w fun e w' => e = .returned (.bool true) ∧ ∃ q, w' = w.drewN q := by
  have F := Lib.hid hF
  have M := Lib.hid hM
  have V := Lib.hid hV
  have LO := Lib.hid hLO
  have GL := Lib.hid hGL
  have A := Lib.hid ha
  have B := Lib.hid hb
  have C := Lib.hid hc
  have HX := Lib.hid hx
  have HY := Lib.hid hy
  have HZ := Lib.hid hz
  clear hF hM hV hLO hGL ha hb hc hx hy hz
  go_enter Tryd.func7, Tryd.ntmps7
  go_wp2_with (first
        | (go_at_call 45; first | ((with_reducible refine (one_is a x HX.out _ A.out.1 A.out.2).mono ?_); rintro e w' ⟨rfl, rfl⟩) | ((with_reducible refine (one_is b y HY.out _ B.out.1 B.out.2).mono ?_); rintro e w' ⟨rfl, rfl⟩) | ((with_reducible refine (one_is c z HZ.out _ C.out.1 C.out.2).mono ?_); rintro e w' ⟨rfl, rfl⟩))
        | (go_at_call 26; refine (Fits_any _ _ _ _ _ (by first | exact F.out | exact F.out.drew _) (by first | exact M.out | exact M.out.drew _)).mono ?_; rintro e w' ⟨rfl, q, rfl⟩)
        | (go_at_call 24; refine (Sub_any _ _ _ (by first | exact F.out | exact F.out.drew _) (by first | exact M.out | exact M.out.drew _)).mono ?_; rintro e w' ⟨rfl, q, rfl⟩)
        | (go_at_call 18; refine (Reads_any _ _).mono ?_; rintro e w' ⟨rfl, rfl⟩)
        | (go_at_call 20; refine (Writes_any _ _).mono ?_; rintro e w' ⟨rfl, rfl⟩)
        | (go_at_call 22; refine (Sendable_any _ _).mono ?_; rintro e w' ⟨rfl, rfl⟩)
        | (go_at_call 41; refine (Local_any _ _ _ (by first | exact LO.out | exact LO.out.drew _)).mono ?_; rintro e w' ⟨rfl, rfl⟩)
        | (go_at_call 43; refine (Global_any _ _ _ (by first | exact GL.out | exact GL.out.drew _)).mono ?_; rintro e w' ⟨rfl, rfl⟩)
        | (go_at_call 28; refine (Alias_any _ _ _).mono ?_; rintro e w' ⟨rfl, rfl⟩)
        | (go_at_call 34; refine (awake_any _ (by first | exact F.out | exact F.out.drew _) (by first | exact M.out | exact M.out.drew _) (by first | exact V.out | exact V.out.drew _)).mono ?_; rintro e w' ⟨rfl, q, rfl⟩))
  go_ret
  exact ⟨rfl, _, rfl⟩

set_option maxHeartbeats 1000000 in
theorem beside_L1Ttd (a b c x y z : Int) (w : World) (ha : 0 ≤ a ∧ a ≤ 255) (hb : 0 ≤ b ∧ b ≤ 255) (hc : 0 ≤ c ∧ c ≤ 255)
    (hx : 1 + a % 6 = x) (hy : 1 + b % 6 = y) (hz : 1 + c % 6 = z)
    (hF : TabAt 2 fitL w) (hM : TabAt 3 markL w) (hV : TabAt 5 viewL w) (hLO : TabAt 7 besL w) (hGL : TabAt 8 elsL w)
    (e0 : localB x y = true) (e1 : localB y x = true) (e2 : globalB x y = false) (e3 : globalB y x = false) (e4 : fitsB (aliC x 0) (aliM x 0) y 0 = true) (e5 : fitsB x 1 y 0 = true) (e6 : sendB y = true) (e7 : localB x z = true) (e8 : globalB y z = true) :
    Calls Tryd.prog 7 #[.int .u8 a, .int .u8 b, .int .u8 c] w fun e w' => e = .returned (.bool true) ∧ ∃ q, w' = w.drewN q := by
  have F := Lib.hid hF
  have M := Lib.hid hM
  have V := Lib.hid hV
  have LO := Lib.hid hLO
  have GL := Lib.hid hGL
  have A := Lib.hid ha
  have B := Lib.hid hb
  have C := Lib.hid hc
  have HX := Lib.hid hx
  have HY := Lib.hid hy
  have HZ := Lib.hid hz
  clear hF hM hV hLO hGL ha hb hc hx hy hz
  go_enter Tryd.func7, Tryd.ntmps7
  go_wp2_with (first
        | (go_at_call 45; first | ((with_reducible refine (one_is a x HX.out _ A.out.1 A.out.2).mono ?_); rintro e w' ⟨rfl, rfl⟩) | ((with_reducible refine (one_is b y HY.out _ B.out.1 B.out.2).mono ?_); rintro e w' ⟨rfl, rfl⟩) | ((with_reducible refine (one_is c z HZ.out _ C.out.1 C.out.2).mono ?_); rintro e w' ⟨rfl, rfl⟩))
        | (go_at_call 26; refine (Fits_any _ _ _ _ _ (by first | exact F.out | exact F.out.drew _) (by first | exact M.out | exact M.out.drew _)).mono ?_; rintro e w' ⟨rfl, q, rfl⟩)
        | (go_at_call 24; refine (Sub_any _ _ _ (by first | exact F.out | exact F.out.drew _) (by first | exact M.out | exact M.out.drew _)).mono ?_; rintro e w' ⟨rfl, q, rfl⟩)
        | (go_at_call 18; refine (Reads_any _ _).mono ?_; rintro e w' ⟨rfl, rfl⟩)
        | (go_at_call 20; refine (Writes_any _ _).mono ?_; rintro e w' ⟨rfl, rfl⟩)
        | (go_at_call 22; refine (Sendable_any _ _).mono ?_; rintro e w' ⟨rfl, rfl⟩)
        | (go_at_call 41; refine (Local_any _ _ _ (by first | exact LO.out | exact LO.out.drew _)).mono ?_; rintro e w' ⟨rfl, rfl⟩)
        | (go_at_call 43; refine (Global_any _ _ _ (by first | exact GL.out | exact GL.out.drew _)).mono ?_; rintro e w' ⟨rfl, rfl⟩)
        | (go_at_call 28; refine (Alias_any _ _ _).mono ?_; rintro e w' ⟨rfl, rfl⟩)
        | (go_at_call 34; refine (awake_any _ (by first | exact F.out | exact F.out.drew _) (by first | exact M.out | exact M.out.drew _) (by first | exact V.out | exact V.out.drew _)).mono ?_; rintro e w' ⟨rfl, q, rfl⟩))
  go_ret
  exact ⟨rfl, _, rfl⟩

set_option maxHeartbeats 1000000 in
theorem beside_G1fa (a b c x y z : Int) (w : World) (ha : 0 ≤ a ∧ a ≤ 255) (hb : 0 ≤ b ∧ b ≤ 255) (hc : 0 ≤ c ∧ c ≤ 255)
    (hx : 1 + a % 6 = x) (hy : 1 + b % 6 = y) (hz : 1 + c % 6 = z)
    (hF : TabAt 2 fitL w) (hM : TabAt 3 markL w) (hV : TabAt 5 viewL w) (hLO : TabAt 7 besL w) (hGL : TabAt 8 elsL w)
    (e0 : localB x y = true) (e1 : localB y x = true) (e2 : globalB x y = true) (e3 : globalB y x = true) (e4 : writesB x = false) (e5 : fitsB (aliC x 0) (aliM x 0) y 0 = false) (e6 : fitsB x 1 y 0 = false) :
    Calls Tryd.prog 7 #[.int .u8 a, .int .u8 b, .int .u8 c] w fun e w' => e = .returned (.bool true) ∧ ∃ q, w' = w.drewN q := by
  have F := Lib.hid hF
  have M := Lib.hid hM
  have V := Lib.hid hV
  have LO := Lib.hid hLO
  have GL := Lib.hid hGL
  have A := Lib.hid ha
  have B := Lib.hid hb
  have C := Lib.hid hc
  have HX := Lib.hid hx
  have HY := Lib.hid hy
  have HZ := Lib.hid hz
  clear hF hM hV hLO hGL ha hb hc hx hy hz
  go_enter Tryd.func7, Tryd.ntmps7
  go_wp2_with (first
        | (go_at_call 45; first | ((with_reducible refine (one_is a x HX.out _ A.out.1 A.out.2).mono ?_); rintro e w' ⟨rfl, rfl⟩) | ((with_reducible refine (one_is b y HY.out _ B.out.1 B.out.2).mono ?_); rintro e w' ⟨rfl, rfl⟩) | ((with_reducible refine (one_is c z HZ.out _ C.out.1 C.out.2).mono ?_); rintro e w' ⟨rfl, rfl⟩))
        | (go_at_call 26; refine (Fits_any _ _ _ _ _ (by first | exact F.out | exact F.out.drew _) (by first | exact M.out | exact M.out.drew _)).mono ?_; rintro e w' ⟨rfl, q, rfl⟩)
        | (go_at_call 24; refine (Sub_any _ _ _ (by first | exact F.out | exact F.out.drew _) (by first | exact M.out | exact M.out.drew _)).mono ?_; rintro e w' ⟨rfl, q, rfl⟩)
        | (go_at_call 18; refine (Reads_any _ _).mono ?_; rintro e w' ⟨rfl, rfl⟩)
        | (go_at_call 20; refine (Writes_any _ _).mono ?_; rintro e w' ⟨rfl, rfl⟩)
        | (go_at_call 22; refine (Sendable_any _ _).mono ?_; rintro e w' ⟨rfl, rfl⟩)
        | (go_at_call 41; refine (Local_any _ _ _ (by first | exact LO.out | exact LO.out.drew _)).mono ?_; rintro e w' ⟨rfl, rfl⟩)
        | (go_at_call 43; refine (Global_any _ _ _ (by first | exact GL.out | exact GL.out.drew _)).mono ?_; rintro e w' ⟨rfl, rfl⟩)
        | (go_at_call 28; refine (Alias_any _ _ _).mono ?_; rintro e w' ⟨rfl, rfl⟩)
        | (go_at_call 34; refine (awake_any _ (by first | exact F.out | exact F.out.drew _) (by first | exact M.out | exact M.out.drew _) (by first | exact V.out | exact V.out.drew _)).mono ?_; rintro e w' ⟨rfl, q, rfl⟩))
  go_ret
  exact ⟨rfl, _, rfl⟩

set_option maxHeartbeats 1000000 in
theorem beside_G1fb (a b c x y z : Int) (w : World) (ha : 0 ≤ a ∧ a ≤ 255) (hb : 0 ≤ b ∧ b ≤ 255) (hc : 0 ≤ c ∧ c ≤ 255)
    (hx : 1 + a % 6 = x) (hy : 1 + b % 6 = y) (hz : 1 + c % 6 = z)
    (hF : TabAt 2 fitL w) (hM : TabAt 3 markL w) (hV : TabAt 5 viewL w) (hLO : TabAt 7 besL w) (hGL : TabAt 8 elsL w)
    (e0 : localB x y = true) (e1 : localB y x = true) (e2 : globalB x y = true) (e3 : globalB y x = true) (e4 : writesB x = false) (e5 : fitsB (aliC x 0) (aliM x 0) y 0 = false) (e6 : fitsB x 1 y 0 = true) (e7 : sendB y = false) :
    Calls Tryd.prog 7 #[.int .u8 a, .int .u8 b, .int .u8 c] w fun e w' => e = .returned (.bool true) ∧ ∃ q, w' = w.drewN q := by
  have F := Lib.hid hF
  have M := Lib.hid hM
  have V := Lib.hid hV
  have LO := Lib.hid hLO
  have GL := Lib.hid hGL
  have A := Lib.hid ha
  have B := Lib.hid hb
  have C := Lib.hid hc
  have HX := Lib.hid hx
  have HY := Lib.hid hy
  have HZ := Lib.hid hz
  clear hF hM hV hLO hGL ha hb hc hx hy hz
  go_enter Tryd.func7, Tryd.ntmps7
  go_wp2_with (first
        | (go_at_call 45; first | ((with_reducible refine (one_is a x HX.out _ A.out.1 A.out.2).mono ?_); rintro e w' ⟨rfl, rfl⟩) | ((with_reducible refine (one_is b y HY.out _ B.out.1 B.out.2).mono ?_); rintro e w' ⟨rfl, rfl⟩) | ((with_reducible refine (one_is c z HZ.out _ C.out.1 C.out.2).mono ?_); rintro e w' ⟨rfl, rfl⟩))
        | (go_at_call 26; refine (Fits_any _ _ _ _ _ (by first | exact F.out | exact F.out.drew _) (by first | exact M.out | exact M.out.drew _)).mono ?_; rintro e w' ⟨rfl, q, rfl⟩)
        | (go_at_call 24; refine (Sub_any _ _ _ (by first | exact F.out | exact F.out.drew _) (by first | exact M.out | exact M.out.drew _)).mono ?_; rintro e w' ⟨rfl, q, rfl⟩)
        | (go_at_call 18; refine (Reads_any _ _).mono ?_; rintro e w' ⟨rfl, rfl⟩)
        | (go_at_call 20; refine (Writes_any _ _).mono ?_; rintro e w' ⟨rfl, rfl⟩)
        | (go_at_call 22; refine (Sendable_any _ _).mono ?_; rintro e w' ⟨rfl, rfl⟩)
        | (go_at_call 41; refine (Local_any _ _ _ (by first | exact LO.out | exact LO.out.drew _)).mono ?_; rintro e w' ⟨rfl, rfl⟩)
        | (go_at_call 43; refine (Global_any _ _ _ (by first | exact GL.out | exact GL.out.drew _)).mono ?_; rintro e w' ⟨rfl, rfl⟩)
        | (go_at_call 28; refine (Alias_any _ _ _).mono ?_; rintro e w' ⟨rfl, rfl⟩)
        | (go_at_call 34; refine (awake_any _ (by first | exact F.out | exact F.out.drew _) (by first | exact M.out | exact M.out.drew _) (by first | exact V.out | exact V.out.drew _)).mono ?_; rintro e w' ⟨rfl, q, rfl⟩))
  go_ret
  exact ⟨rfl, _, rfl⟩

set_option maxHeartbeats 1000000 in
theorem beside_G1fc (a b c x y z : Int) (w : World) (ha : 0 ≤ a ∧ a ≤ 255) (hb : 0 ≤ b ∧ b ≤ 255) (hc : 0 ≤ c ∧ c ≤ 255)
    (hx : 1 + a % 6 = x) (hy : 1 + b % 6 = y) (hz : 1 + c % 6 = z)
    (hF : TabAt 2 fitL w) (hM : TabAt 3 markL w) (hV : TabAt 5 viewL w) (hLO : TabAt 7 besL w) (hGL : TabAt 8 elsL w)
    (e0 : localB x y = true) (e1 : localB y x = true) (e2 : globalB x y = true) (e3 : globalB y x = true) (e4 : writesB x = false) (e5 : fitsB (aliC x 0) (aliM x 0) y 0 = false) (e6 : fitsB x 1 y 0 = true) (e7 : sendB y = true) (e8 : localB x z = false) :
    Calls Tryd.prog 7 #[.int .u8 a, .int .u8 b, .int .u8 c] w fun e w' => e = .returned (.bool true) ∧ ∃ q, w' = w.drewN q := by
  have F := Lib.hid hF
  have M := Lib.hid hM
  have V := Lib.hid hV
  have LO := Lib.hid hLO
  have GL := Lib.hid hGL
  have A := Lib.hid ha
  have B := Lib.hid hb
  have C := Lib.hid hc
  have HX := Lib.hid hx
  have HY := Lib.hid hy
  have HZ := Lib.hid hz
  clear hF hM hV hLO hGL ha hb hc hx hy hz
  go_enter Tryd.func7, Tryd.ntmps7
  go_wp2_with (first
        | (go_at_call 45; first | ((with_reducible refine (one_is a x HX.out _ A.out.1 A.out.2).mono ?_); rintro e w' ⟨rfl, rfl⟩) | ((with_reducible refine (one_is b y HY.out _ B.out.1 B.out.2).mono ?_); rintro e w' ⟨rfl, rfl⟩) | ((with_reducible refine (one_is c z HZ.out _ C.out.1 C.out.2).mono ?_); rintro e w' ⟨rfl, rfl⟩))
        | (go_at_call 26; refine (Fits_any _ _ _ _ _ (by first | exact F.out | exact F.out.drew _) (by first | exact M.out | exact M.out.drew _)).mono ?_; rintro e w' ⟨rfl, q, rfl⟩)
        | (go_at_call 24; refine (Sub_any _ _ _ (by first | exact F.out | exact F.out.drew _) (by first | exact M.out | exact M.out.drew _)).mono ?_; rintro e w' ⟨rfl, q, rfl⟩)
        | (go_at_call 18; refine (Reads_any _ _).mono ?_; rintro e w' ⟨rfl, rfl⟩)
        | (go_at_call 20; refine (Writes_any _ _).mono ?_; rintro e w' ⟨rfl, rfl⟩)
        | (go_at_call 22; refine (Sendable_any _ _).mono ?_; rintro e w' ⟨rfl, rfl⟩)
        | (go_at_call 41; refine (Local_any _ _ _ (by first | exact LO.out | exact LO.out.drew _)).mono ?_; rintro e w' ⟨rfl, rfl⟩)
        | (go_at_call 43; refine (Global_any _ _ _ (by first | exact GL.out | exact GL.out.drew _)).mono ?_; rintro e w' ⟨rfl, rfl⟩)
        | (go_at_call 28; refine (Alias_any _ _ _).mono ?_; rintro e w' ⟨rfl, rfl⟩)
        | (go_at_call 34; refine (awake_any _ (by first | exact F.out | exact F.out.drew _) (by first | exact M.out | exact M.out.drew _) (by first | exact V.out | exact V.out.drew _)).mono ?_; rintro e w' ⟨rfl, q, rfl⟩))
  go_ret
  exact ⟨rfl, _, rfl⟩

set_option maxHeartbeats 1000000 in
theorem beside_G1fd (a b c x y z : Int) (w : World) (ha : 0 ≤ a ∧ a ≤ 255) (hb : 0 ≤ b ∧ b ≤ 255) (hc : 0 ≤ c ∧ c ≤ 255)
    (hx : 1 + a % 6 = x) (hy : 1 + b % 6 = y) (hz : 1 + c % 6 = z)
    (hF : TabAt 2 fitL w) (hM : TabAt 3 markL w) (hV : TabAt 5 viewL w) (hLO : TabAt 7 besL w) (hGL : TabAt 8 elsL w)
    (e0 : localB x y = true) (e1 : localB y x = true) (e2 : globalB x y = true) (e3 : globalB y x = true) (e4 : writesB x = false) (e5 : fitsB (aliC x 0) (aliM x 0) y 0 = false) (e6 : fitsB x 1 y 0 = true) (e7 : sendB y = true) (e8 : localB x z = true) (e9 : globalB y z = true) :
    Calls Tryd.prog 7 #[.int .u8 a, .int .u8 b, .int .u8 c] w fun e w' => e = .returned (.bool true) ∧ ∃ q, w' = w.drewN q := by
  have F := Lib.hid hF
  have M := Lib.hid hM
  have V := Lib.hid hV
  have LO := Lib.hid hLO
  have GL := Lib.hid hGL
  have A := Lib.hid ha
  have B := Lib.hid hb
  have C := Lib.hid hc
  have HX := Lib.hid hx
  have HY := Lib.hid hy
  have HZ := Lib.hid hz
  clear hF hM hV hLO hGL ha hb hc hx hy hz
  go_enter Tryd.func7, Tryd.ntmps7
  go_wp2_with (first
        | (go_at_call 45; first | ((with_reducible refine (one_is a x HX.out _ A.out.1 A.out.2).mono ?_); rintro e w' ⟨rfl, rfl⟩) | ((with_reducible refine (one_is b y HY.out _ B.out.1 B.out.2).mono ?_); rintro e w' ⟨rfl, rfl⟩) | ((with_reducible refine (one_is c z HZ.out _ C.out.1 C.out.2).mono ?_); rintro e w' ⟨rfl, rfl⟩))
        | (go_at_call 26; refine (Fits_any _ _ _ _ _ (by first | exact F.out | exact F.out.drew _) (by first | exact M.out | exact M.out.drew _)).mono ?_; rintro e w' ⟨rfl, q, rfl⟩)
        | (go_at_call 24; refine (Sub_any _ _ _ (by first | exact F.out | exact F.out.drew _) (by first | exact M.out | exact M.out.drew _)).mono ?_; rintro e w' ⟨rfl, q, rfl⟩)
        | (go_at_call 18; refine (Reads_any _ _).mono ?_; rintro e w' ⟨rfl, rfl⟩)
        | (go_at_call 20; refine (Writes_any _ _).mono ?_; rintro e w' ⟨rfl, rfl⟩)
        | (go_at_call 22; refine (Sendable_any _ _).mono ?_; rintro e w' ⟨rfl, rfl⟩)
        | (go_at_call 41; refine (Local_any _ _ _ (by first | exact LO.out | exact LO.out.drew _)).mono ?_; rintro e w' ⟨rfl, rfl⟩)
        | (go_at_call 43; refine (Global_any _ _ _ (by first | exact GL.out | exact GL.out.drew _)).mono ?_; rintro e w' ⟨rfl, rfl⟩)
        | (go_at_call 28; refine (Alias_any _ _ _).mono ?_; rintro e w' ⟨rfl, rfl⟩)
        | (go_at_call 34; refine (awake_any _ (by first | exact F.out | exact F.out.drew _) (by first | exact M.out | exact M.out.drew _) (by first | exact V.out | exact V.out.drew _)).mono ?_; rintro e w' ⟨rfl, q, rfl⟩))
  go_ret
  exact ⟨rfl, _, rfl⟩

set_option maxHeartbeats 1000000 in
theorem beside_G1ta (a b c x y z : Int) (w : World) (ha : 0 ≤ a ∧ a ≤ 255) (hb : 0 ≤ b ∧ b ≤ 255) (hc : 0 ≤ c ∧ c ≤ 255)
    (hx : 1 + a % 6 = x) (hy : 1 + b % 6 = y) (hz : 1 + c % 6 = z)
    (hF : TabAt 2 fitL w) (hM : TabAt 3 markL w) (hV : TabAt 5 viewL w) (hLO : TabAt 7 besL w) (hGL : TabAt 8 elsL w)
    (e0 : localB x y = true) (e1 : localB y x = true) (e2 : globalB x y = true) (e3 : globalB y x = true) (e4 : writesB x = false) (e5 : fitsB (aliC x 0) (aliM x 0) y 0 = true) (e6 : fitsB x 1 y 0 = false) :
    Calls Tryd.prog 7 #[.int .u8 a, .int .u8 b, .int .u8 c] w fun e w' => e = .returned (.bool true) ∧ ∃ q, w' = w.drewN q := by
  have F := Lib.hid hF
  have M := Lib.hid hM
  have V := Lib.hid hV
  have LO := Lib.hid hLO
  have GL := Lib.hid hGL
  have A := Lib.hid ha
  have B := Lib.hid hb
  have C := Lib.hid hc
  have HX := Lib.hid hx
  have HY := Lib.hid hy
  have HZ := Lib.hid hz
  clear hF hM hV hLO hGL ha hb hc hx hy hz
  go_enter Tryd.func7, Tryd.ntmps7
  go_wp2_with (first
        | (go_at_call 45; first | ((with_reducible refine (one_is a x HX.out _ A.out.1 A.out.2).mono ?_); rintro e w' ⟨rfl, rfl⟩) | ((with_reducible refine (one_is b y HY.out _ B.out.1 B.out.2).mono ?_); rintro e w' ⟨rfl, rfl⟩) | ((with_reducible refine (one_is c z HZ.out _ C.out.1 C.out.2).mono ?_); rintro e w' ⟨rfl, rfl⟩))
        | (go_at_call 26; refine (Fits_any _ _ _ _ _ (by first | exact F.out | exact F.out.drew _) (by first | exact M.out | exact M.out.drew _)).mono ?_; rintro e w' ⟨rfl, q, rfl⟩)
        | (go_at_call 24; refine (Sub_any _ _ _ (by first | exact F.out | exact F.out.drew _) (by first | exact M.out | exact M.out.drew _)).mono ?_; rintro e w' ⟨rfl, q, rfl⟩)
        | (go_at_call 18; refine (Reads_any _ _).mono ?_; rintro e w' ⟨rfl, rfl⟩)
        | (go_at_call 20; refine (Writes_any _ _).mono ?_; rintro e w' ⟨rfl, rfl⟩)
        | (go_at_call 22; refine (Sendable_any _ _).mono ?_; rintro e w' ⟨rfl, rfl⟩)
        | (go_at_call 41; refine (Local_any _ _ _ (by first | exact LO.out | exact LO.out.drew _)).mono ?_; rintro e w' ⟨rfl, rfl⟩)
        | (go_at_call 43; refine (Global_any _ _ _ (by first | exact GL.out | exact GL.out.drew _)).mono ?_; rintro e w' ⟨rfl, rfl⟩)
        | (go_at_call 28; refine (Alias_any _ _ _).mono ?_; rintro e w' ⟨rfl, rfl⟩)
        | (go_at_call 34; refine (awake_any _ (by first | exact F.out | exact F.out.drew _) (by first | exact M.out | exact M.out.drew _) (by first | exact V.out | exact V.out.drew _)).mono ?_; rintro e w' ⟨rfl, q, rfl⟩))
  go_ret
  exact ⟨rfl, _, rfl⟩

set_option maxHeartbeats 1000000 in
theorem beside_G1tb (a b c x y z : Int) (w : World) (ha : 0 ≤ a ∧ a ≤ 255) (hb : 0 ≤ b ∧ b ≤ 255) (hc : 0 ≤ c ∧ c ≤ 255)
    (hx : 1 + a % 6 = x) (hy : 1 + b % 6 = y) (hz : 1 + c % 6 = z)
    (hF : TabAt 2 fitL w) (hM : TabAt 3 markL w) (hV : TabAt 5 viewL w) (hLO : TabAt 7 besL w) (hGL : TabAt 8 elsL w)
    (e0 : localB x y = true) (e1 : localB y x = true) (e2 : globalB x y = true) (e3 : globalB y x = true) (e4 : writesB x = false) (e5 : fitsB (aliC x 0) (aliM x 0) y 0 = true) (e6 : fitsB x 1 y 0 = true) (e7 : sendB y = false) :
    Calls Tryd.prog 7 #[.int .u8 a, .int .u8 b, .int .u8 c] w fun e w' => e = .returned (.bool true) ∧ ∃ q, w' = w.drewN q := by
  have F := Lib.hid hF
  have M := Lib.hid hM
  have V := Lib.hid hV
  have LO := Lib.hid hLO
  have GL := Lib.hid hGL
  have A := Lib.hid ha
  have B := Lib.hid hb
  have C := Lib.hid hc
  have HX := Lib.hid hx
  have HY := Lib.hid hy
  have HZ := Lib.hid hz
  clear hF hM hV hLO hGL ha hb hc hx hy hz
  go_enter Tryd.func7, Tryd.ntmps7
  go_wp2_with (first
        | (go_at_call 45; first | ((with_reducible refine (one_is a x HX.out _ A.out.1 A.out.2).mono ?_); rintro e w' ⟨rfl, rfl⟩) | ((with_reducible refine (one_is b y HY.out _ B.out.1 B.out.2).mono ?_); rintro e w' ⟨rfl, rfl⟩) | ((with_reducible refine (one_is c z HZ.out _ C.out.1 C.out.2).mono ?_); rintro e w' ⟨rfl, rfl⟩))
        | (go_at_call 26; refine (Fits_any _ _ _ _ _ (by first | exact F.out | exact F.out.drew _) (by first | exact M.out | exact M.out.drew _)).mono ?_; rintro e w' ⟨rfl, q, rfl⟩)
        | (go_at_call 24; refine (Sub_any _ _ _ (by first | exact F.out | exact F.out.drew _) (by first | exact M.out | exact M.out.drew _)).mono ?_; rintro e w' ⟨rfl, q, rfl⟩)
        | (go_at_call 18; refine (Reads_any _ _).mono ?_; rintro e w' ⟨rfl, rfl⟩)
        | (go_at_call 20; refine (Writes_any _ _).mono ?_; rintro e w' ⟨rfl, rfl⟩)
        | (go_at_call 22; refine (Sendable_any _ _).mono ?_; rintro e w' ⟨rfl, rfl⟩)
        | (go_at_call 41; refine (Local_any _ _ _ (by first | exact LO.out | exact LO.out.drew _)).mono ?_; rintro e w' ⟨rfl, rfl⟩)
        | (go_at_call 43; refine (Global_any _ _ _ (by first | exact GL.out | exact GL.out.drew _)).mono ?_; rintro e w' ⟨rfl, rfl⟩)
        | (go_at_call 28; refine (Alias_any _ _ _).mono ?_; rintro e w' ⟨rfl, rfl⟩)
        | (go_at_call 34; refine (awake_any _ (by first | exact F.out | exact F.out.drew _) (by first | exact M.out | exact M.out.drew _) (by first | exact V.out | exact V.out.drew _)).mono ?_; rintro e w' ⟨rfl, q, rfl⟩))
  go_ret
  exact ⟨rfl, _, rfl⟩

set_option maxHeartbeats 1000000 in
theorem beside_G1tc (a b c x y z : Int) (w : World) (ha : 0 ≤ a ∧ a ≤ 255) (hb : 0 ≤ b ∧ b ≤ 255) (hc : 0 ≤ c ∧ c ≤ 255)
    (hx : 1 + a % 6 = x) (hy : 1 + b % 6 = y) (hz : 1 + c % 6 = z)
    (hF : TabAt 2 fitL w) (hM : TabAt 3 markL w) (hV : TabAt 5 viewL w) (hLO : TabAt 7 besL w) (hGL : TabAt 8 elsL w)
    (e0 : localB x y = true) (e1 : localB y x = true) (e2 : globalB x y = true) (e3 : globalB y x = true) (e4 : writesB x = false) (e5 : fitsB (aliC x 0) (aliM x 0) y 0 = true) (e6 : fitsB x 1 y 0 = true) (e7 : sendB y = true) (e8 : localB x z = false) :
    Calls Tryd.prog 7 #[.int .u8 a, .int .u8 b, .int .u8 c] w fun e w' => e = .returned (.bool true) ∧ ∃ q, w' = w.drewN q := by
  have F := Lib.hid hF
  have M := Lib.hid hM
  have V := Lib.hid hV
  have LO := Lib.hid hLO
  have GL := Lib.hid hGL
  have A := Lib.hid ha
  have B := Lib.hid hb
  have C := Lib.hid hc
  have HX := Lib.hid hx
  have HY := Lib.hid hy
  have HZ := Lib.hid hz
  clear hF hM hV hLO hGL ha hb hc hx hy hz
  go_enter Tryd.func7, Tryd.ntmps7
  go_wp2_with (first
        | (go_at_call 45; first | ((with_reducible refine (one_is a x HX.out _ A.out.1 A.out.2).mono ?_); rintro e w' ⟨rfl, rfl⟩) | ((with_reducible refine (one_is b y HY.out _ B.out.1 B.out.2).mono ?_); rintro e w' ⟨rfl, rfl⟩) | ((with_reducible refine (one_is c z HZ.out _ C.out.1 C.out.2).mono ?_); rintro e w' ⟨rfl, rfl⟩))
        | (go_at_call 26; refine (Fits_any _ _ _ _ _ (by first | exact F.out | exact F.out.drew _) (by first | exact M.out | exact M.out.drew _)).mono ?_; rintro e w' ⟨rfl, q, rfl⟩)
        | (go_at_call 24; refine (Sub_any _ _ _ (by first | exact F.out | exact F.out.drew _) (by first | exact M.out | exact M.out.drew _)).mono ?_; rintro e w' ⟨rfl, q, rfl⟩)
        | (go_at_call 18; refine (Reads_any _ _).mono ?_; rintro e w' ⟨rfl, rfl⟩)
        | (go_at_call 20; refine (Writes_any _ _).mono ?_; rintro e w' ⟨rfl, rfl⟩)
        | (go_at_call 22; refine (Sendable_any _ _).mono ?_; rintro e w' ⟨rfl, rfl⟩)
        | (go_at_call 41; refine (Local_any _ _ _ (by first | exact LO.out | exact LO.out.drew _)).mono ?_; rintro e w' ⟨rfl, rfl⟩)
        | (go_at_call 43; refine (Global_any _ _ _ (by first | exact GL.out | exact GL.out.drew _)).mono ?_; rintro e w' ⟨rfl, rfl⟩)
        | (go_at_call 28; refine (Alias_any _ _ _).mono ?_; rintro e w' ⟨rfl, rfl⟩)
        | (go_at_call 34; refine (awake_any _ (by first | exact F.out | exact F.out.drew _) (by first | exact M.out | exact M.out.drew _) (by first | exact V.out | exact V.out.drew _)).mono ?_; rintro e w' ⟨rfl, q, rfl⟩))
  go_ret
  exact ⟨rfl, _, rfl⟩

set_option maxHeartbeats 1000000 in
theorem beside_G1td (a b c x y z : Int) (w : World) (ha : 0 ≤ a ∧ a ≤ 255) (hb : 0 ≤ b ∧ b ≤ 255) (hc : 0 ≤ c ∧ c ≤ 255)
    (hx : 1 + a % 6 = x) (hy : 1 + b % 6 = y) (hz : 1 + c % 6 = z)
    (hF : TabAt 2 fitL w) (hM : TabAt 3 markL w) (hV : TabAt 5 viewL w) (hLO : TabAt 7 besL w) (hGL : TabAt 8 elsL w)
    (e0 : localB x y = true) (e1 : localB y x = true) (e2 : globalB x y = true) (e3 : globalB y x = true) (e4 : writesB x = false) (e5 : fitsB (aliC x 0) (aliM x 0) y 0 = true) (e6 : fitsB x 1 y 0 = true) (e7 : sendB y = true) (e8 : localB x z = true) (e9 : globalB y z = true) :
    Calls Tryd.prog 7 #[.int .u8 a, .int .u8 b, .int .u8 c] w fun e w' => e = .returned (.bool true) ∧ ∃ q, w' = w.drewN q := by
  have F := Lib.hid hF
  have M := Lib.hid hM
  have V := Lib.hid hV
  have LO := Lib.hid hLO
  have GL := Lib.hid hGL
  have A := Lib.hid ha
  have B := Lib.hid hb
  have C := Lib.hid hc
  have HX := Lib.hid hx
  have HY := Lib.hid hy
  have HZ := Lib.hid hz
  clear hF hM hV hLO hGL ha hb hc hx hy hz
  go_enter Tryd.func7, Tryd.ntmps7
  go_wp2_with (first
        | (go_at_call 45; first | ((with_reducible refine (one_is a x HX.out _ A.out.1 A.out.2).mono ?_); rintro e w' ⟨rfl, rfl⟩) | ((with_reducible refine (one_is b y HY.out _ B.out.1 B.out.2).mono ?_); rintro e w' ⟨rfl, rfl⟩) | ((with_reducible refine (one_is c z HZ.out _ C.out.1 C.out.2).mono ?_); rintro e w' ⟨rfl, rfl⟩))
        | (go_at_call 26; refine (Fits_any _ _ _ _ _ (by first | exact F.out | exact F.out.drew _) (by first | exact M.out | exact M.out.drew _)).mono ?_; rintro e w' ⟨rfl, q, rfl⟩)
        | (go_at_call 24; refine (Sub_any _ _ _ (by first | exact F.out | exact F.out.drew _) (by first | exact M.out | exact M.out.drew _)).mono ?_; rintro e w' ⟨rfl, q, rfl⟩)
        | (go_at_call 18; refine (Reads_any _ _).mono ?_; rintro e w' ⟨rfl, rfl⟩)
        | (go_at_call 20; refine (Writes_any _ _).mono ?_; rintro e w' ⟨rfl, rfl⟩)
        | (go_at_call 22; refine (Sendable_any _ _).mono ?_; rintro e w' ⟨rfl, rfl⟩)
        | (go_at_call 41; refine (Local_any _ _ _ (by first | exact LO.out | exact LO.out.drew _)).mono ?_; rintro e w' ⟨rfl, rfl⟩)
        | (go_at_call 43; refine (Global_any _ _ _ (by first | exact GL.out | exact GL.out.drew _)).mono ?_; rintro e w' ⟨rfl, rfl⟩)
        | (go_at_call 28; refine (Alias_any _ _ _).mono ?_; rintro e w' ⟨rfl, rfl⟩)
        | (go_at_call 34; refine (awake_any _ (by first | exact F.out | exact F.out.drew _) (by first | exact M.out | exact M.out.drew _) (by first | exact V.out | exact V.out.drew _)).mono ?_; rintro e w' ⟨rfl, q, rfl⟩))
  go_ret
  exact ⟨rfl, _, rfl⟩

set_option maxHeartbeats 1000000 in
theorem beside_G2fa (a b c x y z : Int) (w : World) (ha : 0 ≤ a ∧ a ≤ 255) (hb : 0 ≤ b ∧ b ≤ 255) (hc : 0 ≤ c ∧ c ≤ 255)
    (hx : 1 + a % 6 = x) (hy : 1 + b % 6 = y) (hz : 1 + c % 6 = z)
    (hF : TabAt 2 fitL w) (hM : TabAt 3 markL w) (hV : TabAt 5 viewL w) (hLO : TabAt 7 besL w) (hGL : TabAt 8 elsL w)
    (e0 : localB x y = true) (e1 : localB y x = true) (e2 : globalB x y = true) (e3 : globalB y x = true) (e4 : writesB x = true) (e5 : readsB y = false) (e6 : fitsB (aliC x 0) (aliM x 0) y 0 = false) (e7 : fitsB x 1 y 0 = false) :
    Calls Tryd.prog 7 #[.int .u8 a, .int .u8 b, .int .u8 c] w fun e w' => e = .returned (.bool true) ∧ ∃ q, w' = w.drewN q := by
  have F := Lib.hid hF
  have M := Lib.hid hM
  have V := Lib.hid hV
  have LO := Lib.hid hLO
  have GL := Lib.hid hGL
  have A := Lib.hid ha
  have B := Lib.hid hb
  have C := Lib.hid hc
  have HX := Lib.hid hx
  have HY := Lib.hid hy
  have HZ := Lib.hid hz
  clear hF hM hV hLO hGL ha hb hc hx hy hz
  go_enter Tryd.func7, Tryd.ntmps7
  go_wp2_with (first
        | (go_at_call 45; first | ((with_reducible refine (one_is a x HX.out _ A.out.1 A.out.2).mono ?_); rintro e w' ⟨rfl, rfl⟩) | ((with_reducible refine (one_is b y HY.out _ B.out.1 B.out.2).mono ?_); rintro e w' ⟨rfl, rfl⟩) | ((with_reducible refine (one_is c z HZ.out _ C.out.1 C.out.2).mono ?_); rintro e w' ⟨rfl, rfl⟩))
        | (go_at_call 26; refine (Fits_any _ _ _ _ _ (by first | exact F.out | exact F.out.drew _) (by first | exact M.out | exact M.out.drew _)).mono ?_; rintro e w' ⟨rfl, q, rfl⟩)
        | (go_at_call 24; refine (Sub_any _ _ _ (by first | exact F.out | exact F.out.drew _) (by first | exact M.out | exact M.out.drew _)).mono ?_; rintro e w' ⟨rfl, q, rfl⟩)
        | (go_at_call 18; refine (Reads_any _ _).mono ?_; rintro e w' ⟨rfl, rfl⟩)
        | (go_at_call 20; refine (Writes_any _ _).mono ?_; rintro e w' ⟨rfl, rfl⟩)
        | (go_at_call 22; refine (Sendable_any _ _).mono ?_; rintro e w' ⟨rfl, rfl⟩)
        | (go_at_call 41; refine (Local_any _ _ _ (by first | exact LO.out | exact LO.out.drew _)).mono ?_; rintro e w' ⟨rfl, rfl⟩)
        | (go_at_call 43; refine (Global_any _ _ _ (by first | exact GL.out | exact GL.out.drew _)).mono ?_; rintro e w' ⟨rfl, rfl⟩)
        | (go_at_call 28; refine (Alias_any _ _ _).mono ?_; rintro e w' ⟨rfl, rfl⟩)
        | (go_at_call 34; refine (awake_any _ (by first | exact F.out | exact F.out.drew _) (by first | exact M.out | exact M.out.drew _) (by first | exact V.out | exact V.out.drew _)).mono ?_; rintro e w' ⟨rfl, q, rfl⟩))
  go_ret
  exact ⟨rfl, _, rfl⟩

set_option maxHeartbeats 1000000 in
theorem beside_G2fb (a b c x y z : Int) (w : World) (ha : 0 ≤ a ∧ a ≤ 255) (hb : 0 ≤ b ∧ b ≤ 255) (hc : 0 ≤ c ∧ c ≤ 255)
    (hx : 1 + a % 6 = x) (hy : 1 + b % 6 = y) (hz : 1 + c % 6 = z)
    (hF : TabAt 2 fitL w) (hM : TabAt 3 markL w) (hV : TabAt 5 viewL w) (hLO : TabAt 7 besL w) (hGL : TabAt 8 elsL w)
    (e0 : localB x y = true) (e1 : localB y x = true) (e2 : globalB x y = true) (e3 : globalB y x = true) (e4 : writesB x = true) (e5 : readsB y = false) (e6 : fitsB (aliC x 0) (aliM x 0) y 0 = false) (e7 : fitsB x 1 y 0 = true) (e8 : sendB y = false) :
    Calls Tryd.prog 7 #[.int .u8 a, .int .u8 b, .int .u8 c] w fun e w' => e = .returned (.bool true) ∧ ∃ q, w' = w.drewN q := by
  have F := Lib.hid hF
  have M := Lib.hid hM
  have V := Lib.hid hV
  have LO := Lib.hid hLO
  have GL := Lib.hid hGL
  have A := Lib.hid ha
  have B := Lib.hid hb
  have C := Lib.hid hc
  have HX := Lib.hid hx
  have HY := Lib.hid hy
  have HZ := Lib.hid hz
  clear hF hM hV hLO hGL ha hb hc hx hy hz
  go_enter Tryd.func7, Tryd.ntmps7
  go_wp2_with (first
        | (go_at_call 45; first | ((with_reducible refine (one_is a x HX.out _ A.out.1 A.out.2).mono ?_); rintro e w' ⟨rfl, rfl⟩) | ((with_reducible refine (one_is b y HY.out _ B.out.1 B.out.2).mono ?_); rintro e w' ⟨rfl, rfl⟩) | ((with_reducible refine (one_is c z HZ.out _ C.out.1 C.out.2).mono ?_); rintro e w' ⟨rfl, rfl⟩))
        | (go_at_call 26; refine (Fits_any _ _ _ _ _ (by first | exact F.out | exact F.out.drew _) (by first | exact M.out | exact M.out.drew _)).mono ?_; rintro e w' ⟨rfl, q, rfl⟩)
        | (go_at_call 24; refine (Sub_any _ _ _ (by first | exact F.out | exact F.out.drew _) (by first | exact M.out | exact M.out.drew _)).mono ?_; rintro e w' ⟨rfl, q, rfl⟩)
        | (go_at_call 18; refine (Reads_any _ _).mono ?_; rintro e w' ⟨rfl, rfl⟩)
        | (go_at_call 20; refine (Writes_any _ _).mono ?_; rintro e w' ⟨rfl, rfl⟩)
        | (go_at_call 22; refine (Sendable_any _ _).mono ?_; rintro e w' ⟨rfl, rfl⟩)
        | (go_at_call 41; refine (Local_any _ _ _ (by first | exact LO.out | exact LO.out.drew _)).mono ?_; rintro e w' ⟨rfl, rfl⟩)
        | (go_at_call 43; refine (Global_any _ _ _ (by first | exact GL.out | exact GL.out.drew _)).mono ?_; rintro e w' ⟨rfl, rfl⟩)
        | (go_at_call 28; refine (Alias_any _ _ _).mono ?_; rintro e w' ⟨rfl, rfl⟩)
        | (go_at_call 34; refine (awake_any _ (by first | exact F.out | exact F.out.drew _) (by first | exact M.out | exact M.out.drew _) (by first | exact V.out | exact V.out.drew _)).mono ?_; rintro e w' ⟨rfl, q, rfl⟩))
  go_ret
  exact ⟨rfl, _, rfl⟩

set_option maxHeartbeats 1000000 in
theorem beside_G2fc (a b c x y z : Int) (w : World) (ha : 0 ≤ a ∧ a ≤ 255) (hb : 0 ≤ b ∧ b ≤ 255) (hc : 0 ≤ c ∧ c ≤ 255)
    (hx : 1 + a % 6 = x) (hy : 1 + b % 6 = y) (hz : 1 + c % 6 = z)
    (hF : TabAt 2 fitL w) (hM : TabAt 3 markL w) (hV : TabAt 5 viewL w) (hLO : TabAt 7 besL w) (hGL : TabAt 8 elsL w)
    (e0 : localB x y = true) (e1 : localB y x = true) (e2 : globalB x y = true) (e3 : globalB y x = true) (e4 : writesB x = true) (e5 : readsB y = false) (e6 : fitsB (aliC x 0) (aliM x 0) y 0 = false) (e7 : fitsB x 1 y 0 = true) (e8 : sendB y = true) (e9 : localB x z = false) :
    Calls Tryd.prog 7 #[.int .u8 a, .int .u8 b, .int .u8 c] w fun e w' => e = .returned (.bool true) ∧ ∃ q, w' = w.drewN q := by
  have F := Lib.hid hF
  have M := Lib.hid hM
  have V := Lib.hid hV
  have LO := Lib.hid hLO
  have GL := Lib.hid hGL
  have A := Lib.hid ha
  have B := Lib.hid hb
  have C := Lib.hid hc
  have HX := Lib.hid hx
  have HY := Lib.hid hy
  have HZ := Lib.hid hz
  clear hF hM hV hLO hGL ha hb hc hx hy hz
  go_enter Tryd.func7, Tryd.ntmps7
  go_wp2_with (first
        | (go_at_call 45; first | ((with_reducible refine (one_is a x HX.out _ A.out.1 A.out.2).mono ?_); rintro e w' ⟨rfl, rfl⟩) | ((with_reducible refine (one_is b y HY.out _ B.out.1 B.out.2).mono ?_); rintro e w' ⟨rfl, rfl⟩) | ((with_reducible refine (one_is c z HZ.out _ C.out.1 C.out.2).mono ?_); rintro e w' ⟨rfl, rfl⟩))
        | (go_at_call 26; refine (Fits_any _ _ _ _ _ (by first | exact F.out | exact F.out.drew _) (by first | exact M.out | exact M.out.drew _)).mono ?_; rintro e w' ⟨rfl, q, rfl⟩)
        | (go_at_call 24; refine (Sub_any _ _ _ (by first | exact F.out | exact F.out.drew _) (by first | exact M.out | exact M.out.drew _)).mono ?_; rintro e w' ⟨rfl, q, rfl⟩)
        | (go_at_call 18; refine (Reads_any _ _).mono ?_; rintro e w' ⟨rfl, rfl⟩)
        | (go_at_call 20; refine (Writes_any _ _).mono ?_; rintro e w' ⟨rfl, rfl⟩)
        | (go_at_call 22; refine (Sendable_any _ _).mono ?_; rintro e w' ⟨rfl, rfl⟩)
        | (go_at_call 41; refine (Local_any _ _ _ (by first | exact LO.out | exact LO.out.drew _)).mono ?_; rintro e w' ⟨rfl, rfl⟩)
        | (go_at_call 43; refine (Global_any _ _ _ (by first | exact GL.out | exact GL.out.drew _)).mono ?_; rintro e w' ⟨rfl, rfl⟩)
        | (go_at_call 28; refine (Alias_any _ _ _).mono ?_; rintro e w' ⟨rfl, rfl⟩)
        | (go_at_call 34; refine (awake_any _ (by first | exact F.out | exact F.out.drew _) (by first | exact M.out | exact M.out.drew _) (by first | exact V.out | exact V.out.drew _)).mono ?_; rintro e w' ⟨rfl, q, rfl⟩))
  go_ret
  exact ⟨rfl, _, rfl⟩

set_option maxHeartbeats 1000000 in
theorem beside_G2fd (a b c x y z : Int) (w : World) (ha : 0 ≤ a ∧ a ≤ 255) (hb : 0 ≤ b ∧ b ≤ 255) (hc : 0 ≤ c ∧ c ≤ 255)
    (hx : 1 + a % 6 = x) (hy : 1 + b % 6 = y) (hz : 1 + c % 6 = z)
    (hF : TabAt 2 fitL w) (hM : TabAt 3 markL w) (hV : TabAt 5 viewL w) (hLO : TabAt 7 besL w) (hGL : TabAt 8 elsL w)
    (e0 : localB x y = true) (e1 : localB y x = true) (e2 : globalB x y = true) (e3 : globalB y x = true) (e4 : writesB x = true) (e5 : readsB y = false) (e6 : fitsB (aliC x 0) (aliM x 0) y 0 = false) (e7 : fitsB x 1 y 0 = true) (e8 : sendB y = true) (e9 : localB x z = true) (e10 : globalB y z = true) :
    Calls Tryd.prog 7 #[.int .u8 a, .int .u8 b, .int .u8 c] w fun e w' => e = .returned (.bool true) ∧ ∃ q, w' = w.drewN q := by
  have F := Lib.hid hF
  have M := Lib.hid hM
  have V := Lib.hid hV
  have LO := Lib.hid hLO
  have GL := Lib.hid hGL
  have A := Lib.hid ha
  have B := Lib.hid hb
  have C := Lib.hid hc
  have HX := Lib.hid hx
  have HY := Lib.hid hy
  have HZ := Lib.hid hz
  clear hF hM hV hLO hGL ha hb hc hx hy hz
  go_enter Tryd.func7, Tryd.ntmps7
  go_wp2_with (first
        | (go_at_call 45; first | ((with_reducible refine (one_is a x HX.out _ A.out.1 A.out.2).mono ?_); rintro e w' ⟨rfl, rfl⟩) | ((with_reducible refine (one_is b y HY.out _ B.out.1 B.out.2).mono ?_); rintro e w' ⟨rfl, rfl⟩) | ((with_reducible refine (one_is c z HZ.out _ C.out.1 C.out.2).mono ?_); rintro e w' ⟨rfl, rfl⟩))
        | (go_at_call 26; refine (Fits_any _ _ _ _ _ (by first | exact F.out | exact F.out.drew _) (by first | exact M.out | exact M.out.drew _)).mono ?_; rintro e w' ⟨rfl, q, rfl⟩)
        | (go_at_call 24; refine (Sub_any _ _ _ (by first | exact F.out | exact F.out.drew _) (by first | exact M.out | exact M.out.drew _)).mono ?_; rintro e w' ⟨rfl, q, rfl⟩)
        | (go_at_call 18; refine (Reads_any _ _).mono ?_; rintro e w' ⟨rfl, rfl⟩)
        | (go_at_call 20; refine (Writes_any _ _).mono ?_; rintro e w' ⟨rfl, rfl⟩)
        | (go_at_call 22; refine (Sendable_any _ _).mono ?_; rintro e w' ⟨rfl, rfl⟩)
        | (go_at_call 41; refine (Local_any _ _ _ (by first | exact LO.out | exact LO.out.drew _)).mono ?_; rintro e w' ⟨rfl, rfl⟩)
        | (go_at_call 43; refine (Global_any _ _ _ (by first | exact GL.out | exact GL.out.drew _)).mono ?_; rintro e w' ⟨rfl, rfl⟩)
        | (go_at_call 28; refine (Alias_any _ _ _).mono ?_; rintro e w' ⟨rfl, rfl⟩)
        | (go_at_call 34; refine (awake_any _ (by first | exact F.out | exact F.out.drew _) (by first | exact M.out | exact M.out.drew _) (by first | exact V.out | exact V.out.drew _)).mono ?_; rintro e w' ⟨rfl, q, rfl⟩))
  go_ret
  exact ⟨rfl, _, rfl⟩

set_option maxHeartbeats 1000000 in
theorem beside_G2ta (a b c x y z : Int) (w : World) (ha : 0 ≤ a ∧ a ≤ 255) (hb : 0 ≤ b ∧ b ≤ 255) (hc : 0 ≤ c ∧ c ≤ 255)
    (hx : 1 + a % 6 = x) (hy : 1 + b % 6 = y) (hz : 1 + c % 6 = z)
    (hF : TabAt 2 fitL w) (hM : TabAt 3 markL w) (hV : TabAt 5 viewL w) (hLO : TabAt 7 besL w) (hGL : TabAt 8 elsL w)
    (e0 : localB x y = true) (e1 : localB y x = true) (e2 : globalB x y = true) (e3 : globalB y x = true) (e4 : writesB x = true) (e5 : readsB y = false) (e6 : fitsB (aliC x 0) (aliM x 0) y 0 = true) (e7 : fitsB x 1 y 0 = false) :
    Calls Tryd.prog 7 #[.int .u8 a, .int .u8 b, .int .u8 c] w fun e w' => e = .returned (.bool true) ∧ ∃ q, w' = w.drewN q := by
  have F := Lib.hid hF
  have M := Lib.hid hM
  have V := Lib.hid hV
  have LO := Lib.hid hLO
  have GL := Lib.hid hGL
  have A := Lib.hid ha
  have B := Lib.hid hb
  have C := Lib.hid hc
  have HX := Lib.hid hx
  have HY := Lib.hid hy
  have HZ := Lib.hid hz
  clear hF hM hV hLO hGL ha hb hc hx hy hz
  go_enter Tryd.func7, Tryd.ntmps7
  go_wp2_with (first
        | (go_at_call 45; first | ((with_reducible refine (one_is a x HX.out _ A.out.1 A.out.2).mono ?_); rintro e w' ⟨rfl, rfl⟩) | ((with_reducible refine (one_is b y HY.out _ B.out.1 B.out.2).mono ?_); rintro e w' ⟨rfl, rfl⟩) | ((with_reducible refine (one_is c z HZ.out _ C.out.1 C.out.2).mono ?_); rintro e w' ⟨rfl, rfl⟩))
        | (go_at_call 26; refine (Fits_any _ _ _ _ _ (by first | exact F.out | exact F.out.drew _) (by first | exact M.out | exact M.out.drew _)).mono ?_; rintro e w' ⟨rfl, q, rfl⟩)
        | (go_at_call 24; refine (Sub_any _ _ _ (by first | exact F.out | exact F.out.drew _) (by first | exact M.out | exact M.out.drew _)).mono ?_; rintro e w' ⟨rfl, q, rfl⟩)
        | (go_at_call 18; refine (Reads_any _ _).mono ?_; rintro e w' ⟨rfl, rfl⟩)
        | (go_at_call 20; refine (Writes_any _ _).mono ?_; rintro e w' ⟨rfl, rfl⟩)
        | (go_at_call 22; refine (Sendable_any _ _).mono ?_; rintro e w' ⟨rfl, rfl⟩)
        | (go_at_call 41; refine (Local_any _ _ _ (by first | exact LO.out | exact LO.out.drew _)).mono ?_; rintro e w' ⟨rfl, rfl⟩)
        | (go_at_call 43; refine (Global_any _ _ _ (by first | exact GL.out | exact GL.out.drew _)).mono ?_; rintro e w' ⟨rfl, rfl⟩)
        | (go_at_call 28; refine (Alias_any _ _ _).mono ?_; rintro e w' ⟨rfl, rfl⟩)
        | (go_at_call 34; refine (awake_any _ (by first | exact F.out | exact F.out.drew _) (by first | exact M.out | exact M.out.drew _) (by first | exact V.out | exact V.out.drew _)).mono ?_; rintro e w' ⟨rfl, q, rfl⟩))
  go_ret
  exact ⟨rfl, _, rfl⟩

set_option maxHeartbeats 1000000 in
theorem beside_G2tb (a b c x y z : Int) (w : World) (ha : 0 ≤ a ∧ a ≤ 255) (hb : 0 ≤ b ∧ b ≤ 255) (hc : 0 ≤ c ∧ c ≤ 255)
    (hx : 1 + a % 6 = x) (hy : 1 + b % 6 = y) (hz : 1 + c % 6 = z)
    (hF : TabAt 2 fitL w) (hM : TabAt 3 markL w) (hV : TabAt 5 viewL w) (hLO : TabAt 7 besL w) (hGL : TabAt 8 elsL w)
    (e0 : localB x y = true) (e1 : localB y x = true) (e2 : globalB x y = true) (e3 : globalB y x = true) (e4 : writesB x = true) (e5 : readsB y = false) (e6 : fitsB (aliC x 0) (aliM x 0) y 0 = true) (e7 : fitsB x 1 y 0 = true) (e8 : sendB y = false) :
    Calls Tryd.prog 7 #[.int .u8 a, .int .u8 b, .int .u8 c] w fun e w' => e = .returned (.bool true) ∧ ∃ q, w' = w.drewN q := by
  have F := Lib.hid hF
  have M := Lib.hid hM
  have V := Lib.hid hV
  have LO := Lib.hid hLO
  have GL := Lib.hid hGL
  have A := Lib.hid ha
  have B := Lib.hid hb
  have C := Lib.hid hc
  have HX := Lib.hid hx
  have HY := Lib.hid hy
  have HZ := Lib.hid hz
  clear hF hM hV hLO hGL ha hb hc hx hy hz
  go_enter Tryd.func7, Tryd.ntmps7
  go_wp2_with (first
        | (go_at_call 45; first | ((with_reducible refine (one_is a x HX.out _ A.out.1 A.out.2).mono ?_); rintro e w' ⟨rfl, rfl⟩) | ((with_reducible refine (one_is b y HY.out _ B.out.1 B.out.2).mono ?_); rintro e w' ⟨rfl, rfl⟩) | ((with_reducible refine (one_is c z HZ.out _ C.out.1 C.out.2).mono ?_); rintro e w' ⟨rfl, rfl⟩))
        | (go_at_call 26; refine (Fits_any _ _ _ _ _ (by first | exact F.out | exact F.out.drew _) (by first | exact M.out | exact M.out.drew _)).mono ?_; rintro e w' ⟨rfl, q, rfl⟩)
        | (go_at_call 24; refine (Sub_any _ _ _ (by first | exact F.out | exact F.out.drew _) (by first | exact M.out | exact M.out.drew _)).mono ?_; rintro e w' ⟨rfl, q, rfl⟩)
        | (go_at_call 18; refine (Reads_any _ _).mono ?_; rintro e w' ⟨rfl, rfl⟩)
        | (go_at_call 20; refine (Writes_any _ _).mono ?_; rintro e w' ⟨rfl, rfl⟩)
        | (go_at_call 22; refine (Sendable_any _ _).mono ?_; rintro e w' ⟨rfl, rfl⟩)
        | (go_at_call 41; refine (Local_any _ _ _ (by first | exact LO.out | exact LO.out.drew _)).mono ?_; rintro e w' ⟨rfl, rfl⟩)
        | (go_at_call 43; refine (Global_any _ _ _ (by first | exact GL.out | exact GL.out.drew _)).mono ?_; rintro e w' ⟨rfl, rfl⟩)
        | (go_at_call 28; refine (Alias_any _ _ _).mono ?_; rintro e w' ⟨rfl, rfl⟩)
        | (go_at_call 34; refine (awake_any _ (by first | exact F.out | exact F.out.drew _) (by first | exact M.out | exact M.out.drew _) (by first | exact V.out | exact V.out.drew _)).mono ?_; rintro e w' ⟨rfl, q, rfl⟩))
  go_ret
  exact ⟨rfl, _, rfl⟩

set_option maxHeartbeats 1000000 in
theorem beside_G2tc (a b c x y z : Int) (w : World) (ha : 0 ≤ a ∧ a ≤ 255) (hb : 0 ≤ b ∧ b ≤ 255) (hc : 0 ≤ c ∧ c ≤ 255)
    (hx : 1 + a % 6 = x) (hy : 1 + b % 6 = y) (hz : 1 + c % 6 = z)
    (hF : TabAt 2 fitL w) (hM : TabAt 3 markL w) (hV : TabAt 5 viewL w) (hLO : TabAt 7 besL w) (hGL : TabAt 8 elsL w)
    (e0 : localB x y = true) (e1 : localB y x = true) (e2 : globalB x y = true) (e3 : globalB y x = true) (e4 : writesB x = true) (e5 : readsB y = false) (e6 : fitsB (aliC x 0) (aliM x 0) y 0 = true) (e7 : fitsB x 1 y 0 = true) (e8 : sendB y = true) (e9 : localB x z = false) :
    Calls Tryd.prog 7 #[.int .u8 a, .int .u8 b, .int .u8 c] w fun e w' => e = .returned (.bool true) ∧ ∃ q, w' = w.drewN q := by
  have F := Lib.hid hF
  have M := Lib.hid hM
  have V := Lib.hid hV
  have LO := Lib.hid hLO
  have GL := Lib.hid hGL
  have A := Lib.hid ha
  have B := Lib.hid hb
  have C := Lib.hid hc
  have HX := Lib.hid hx
  have HY := Lib.hid hy
  have HZ := Lib.hid hz
  clear hF hM hV hLO hGL ha hb hc hx hy hz
  go_enter Tryd.func7, Tryd.ntmps7
  go_wp2_with (first
        | (go_at_call 45; first | ((with_reducible refine (one_is a x HX.out _ A.out.1 A.out.2).mono ?_); rintro e w' ⟨rfl, rfl⟩) | ((with_reducible refine (one_is b y HY.out _ B.out.1 B.out.2).mono ?_); rintro e w' ⟨rfl, rfl⟩) | ((with_reducible refine (one_is c z HZ.out _ C.out.1 C.out.2).mono ?_); rintro e w' ⟨rfl, rfl⟩))
        | (go_at_call 26; refine (Fits_any _ _ _ _ _ (by first | exact F.out | exact F.out.drew _) (by first | exact M.out | exact M.out.drew _)).mono ?_; rintro e w' ⟨rfl, q, rfl⟩)
        | (go_at_call 24; refine (Sub_any _ _ _ (by first | exact F.out | exact F.out.drew _) (by first | exact M.out | exact M.out.drew _)).mono ?_; rintro e w' ⟨rfl, q, rfl⟩)
        | (go_at_call 18; refine (Reads_any _ _).mono ?_; rintro e w' ⟨rfl, rfl⟩)
        | (go_at_call 20; refine (Writes_any _ _).mono ?_; rintro e w' ⟨rfl, rfl⟩)
        | (go_at_call 22; refine (Sendable_any _ _).mono ?_; rintro e w' ⟨rfl, rfl⟩)
        | (go_at_call 41; refine (Local_any _ _ _ (by first | exact LO.out | exact LO.out.drew _)).mono ?_; rintro e w' ⟨rfl, rfl⟩)
        | (go_at_call 43; refine (Global_any _ _ _ (by first | exact GL.out | exact GL.out.drew _)).mono ?_; rintro e w' ⟨rfl, rfl⟩)
        | (go_at_call 28; refine (Alias_any _ _ _).mono ?_; rintro e w' ⟨rfl, rfl⟩)
        | (go_at_call 34; refine (awake_any _ (by first | exact F.out | exact F.out.drew _) (by first | exact M.out | exact M.out.drew _) (by first | exact V.out | exact V.out.drew _)).mono ?_; rintro e w' ⟨rfl, q, rfl⟩))
  go_ret
  exact ⟨rfl, _, rfl⟩

set_option maxHeartbeats 1000000 in
theorem beside_G2td (a b c x y z : Int) (w : World) (ha : 0 ≤ a ∧ a ≤ 255) (hb : 0 ≤ b ∧ b ≤ 255) (hc : 0 ≤ c ∧ c ≤ 255)
    (hx : 1 + a % 6 = x) (hy : 1 + b % 6 = y) (hz : 1 + c % 6 = z)
    (hF : TabAt 2 fitL w) (hM : TabAt 3 markL w) (hV : TabAt 5 viewL w) (hLO : TabAt 7 besL w) (hGL : TabAt 8 elsL w)
    (e0 : localB x y = true) (e1 : localB y x = true) (e2 : globalB x y = true) (e3 : globalB y x = true) (e4 : writesB x = true) (e5 : readsB y = false) (e6 : fitsB (aliC x 0) (aliM x 0) y 0 = true) (e7 : fitsB x 1 y 0 = true) (e8 : sendB y = true) (e9 : localB x z = true) (e10 : globalB y z = true) :
    Calls Tryd.prog 7 #[.int .u8 a, .int .u8 b, .int .u8 c] w fun e w' => e = .returned (.bool true) ∧ ∃ q, w' = w.drewN q := by
  have F := Lib.hid hF
  have M := Lib.hid hM
  have V := Lib.hid hV
  have LO := Lib.hid hLO
  have GL := Lib.hid hGL
  have A := Lib.hid ha
  have B := Lib.hid hb
  have C := Lib.hid hc
  have HX := Lib.hid hx
  have HY := Lib.hid hy
  have HZ := Lib.hid hz
  clear hF hM hV hLO hGL ha hb hc hx hy hz
  go_enter Tryd.func7, Tryd.ntmps7
  go_wp2_with (first
        | (go_at_call 45; first | ((with_reducible refine (one_is a x HX.out _ A.out.1 A.out.2).mono ?_); rintro e w' ⟨rfl, rfl⟩) | ((with_reducible refine (one_is b y HY.out _ B.out.1 B.out.2).mono ?_); rintro e w' ⟨rfl, rfl⟩) | ((with_reducible refine (one_is c z HZ.out _ C.out.1 C.out.2).mono ?_); rintro e w' ⟨rfl, rfl⟩))
        | (go_at_call 26; refine (Fits_any _ _ _ _ _ (by first | exact F.out | exact F.out.drew _) (by first | exact M.out | exact M.out.drew _)).mono ?_; rintro e w' ⟨rfl, q, rfl⟩)
        | (go_at_call 24; refine (Sub_any _ _ _ (by first | exact F.out | exact F.out.drew _) (by first | exact M.out | exact M.out.drew _)).mono ?_; rintro e w' ⟨rfl, q, rfl⟩)
        | (go_at_call 18; refine (Reads_any _ _).mono ?_; rintro e w' ⟨rfl, rfl⟩)
        | (go_at_call 20; refine (Writes_any _ _).mono ?_; rintro e w' ⟨rfl, rfl⟩)
        | (go_at_call 22; refine (Sendable_any _ _).mono ?_; rintro e w' ⟨rfl, rfl⟩)
        | (go_at_call 41; refine (Local_any _ _ _ (by first | exact LO.out | exact LO.out.drew _)).mono ?_; rintro e w' ⟨rfl, rfl⟩)
        | (go_at_call 43; refine (Global_any _ _ _ (by first | exact GL.out | exact GL.out.drew _)).mono ?_; rintro e w' ⟨rfl, rfl⟩)
        | (go_at_call 28; refine (Alias_any _ _ _).mono ?_; rintro e w' ⟨rfl, rfl⟩)
        | (go_at_call 34; refine (awake_any _ (by first | exact F.out | exact F.out.drew _) (by first | exact M.out | exact M.out.drew _) (by first | exact V.out | exact V.out.drew _)).mono ?_; rintro e w' ⟨rfl, q, rfl⟩))
  go_ret
  exact ⟨rfl, _, rfl⟩

theorem beside_walk (a b c x y z : Int) (w : World) (ha : 0 ≤ a ∧ a ≤ 255) (hb : 0 ≤ b ∧ b ≤ 255) (hc : 0 ≤ c ∧ c ≤ 255)
    (hx : 1 + a % 6 = x) (hy : 1 + b % 6 = y) (hz : 1 + c % 6 = z)
    (hF : TabAt 2 fitL w) (hM : TabAt 3 markL w) (hV : TabAt 5 viewL w) (hLO : TabAt 7 besL w) (hGL : TabAt 8 elsL w)
    (mx : x ∈ six) (my : y ∈ six) (mz : z ∈ six) :
    Calls Tryd.prog 7 #[.int .u8 a, .int .u8 b, .int .u8 c] w fun e w' => e = .returned (.bool true) ∧ ∃ q, w' = w.drewN q := by
  have s1 := local_sym x mx y my
  have s2 := global_sym x mx y my
  have s3 := global_local x mx y my
  have s4 := alias_local x mx y my
  have s5 := sub_global x mx y my z mz
  cases g1 : globalB x y
  · cases l1 : localB x y
    · rw [l1] at s1
      rw [g1] at s2
      cases t0 : fitsB (aliC x 0) (aliM x 0) y 0
      · skip
        cases t1 : fitsB x 1 y 0
        · exact beside_L1Ffa a b c x y z w ha hb hc hx hy hz hF hM hV hLO hGL l1 s1 g1 s2 t0 t1
        · cases t2 : sendB y
          · exact beside_L1Ffb a b c x y z w ha hb hc hx hy hz hF hM hV hLO hGL l1 s1 g1 s2 t0 t1 t2
          · cases t3 : localB x z
            · exact beside_L1Ffc a b c x y z w ha hb hc hx hy hz hF hM hV hLO hGL l1 s1 g1 s2 t0 t1 t2 t3
            · exact beside_L1Ffd a b c x y z w ha hb hc hx hy hz hF hM hV hLO hGL l1 s1 g1 s2 t0 t1 t2 t3 (s5 t1 t2 t3)
      · exact absurd (s4 t0) (by rw [l1]; decide)
    · rw [l1] at s1
      rw [g1] at s2
      cases t0 : fitsB (aliC x 0) (aliM x 0) y 0
      · skip
        cases t1 : fitsB x 1 y 0
        · exact beside_L1Tfa a b c x y z w ha hb hc hx hy hz hF hM hV hLO hGL l1 s1 g1 s2 t0 t1
        · cases t2 : sendB y
          · exact beside_L1Tfb a b c x y z w ha hb hc hx hy hz hF hM hV hLO hGL l1 s1 g1 s2 t0 t1 t2
          · cases t3 : localB x z
            · exact beside_L1Tfc a b c x y z w ha hb hc hx hy hz hF hM hV hLO hGL l1 s1 g1 s2 t0 t1 t2 t3
            · exact beside_L1Tfd a b c x y z w ha hb hc hx hy hz hF hM hV hLO hGL l1 s1 g1 s2 t0 t1 t2 t3 (s5 t1 t2 t3)
      · skip
        cases t1 : fitsB x 1 y 0
        · exact beside_L1Tta a b c x y z w ha hb hc hx hy hz hF hM hV hLO hGL l1 s1 g1 s2 t0 t1
        · cases t2 : sendB y
          · exact beside_L1Ttb a b c x y z w ha hb hc hx hy hz hF hM hV hLO hGL l1 s1 g1 s2 t0 t1 t2
          · cases t3 : localB x z
            · exact beside_L1Ttc a b c x y z w ha hb hc hx hy hz hF hM hV hLO hGL l1 s1 g1 s2 t0 t1 t2 t3
            · exact beside_L1Ttd a b c x y z w ha hb hc hx hy hz hF hM hV hLO hGL l1 s1 g1 s2 t0 t1 t2 t3 (s5 t1 t2 t3)
  · have l1 := (s3 g1).1
    rw [l1] at s1
    rw [g1] at s2
    cases w1 : writesB x
    · skip
      cases t0 : fitsB (aliC x 0) (aliM x 0) y 0
      · skip
        cases t1 : fitsB x 1 y 0
        · exact beside_G1fa a b c x y z w ha hb hc hx hy hz hF hM hV hLO hGL l1 s1 g1 s2 w1 t0 t1
        · cases t2 : sendB y
          · exact beside_G1fb a b c x y z w ha hb hc hx hy hz hF hM hV hLO hGL l1 s1 g1 s2 w1 t0 t1 t2
          · cases t3 : localB x z
            · exact beside_G1fc a b c x y z w ha hb hc hx hy hz hF hM hV hLO hGL l1 s1 g1 s2 w1 t0 t1 t2 t3
            · exact beside_G1fd a b c x y z w ha hb hc hx hy hz hF hM hV hLO hGL l1 s1 g1 s2 w1 t0 t1 t2 t3 (s5 t1 t2 t3)
      · skip
        cases t1 : fitsB x 1 y 0
        · exact beside_G1ta a b c x y z w ha hb hc hx hy hz hF hM hV hLO hGL l1 s1 g1 s2 w1 t0 t1
        · cases t2 : sendB y
          · exact beside_G1tb a b c x y z w ha hb hc hx hy hz hF hM hV hLO hGL l1 s1 g1 s2 w1 t0 t1 t2
          · cases t3 : localB x z
            · exact beside_G1tc a b c x y z w ha hb hc hx hy hz hF hM hV hLO hGL l1 s1 g1 s2 w1 t0 t1 t2 t3
            · exact beside_G1td a b c x y z w ha hb hc hx hy hz hF hM hV hLO hGL l1 s1 g1 s2 w1 t0 t1 t2 t3 (s5 t1 t2 t3)
    · have r1 := (s3 g1).2 w1
      cases t0 : fitsB (aliC x 0) (aliM x 0) y 0
      · skip
        cases t1 : fitsB x 1 y 0
        · exact beside_G2fa a b c x y z w ha hb hc hx hy hz hF hM hV hLO hGL l1 s1 g1 s2 w1 r1 t0 t1
        · cases t2 : sendB y
          · exact beside_G2fb a b c x y z w ha hb hc hx hy hz hF hM hV hLO hGL l1 s1 g1 s2 w1 r1 t0 t1 t2
          · cases t3 : localB x z
            · exact beside_G2fc a b c x y z w ha hb hc hx hy hz hF hM hV hLO hGL l1 s1 g1 s2 w1 r1 t0 t1 t2 t3
            · exact beside_G2fd a b c x y z w ha hb hc hx hy hz hF hM hV hLO hGL l1 s1 g1 s2 w1 r1 t0 t1 t2 t3 (s5 t1 t2 t3)
      · skip
        cases t1 : fitsB x 1 y 0
        · exact beside_G2ta a b c x y z w ha hb hc hx hy hz hF hM hV hLO hGL l1 s1 g1 s2 w1 r1 t0 t1
        · cases t2 : sendB y
          · exact beside_G2tb a b c x y z w ha hb hc hx hy hz hF hM hV hLO hGL l1 s1 g1 s2 w1 r1 t0 t1 t2
          · cases t3 : localB x z
            · exact beside_G2tc a b c x y z w ha hb hc hx hy hz hF hM hV hLO hGL l1 s1 g1 s2 w1 r1 t0 t1 t2 t3
            · exact beside_G2td a b c x y z w ha hb hc hx hy hz hF hM hV hLO hGL l1 s1 g1 s2 w1 r1 t0 t1 t2 t3 (s5 t1 t2 t3)

end Cp
end Go.Proofs.YtgdfoonflkddnaaDoor
