/- CapPermits: each of the 36 pairs, walked. -/
import Derived.Test.YtgdfoonflkddnaaDoorB1
namespace Go.Proofs.YtgdfoonflkddnaaDoor
open Go.ChangeShapes Go.WideShapes Go.ChangeAt Go.RowKit
namespace Cp

theorem view_reads : ∀ x ∈ six, ∀ y ∈ six, viewB x y = readsB x := by decide +kernel
theorem view_no : ∀ x ∈ six, ∀ y ∈ six, viewB x y = true → (readsB (viewI x y) = true → readsB y = true) ∧ (writesB (viewI x y) = true → writesB x = true ∧ writesB y = true) ∧ (x = 3 → viewI x y = y) := by decide +kernel
theorem ex_writes : ∀ x ∈ six, ∀ y ∈ six, exB x y = writesB x := by decide +kernel
theorem ex_no : ∀ x ∈ six, ∀ y ∈ six, exB x y = true → (readsB (exI x y) = true → readsB y = true) ∧ (writesB (exI x y) = true → writesB y = true) := by decide +kernel

set_option maxHeartbeats 1000000 in
theorem permits_N_n (a b x y : Int) (w : World) (ha : 0 ≤ a ∧ a ≤ 255) (hb : 0 ≤ b ∧ b ≤ 255)
    (hx : 1 + a % 6 = x) (hy : 1 + b % 6 = y)
    (hF : TabAt 2 fitL w) (hM : TabAt 3 markL w) (hV : TabAt 5 viewL w)
    (e0 : viewB x y = false) (e1 : readsB x = false) (e2 : exB x y = false) (e3 : writesB x = false) :
    Calls Tryd.prog 6 #[.int .u8 a, .int .u8 b] w fun e w' => e = .returned (.bool true) ∧ ∃ q, w' = w.drewN q := by
  have F := Lib.hid hF
  have M := Lib.hid hM
  have V := Lib.hid hV
  have A := Lib.hid ha
  have B := Lib.hid hb
  have HX := Lib.hid hx
  have HY := Lib.hid hy
  clear hF hM hV ha hb hx hy
  go_enter Tryd.func6, Tryd.ntmps6
  go_wp2_with (first
        | (go_at_call 45; first | ((with_reducible refine (one_is a x HX.out _ A.out.1 A.out.2).mono ?_); rintro e w' ⟨rfl, rfl⟩) | ((with_reducible refine (one_is b y HY.out _ B.out.1 B.out.2).mono ?_); rintro e w' ⟨rfl, rfl⟩))
        | (go_at_call 26; refine (Fits_any _ _ _ _ _ (by first | exact F.out | exact F.out.drew _) (by first | exact M.out | exact M.out.drew _)).mono ?_; rintro e w' ⟨rfl, q, rfl⟩)
        | (go_at_call 24; refine (Sub_any _ _ _ (by first | exact F.out | exact F.out.drew _) (by first | exact M.out | exact M.out.drew _)).mono ?_; rintro e w' ⟨rfl, q, rfl⟩)
        | (go_at_call 18; refine (Reads_any _ _).mono ?_; rintro e w' ⟨rfl, rfl⟩)
        | (go_at_call 20; refine (Writes_any _ _).mono ?_; rintro e w' ⟨rfl, rfl⟩)
        | (go_at_call 35; refine (View_any _ _ _ (by first | exact V.out | exact V.out.drew _)).mono ?_; rintro e w' ⟨rfl, rfl⟩)
        | (go_at_call 37; refine (Extract_any _ _ _ (by first | exact V.out | exact V.out.drew _)).mono ?_; rintro e w' ⟨rfl, rfl⟩)
        | (go_at_call 34; refine (awake_any _ (by first | exact F.out | exact F.out.drew _) (by first | exact M.out | exact M.out.drew _) (by first | exact V.out | exact V.out.drew _)).mono ?_; rintro e w' ⟨rfl, q, rfl⟩))
  go_ret
  exact ⟨rfl, _, rfl⟩

set_option maxHeartbeats 1000000 in
theorem permits_N_rw (a b x y : Int) (w : World) (ha : 0 ≤ a ∧ a ≤ 255) (hb : 0 ≤ b ∧ b ≤ 255)
    (hx : 1 + a % 6 = x) (hy : 1 + b % 6 = y)
    (hF : TabAt 2 fitL w) (hM : TabAt 3 markL w) (hV : TabAt 5 viewL w)
    (e0 : viewB x y = false) (e1 : readsB x = false) (e2 : exB x y = true) (e3 : writesB x = true) (e4 : readsB (exI x y) = false) (e5 : writesB (exI x y) = false) :
    Calls Tryd.prog 6 #[.int .u8 a, .int .u8 b] w fun e w' => e = .returned (.bool true) ∧ ∃ q, w' = w.drewN q := by
  have F := Lib.hid hF
  have M := Lib.hid hM
  have V := Lib.hid hV
  have A := Lib.hid ha
  have B := Lib.hid hb
  have HX := Lib.hid hx
  have HY := Lib.hid hy
  clear hF hM hV ha hb hx hy
  go_enter Tryd.func6, Tryd.ntmps6
  go_wp2_with (first
        | (go_at_call 45; first | ((with_reducible refine (one_is a x HX.out _ A.out.1 A.out.2).mono ?_); rintro e w' ⟨rfl, rfl⟩) | ((with_reducible refine (one_is b y HY.out _ B.out.1 B.out.2).mono ?_); rintro e w' ⟨rfl, rfl⟩))
        | (go_at_call 26; refine (Fits_any _ _ _ _ _ (by first | exact F.out | exact F.out.drew _) (by first | exact M.out | exact M.out.drew _)).mono ?_; rintro e w' ⟨rfl, q, rfl⟩)
        | (go_at_call 24; refine (Sub_any _ _ _ (by first | exact F.out | exact F.out.drew _) (by first | exact M.out | exact M.out.drew _)).mono ?_; rintro e w' ⟨rfl, q, rfl⟩)
        | (go_at_call 18; refine (Reads_any _ _).mono ?_; rintro e w' ⟨rfl, rfl⟩)
        | (go_at_call 20; refine (Writes_any _ _).mono ?_; rintro e w' ⟨rfl, rfl⟩)
        | (go_at_call 35; refine (View_any _ _ _ (by first | exact V.out | exact V.out.drew _)).mono ?_; rintro e w' ⟨rfl, rfl⟩)
        | (go_at_call 37; refine (Extract_any _ _ _ (by first | exact V.out | exact V.out.drew _)).mono ?_; rintro e w' ⟨rfl, rfl⟩)
        | (go_at_call 34; refine (awake_any _ (by first | exact F.out | exact F.out.drew _) (by first | exact M.out | exact M.out.drew _) (by first | exact V.out | exact V.out.drew _)).mono ?_; rintro e w' ⟨rfl, q, rfl⟩))
  go_ret
  exact ⟨rfl, _, rfl⟩

set_option maxHeartbeats 1000000 in
theorem permits_N_rW (a b x y : Int) (w : World) (ha : 0 ≤ a ∧ a ≤ 255) (hb : 0 ≤ b ∧ b ≤ 255)
    (hx : 1 + a % 6 = x) (hy : 1 + b % 6 = y)
    (hF : TabAt 2 fitL w) (hM : TabAt 3 markL w) (hV : TabAt 5 viewL w)
    (e0 : viewB x y = false) (e1 : readsB x = false) (e2 : exB x y = true) (e3 : writesB x = true) (e4 : readsB (exI x y) = false) (e5 : writesB (exI x y) = true) (e6 : writesB y = true) :
    Calls Tryd.prog 6 #[.int .u8 a, .int .u8 b] w fun e w' => e = .returned (.bool true) ∧ ∃ q, w' = w.drewN q := by
  have F := Lib.hid hF
  have M := Lib.hid hM
  have V := Lib.hid hV
  have A := Lib.hid ha
  have B := Lib.hid hb
  have HX := Lib.hid hx
  have HY := Lib.hid hy
  clear hF hM hV ha hb hx hy
  go_enter Tryd.func6, Tryd.ntmps6
  go_wp2_with (first
        | (go_at_call 45; first | ((with_reducible refine (one_is a x HX.out _ A.out.1 A.out.2).mono ?_); rintro e w' ⟨rfl, rfl⟩) | ((with_reducible refine (one_is b y HY.out _ B.out.1 B.out.2).mono ?_); rintro e w' ⟨rfl, rfl⟩))
        | (go_at_call 26; refine (Fits_any _ _ _ _ _ (by first | exact F.out | exact F.out.drew _) (by first | exact M.out | exact M.out.drew _)).mono ?_; rintro e w' ⟨rfl, q, rfl⟩)
        | (go_at_call 24; refine (Sub_any _ _ _ (by first | exact F.out | exact F.out.drew _) (by first | exact M.out | exact M.out.drew _)).mono ?_; rintro e w' ⟨rfl, q, rfl⟩)
        | (go_at_call 18; refine (Reads_any _ _).mono ?_; rintro e w' ⟨rfl, rfl⟩)
        | (go_at_call 20; refine (Writes_any _ _).mono ?_; rintro e w' ⟨rfl, rfl⟩)
        | (go_at_call 35; refine (View_any _ _ _ (by first | exact V.out | exact V.out.drew _)).mono ?_; rintro e w' ⟨rfl, rfl⟩)
        | (go_at_call 37; refine (Extract_any _ _ _ (by first | exact V.out | exact V.out.drew _)).mono ?_; rintro e w' ⟨rfl, rfl⟩)
        | (go_at_call 34; refine (awake_any _ (by first | exact F.out | exact F.out.drew _) (by first | exact M.out | exact M.out.drew _) (by first | exact V.out | exact V.out.drew _)).mono ?_; rintro e w' ⟨rfl, q, rfl⟩))
  go_ret
  exact ⟨rfl, _, rfl⟩

set_option maxHeartbeats 1000000 in
theorem permits_N_Rw (a b x y : Int) (w : World) (ha : 0 ≤ a ∧ a ≤ 255) (hb : 0 ≤ b ∧ b ≤ 255)
    (hx : 1 + a % 6 = x) (hy : 1 + b % 6 = y)
    (hF : TabAt 2 fitL w) (hM : TabAt 3 markL w) (hV : TabAt 5 viewL w)
    (e0 : viewB x y = false) (e1 : readsB x = false) (e2 : exB x y = true) (e3 : writesB x = true) (e4 : readsB (exI x y) = true) (e5 : readsB y = true) (e6 : writesB (exI x y) = false) :
    Calls Tryd.prog 6 #[.int .u8 a, .int .u8 b] w fun e w' => e = .returned (.bool true) ∧ ∃ q, w' = w.drewN q := by
  have F := Lib.hid hF
  have M := Lib.hid hM
  have V := Lib.hid hV
  have A := Lib.hid ha
  have B := Lib.hid hb
  have HX := Lib.hid hx
  have HY := Lib.hid hy
  clear hF hM hV ha hb hx hy
  go_enter Tryd.func6, Tryd.ntmps6
  go_wp2_with (first
        | (go_at_call 45; first | ((with_reducible refine (one_is a x HX.out _ A.out.1 A.out.2).mono ?_); rintro e w' ⟨rfl, rfl⟩) | ((with_reducible refine (one_is b y HY.out _ B.out.1 B.out.2).mono ?_); rintro e w' ⟨rfl, rfl⟩))
        | (go_at_call 26; refine (Fits_any _ _ _ _ _ (by first | exact F.out | exact F.out.drew _) (by first | exact M.out | exact M.out.drew _)).mono ?_; rintro e w' ⟨rfl, q, rfl⟩)
        | (go_at_call 24; refine (Sub_any _ _ _ (by first | exact F.out | exact F.out.drew _) (by first | exact M.out | exact M.out.drew _)).mono ?_; rintro e w' ⟨rfl, q, rfl⟩)
        | (go_at_call 18; refine (Reads_any _ _).mono ?_; rintro e w' ⟨rfl, rfl⟩)
        | (go_at_call 20; refine (Writes_any _ _).mono ?_; rintro e w' ⟨rfl, rfl⟩)
        | (go_at_call 35; refine (View_any _ _ _ (by first | exact V.out | exact V.out.drew _)).mono ?_; rintro e w' ⟨rfl, rfl⟩)
        | (go_at_call 37; refine (Extract_any _ _ _ (by first | exact V.out | exact V.out.drew _)).mono ?_; rintro e w' ⟨rfl, rfl⟩)
        | (go_at_call 34; refine (awake_any _ (by first | exact F.out | exact F.out.drew _) (by first | exact M.out | exact M.out.drew _) (by first | exact V.out | exact V.out.drew _)).mono ?_; rintro e w' ⟨rfl, q, rfl⟩))
  go_ret
  exact ⟨rfl, _, rfl⟩

set_option maxHeartbeats 1000000 in
theorem permits_N_RW (a b x y : Int) (w : World) (ha : 0 ≤ a ∧ a ≤ 255) (hb : 0 ≤ b ∧ b ≤ 255)
    (hx : 1 + a % 6 = x) (hy : 1 + b % 6 = y)
    (hF : TabAt 2 fitL w) (hM : TabAt 3 markL w) (hV : TabAt 5 viewL w)
    (e0 : viewB x y = false) (e1 : readsB x = false) (e2 : exB x y = true) (e3 : writesB x = true) (e4 : readsB (exI x y) = true) (e5 : readsB y = true) (e6 : writesB (exI x y) = true) (e7 : writesB y = true) :
    Calls Tryd.prog 6 #[.int .u8 a, .int .u8 b] w fun e w' => e = .returned (.bool true) ∧ ∃ q, w' = w.drewN q := by
  have F := Lib.hid hF
  have M := Lib.hid hM
  have V := Lib.hid hV
  have A := Lib.hid ha
  have B := Lib.hid hb
  have HX := Lib.hid hx
  have HY := Lib.hid hy
  clear hF hM hV ha hb hx hy
  go_enter Tryd.func6, Tryd.ntmps6
  go_wp2_with (first
        | (go_at_call 45; first | ((with_reducible refine (one_is a x HX.out _ A.out.1 A.out.2).mono ?_); rintro e w' ⟨rfl, rfl⟩) | ((with_reducible refine (one_is b y HY.out _ B.out.1 B.out.2).mono ?_); rintro e w' ⟨rfl, rfl⟩))
        | (go_at_call 26; refine (Fits_any _ _ _ _ _ (by first | exact F.out | exact F.out.drew _) (by first | exact M.out | exact M.out.drew _)).mono ?_; rintro e w' ⟨rfl, q, rfl⟩)
        | (go_at_call 24; refine (Sub_any _ _ _ (by first | exact F.out | exact F.out.drew _) (by first | exact M.out | exact M.out.drew _)).mono ?_; rintro e w' ⟨rfl, q, rfl⟩)
        | (go_at_call 18; refine (Reads_any _ _).mono ?_; rintro e w' ⟨rfl, rfl⟩)
        | (go_at_call 20; refine (Writes_any _ _).mono ?_; rintro e w' ⟨rfl, rfl⟩)
        | (go_at_call 35; refine (View_any _ _ _ (by first | exact V.out | exact V.out.drew _)).mono ?_; rintro e w' ⟨rfl, rfl⟩)
        | (go_at_call 37; refine (Extract_any _ _ _ (by first | exact V.out | exact V.out.drew _)).mono ?_; rintro e w' ⟨rfl, rfl⟩)
        | (go_at_call 34; refine (awake_any _ (by first | exact F.out | exact F.out.drew _) (by first | exact M.out | exact M.out.drew _) (by first | exact V.out | exact V.out.drew _)).mono ?_; rintro e w' ⟨rfl, q, rfl⟩))
  go_ret
  exact ⟨rfl, _, rfl⟩

set_option maxHeartbeats 1000000 in
theorem permits_rwk_n (a b x y : Int) (w : World) (ha : 0 ≤ a ∧ a ≤ 255) (hb : 0 ≤ b ∧ b ≤ 255)
    (hx : 1 + a % 6 = x) (hy : 1 + b % 6 = y)
    (hF : TabAt 2 fitL w) (hM : TabAt 3 markL w) (hV : TabAt 5 viewL w)
    (e0 : viewB x y = true) (e1 : readsB x = true) (e2 : readsB (viewI x y) = false) (e3 : writesB (viewI x y) = false) (e4 : (x == 3) = false) (e5 : exB x y = false) (e6 : writesB x = false) :
    Calls Tryd.prog 6 #[.int .u8 a, .int .u8 b] w fun e w' => e = .returned (.bool true) ∧ ∃ q, w' = w.drewN q := by
  have F := Lib.hid hF
  have M := Lib.hid hM
  have V := Lib.hid hV
  have A := Lib.hid ha
  have B := Lib.hid hb
  have HX := Lib.hid hx
  have HY := Lib.hid hy
  clear hF hM hV ha hb hx hy
  go_enter Tryd.func6, Tryd.ntmps6
  go_wp2_with (first
        | (go_at_call 45; first | ((with_reducible refine (one_is a x HX.out _ A.out.1 A.out.2).mono ?_); rintro e w' ⟨rfl, rfl⟩) | ((with_reducible refine (one_is b y HY.out _ B.out.1 B.out.2).mono ?_); rintro e w' ⟨rfl, rfl⟩))
        | (go_at_call 26; refine (Fits_any _ _ _ _ _ (by first | exact F.out | exact F.out.drew _) (by first | exact M.out | exact M.out.drew _)).mono ?_; rintro e w' ⟨rfl, q, rfl⟩)
        | (go_at_call 24; refine (Sub_any _ _ _ (by first | exact F.out | exact F.out.drew _) (by first | exact M.out | exact M.out.drew _)).mono ?_; rintro e w' ⟨rfl, q, rfl⟩)
        | (go_at_call 18; refine (Reads_any _ _).mono ?_; rintro e w' ⟨rfl, rfl⟩)
        | (go_at_call 20; refine (Writes_any _ _).mono ?_; rintro e w' ⟨rfl, rfl⟩)
        | (go_at_call 35; refine (View_any _ _ _ (by first | exact V.out | exact V.out.drew _)).mono ?_; rintro e w' ⟨rfl, rfl⟩)
        | (go_at_call 37; refine (Extract_any _ _ _ (by first | exact V.out | exact V.out.drew _)).mono ?_; rintro e w' ⟨rfl, rfl⟩)
        | (go_at_call 34; refine (awake_any _ (by first | exact F.out | exact F.out.drew _) (by first | exact M.out | exact M.out.drew _) (by first | exact V.out | exact V.out.drew _)).mono ?_; rintro e w' ⟨rfl, q, rfl⟩))
  go_ret
  exact ⟨rfl, _, rfl⟩

set_option maxHeartbeats 1000000 in
theorem permits_rwk_rw (a b x y : Int) (w : World) (ha : 0 ≤ a ∧ a ≤ 255) (hb : 0 ≤ b ∧ b ≤ 255)
    (hx : 1 + a % 6 = x) (hy : 1 + b % 6 = y)
    (hF : TabAt 2 fitL w) (hM : TabAt 3 markL w) (hV : TabAt 5 viewL w)
    (e0 : viewB x y = true) (e1 : readsB x = true) (e2 : readsB (viewI x y) = false) (e3 : writesB (viewI x y) = false) (e4 : (x == 3) = false) (e5 : exB x y = true) (e6 : writesB x = true) (e7 : readsB (exI x y) = false) (e8 : writesB (exI x y) = false) :
    Calls Tryd.prog 6 #[.int .u8 a, .int .u8 b] w fun e w' => e = .returned (.bool true) ∧ ∃ q, w' = w.drewN q := by
  have F := Lib.hid hF
  have M := Lib.hid hM
  have V := Lib.hid hV
  have A := Lib.hid ha
  have B := Lib.hid hb
  have HX := Lib.hid hx
  have HY := Lib.hid hy
  clear hF hM hV ha hb hx hy
  go_enter Tryd.func6, Tryd.ntmps6
  go_wp2_with (first
        | (go_at_call 45; first | ((with_reducible refine (one_is a x HX.out _ A.out.1 A.out.2).mono ?_); rintro e w' ⟨rfl, rfl⟩) | ((with_reducible refine (one_is b y HY.out _ B.out.1 B.out.2).mono ?_); rintro e w' ⟨rfl, rfl⟩))
        | (go_at_call 26; refine (Fits_any _ _ _ _ _ (by first | exact F.out | exact F.out.drew _) (by first | exact M.out | exact M.out.drew _)).mono ?_; rintro e w' ⟨rfl, q, rfl⟩)
        | (go_at_call 24; refine (Sub_any _ _ _ (by first | exact F.out | exact F.out.drew _) (by first | exact M.out | exact M.out.drew _)).mono ?_; rintro e w' ⟨rfl, q, rfl⟩)
        | (go_at_call 18; refine (Reads_any _ _).mono ?_; rintro e w' ⟨rfl, rfl⟩)
        | (go_at_call 20; refine (Writes_any _ _).mono ?_; rintro e w' ⟨rfl, rfl⟩)
        | (go_at_call 35; refine (View_any _ _ _ (by first | exact V.out | exact V.out.drew _)).mono ?_; rintro e w' ⟨rfl, rfl⟩)
        | (go_at_call 37; refine (Extract_any _ _ _ (by first | exact V.out | exact V.out.drew _)).mono ?_; rintro e w' ⟨rfl, rfl⟩)
        | (go_at_call 34; refine (awake_any _ (by first | exact F.out | exact F.out.drew _) (by first | exact M.out | exact M.out.drew _) (by first | exact V.out | exact V.out.drew _)).mono ?_; rintro e w' ⟨rfl, q, rfl⟩))
  go_ret
  exact ⟨rfl, _, rfl⟩

set_option maxHeartbeats 1000000 in
theorem permits_rwk_rW (a b x y : Int) (w : World) (ha : 0 ≤ a ∧ a ≤ 255) (hb : 0 ≤ b ∧ b ≤ 255)
    (hx : 1 + a % 6 = x) (hy : 1 + b % 6 = y)
    (hF : TabAt 2 fitL w) (hM : TabAt 3 markL w) (hV : TabAt 5 viewL w)
    (e0 : viewB x y = true) (e1 : readsB x = true) (e2 : readsB (viewI x y) = false) (e3 : writesB (viewI x y) = false) (e4 : (x == 3) = false) (e5 : exB x y = true) (e6 : writesB x = true) (e7 : readsB (exI x y) = false) (e8 : writesB (exI x y) = true) (e9 : writesB y = true) :
    Calls Tryd.prog 6 #[.int .u8 a, .int .u8 b] w fun e w' => e = .returned (.bool true) ∧ ∃ q, w' = w.drewN q := by
  have F := Lib.hid hF
  have M := Lib.hid hM
  have V := Lib.hid hV
  have A := Lib.hid ha
  have B := Lib.hid hb
  have HX := Lib.hid hx
  have HY := Lib.hid hy
  clear hF hM hV ha hb hx hy
  go_enter Tryd.func6, Tryd.ntmps6
  go_wp2_with (first
        | (go_at_call 45; first | ((with_reducible refine (one_is a x HX.out _ A.out.1 A.out.2).mono ?_); rintro e w' ⟨rfl, rfl⟩) | ((with_reducible refine (one_is b y HY.out _ B.out.1 B.out.2).mono ?_); rintro e w' ⟨rfl, rfl⟩))
        | (go_at_call 26; refine (Fits_any _ _ _ _ _ (by first | exact F.out | exact F.out.drew _) (by first | exact M.out | exact M.out.drew _)).mono ?_; rintro e w' ⟨rfl, q, rfl⟩)
        | (go_at_call 24; refine (Sub_any _ _ _ (by first | exact F.out | exact F.out.drew _) (by first | exact M.out | exact M.out.drew _)).mono ?_; rintro e w' ⟨rfl, q, rfl⟩)
        | (go_at_call 18; refine (Reads_any _ _).mono ?_; rintro e w' ⟨rfl, rfl⟩)
        | (go_at_call 20; refine (Writes_any _ _).mono ?_; rintro e w' ⟨rfl, rfl⟩)
        | (go_at_call 35; refine (View_any _ _ _ (by first | exact V.out | exact V.out.drew _)).mono ?_; rintro e w' ⟨rfl, rfl⟩)
        | (go_at_call 37; refine (Extract_any _ _ _ (by first | exact V.out | exact V.out.drew _)).mono ?_; rintro e w' ⟨rfl, rfl⟩)
        | (go_at_call 34; refine (awake_any _ (by first | exact F.out | exact F.out.drew _) (by first | exact M.out | exact M.out.drew _) (by first | exact V.out | exact V.out.drew _)).mono ?_; rintro e w' ⟨rfl, q, rfl⟩))
  go_ret
  exact ⟨rfl, _, rfl⟩

set_option maxHeartbeats 1000000 in
theorem permits_rwk_Rw (a b x y : Int) (w : World) (ha : 0 ≤ a ∧ a ≤ 255) (hb : 0 ≤ b ∧ b ≤ 255)
    (hx : 1 + a % 6 = x) (hy : 1 + b % 6 = y)
    (hF : TabAt 2 fitL w) (hM : TabAt 3 markL w) (hV : TabAt 5 viewL w)
    (e0 : viewB x y = true) (e1 : readsB x = true) (e2 : readsB (viewI x y) = false) (e3 : writesB (viewI x y) = false) (e4 : (x == 3) = false) (e5 : exB x y = true) (e6 : writesB x = true) (e7 : readsB (exI x y) = true) (e8 : readsB y = true) (e9 : writesB (exI x y) = false) :
    Calls Tryd.prog 6 #[.int .u8 a, .int .u8 b] w fun e w' => e = .returned (.bool true) ∧ ∃ q, w' = w.drewN q := by
  have F := Lib.hid hF
  have M := Lib.hid hM
  have V := Lib.hid hV
  have A := Lib.hid ha
  have B := Lib.hid hb
  have HX := Lib.hid hx
  have HY := Lib.hid hy
  clear hF hM hV ha hb hx hy
  go_enter Tryd.func6, Tryd.ntmps6
  go_wp2_with (first
        | (go_at_call 45; first | ((with_reducible refine (one_is a x HX.out _ A.out.1 A.out.2).mono ?_); rintro e w' ⟨rfl, rfl⟩) | ((with_reducible refine (one_is b y HY.out _ B.out.1 B.out.2).mono ?_); rintro e w' ⟨rfl, rfl⟩))
        | (go_at_call 26; refine (Fits_any _ _ _ _ _ (by first | exact F.out | exact F.out.drew _) (by first | exact M.out | exact M.out.drew _)).mono ?_; rintro e w' ⟨rfl, q, rfl⟩)
        | (go_at_call 24; refine (Sub_any _ _ _ (by first | exact F.out | exact F.out.drew _) (by first | exact M.out | exact M.out.drew _)).mono ?_; rintro e w' ⟨rfl, q, rfl⟩)
        | (go_at_call 18; refine (Reads_any _ _).mono ?_; rintro e w' ⟨rfl, rfl⟩)
        | (go_at_call 20; refine (Writes_any _ _).mono ?_; rintro e w' ⟨rfl, rfl⟩)
        | (go_at_call 35; refine (View_any _ _ _ (by first | exact V.out | exact V.out.drew _)).mono ?_; rintro e w' ⟨rfl, rfl⟩)
        | (go_at_call 37; refine (Extract_any _ _ _ (by first | exact V.out | exact V.out.drew _)).mono ?_; rintro e w' ⟨rfl, rfl⟩)
        | (go_at_call 34; refine (awake_any _ (by first | exact F.out | exact F.out.drew _) (by first | exact M.out | exact M.out.drew _) (by first | exact V.out | exact V.out.drew _)).mono ?_; rintro e w' ⟨rfl, q, rfl⟩))
  go_ret
  exact ⟨rfl, _, rfl⟩

set_option maxHeartbeats 1000000 in
theorem permits_rwk_RW (a b x y : Int) (w : World) (ha : 0 ≤ a ∧ a ≤ 255) (hb : 0 ≤ b ∧ b ≤ 255)
    (hx : 1 + a % 6 = x) (hy : 1 + b % 6 = y)
    (hF : TabAt 2 fitL w) (hM : TabAt 3 markL w) (hV : TabAt 5 viewL w)
    (e0 : viewB x y = true) (e1 : readsB x = true) (e2 : readsB (viewI x y) = false) (e3 : writesB (viewI x y) = false) (e4 : (x == 3) = false) (e5 : exB x y = true) (e6 : writesB x = true) (e7 : readsB (exI x y) = true) (e8 : readsB y = true) (e9 : writesB (exI x y) = true) (e10 : writesB y = true) :
    Calls Tryd.prog 6 #[.int .u8 a, .int .u8 b] w fun e w' => e = .returned (.bool true) ∧ ∃ q, w' = w.drewN q := by
  have F := Lib.hid hF
  have M := Lib.hid hM
  have V := Lib.hid hV
  have A := Lib.hid ha
  have B := Lib.hid hb
  have HX := Lib.hid hx
  have HY := Lib.hid hy
  clear hF hM hV ha hb hx hy
  go_enter Tryd.func6, Tryd.ntmps6
  go_wp2_with (first
        | (go_at_call 45; first | ((with_reducible refine (one_is a x HX.out _ A.out.1 A.out.2).mono ?_); rintro e w' ⟨rfl, rfl⟩) | ((with_reducible refine (one_is b y HY.out _ B.out.1 B.out.2).mono ?_); rintro e w' ⟨rfl, rfl⟩))
        | (go_at_call 26; refine (Fits_any _ _ _ _ _ (by first | exact F.out | exact F.out.drew _) (by first | exact M.out | exact M.out.drew _)).mono ?_; rintro e w' ⟨rfl, q, rfl⟩)
        | (go_at_call 24; refine (Sub_any _ _ _ (by first | exact F.out | exact F.out.drew _) (by first | exact M.out | exact M.out.drew _)).mono ?_; rintro e w' ⟨rfl, q, rfl⟩)
        | (go_at_call 18; refine (Reads_any _ _).mono ?_; rintro e w' ⟨rfl, rfl⟩)
        | (go_at_call 20; refine (Writes_any _ _).mono ?_; rintro e w' ⟨rfl, rfl⟩)
        | (go_at_call 35; refine (View_any _ _ _ (by first | exact V.out | exact V.out.drew _)).mono ?_; rintro e w' ⟨rfl, rfl⟩)
        | (go_at_call 37; refine (Extract_any _ _ _ (by first | exact V.out | exact V.out.drew _)).mono ?_; rintro e w' ⟨rfl, rfl⟩)
        | (go_at_call 34; refine (awake_any _ (by first | exact F.out | exact F.out.drew _) (by first | exact M.out | exact M.out.drew _) (by first | exact V.out | exact V.out.drew _)).mono ?_; rintro e w' ⟨rfl, q, rfl⟩))
  go_ret
  exact ⟨rfl, _, rfl⟩

set_option maxHeartbeats 1000000 in
theorem permits_rwK_n (a b x y : Int) (w : World) (ha : 0 ≤ a ∧ a ≤ 255) (hb : 0 ≤ b ∧ b ≤ 255)
    (hx : 1 + a % 6 = x) (hy : 1 + b % 6 = y)
    (hF : TabAt 2 fitL w) (hM : TabAt 3 markL w) (hV : TabAt 5 viewL w)
    (e0 : viewB x y = true) (e1 : readsB x = true) (e2 : readsB (viewI x y) = false) (e3 : writesB (viewI x y) = false) (e4 : (x == 3) = true) (e5 : (viewI x y != y) = false) (e6 : exB x y = false) (e7 : writesB x = false) :
    Calls Tryd.prog 6 #[.int .u8 a, .int .u8 b] w fun e w' => e = .returned (.bool true) ∧ ∃ q, w' = w.drewN q := by
  have F := Lib.hid hF
  have M := Lib.hid hM
  have V := Lib.hid hV
  have A := Lib.hid ha
  have B := Lib.hid hb
  have HX := Lib.hid hx
  have HY := Lib.hid hy
  clear hF hM hV ha hb hx hy
  go_enter Tryd.func6, Tryd.ntmps6
  go_wp2_with (first
        | (go_at_call 45; first | ((with_reducible refine (one_is a x HX.out _ A.out.1 A.out.2).mono ?_); rintro e w' ⟨rfl, rfl⟩) | ((with_reducible refine (one_is b y HY.out _ B.out.1 B.out.2).mono ?_); rintro e w' ⟨rfl, rfl⟩))
        | (go_at_call 26; refine (Fits_any _ _ _ _ _ (by first | exact F.out | exact F.out.drew _) (by first | exact M.out | exact M.out.drew _)).mono ?_; rintro e w' ⟨rfl, q, rfl⟩)
        | (go_at_call 24; refine (Sub_any _ _ _ (by first | exact F.out | exact F.out.drew _) (by first | exact M.out | exact M.out.drew _)).mono ?_; rintro e w' ⟨rfl, q, rfl⟩)
        | (go_at_call 18; refine (Reads_any _ _).mono ?_; rintro e w' ⟨rfl, rfl⟩)
        | (go_at_call 20; refine (Writes_any _ _).mono ?_; rintro e w' ⟨rfl, rfl⟩)
        | (go_at_call 35; refine (View_any _ _ _ (by first | exact V.out | exact V.out.drew _)).mono ?_; rintro e w' ⟨rfl, rfl⟩)
        | (go_at_call 37; refine (Extract_any _ _ _ (by first | exact V.out | exact V.out.drew _)).mono ?_; rintro e w' ⟨rfl, rfl⟩)
        | (go_at_call 34; refine (awake_any _ (by first | exact F.out | exact F.out.drew _) (by first | exact M.out | exact M.out.drew _) (by first | exact V.out | exact V.out.drew _)).mono ?_; rintro e w' ⟨rfl, q, rfl⟩))
  go_ret
  exact ⟨rfl, _, rfl⟩

set_option maxHeartbeats 1000000 in
theorem permits_rwK_rw (a b x y : Int) (w : World) (ha : 0 ≤ a ∧ a ≤ 255) (hb : 0 ≤ b ∧ b ≤ 255)
    (hx : 1 + a % 6 = x) (hy : 1 + b % 6 = y)
    (hF : TabAt 2 fitL w) (hM : TabAt 3 markL w) (hV : TabAt 5 viewL w)
    (e0 : viewB x y = true) (e1 : readsB x = true) (e2 : readsB (viewI x y) = false) (e3 : writesB (viewI x y) = false) (e4 : (x == 3) = true) (e5 : (viewI x y != y) = false) (e6 : exB x y = true) (e7 : writesB x = true) (e8 : readsB (exI x y) = false) (e9 : writesB (exI x y) = false) :
    Calls Tryd.prog 6 #[.int .u8 a, .int .u8 b] w fun e w' => e = .returned (.bool true) ∧ ∃ q, w' = w.drewN q := by
  have F := Lib.hid hF
  have M := Lib.hid hM
  have V := Lib.hid hV
  have A := Lib.hid ha
  have B := Lib.hid hb
  have HX := Lib.hid hx
  have HY := Lib.hid hy
  clear hF hM hV ha hb hx hy
  go_enter Tryd.func6, Tryd.ntmps6
  go_wp2_with (first
        | (go_at_call 45; first | ((with_reducible refine (one_is a x HX.out _ A.out.1 A.out.2).mono ?_); rintro e w' ⟨rfl, rfl⟩) | ((with_reducible refine (one_is b y HY.out _ B.out.1 B.out.2).mono ?_); rintro e w' ⟨rfl, rfl⟩))
        | (go_at_call 26; refine (Fits_any _ _ _ _ _ (by first | exact F.out | exact F.out.drew _) (by first | exact M.out | exact M.out.drew _)).mono ?_; rintro e w' ⟨rfl, q, rfl⟩)
        | (go_at_call 24; refine (Sub_any _ _ _ (by first | exact F.out | exact F.out.drew _) (by first | exact M.out | exact M.out.drew _)).mono ?_; rintro e w' ⟨rfl, q, rfl⟩)
        | (go_at_call 18; refine (Reads_any _ _).mono ?_; rintro e w' ⟨rfl, rfl⟩)
        | (go_at_call 20; refine (Writes_any _ _).mono ?_; rintro e w' ⟨rfl, rfl⟩)
        | (go_at_call 35; refine (View_any _ _ _ (by first | exact V.out | exact V.out.drew _)).mono ?_; rintro e w' ⟨rfl, rfl⟩)
        | (go_at_call 37; refine (Extract_any _ _ _ (by first | exact V.out | exact V.out.drew _)).mono ?_; rintro e w' ⟨rfl, rfl⟩)
        | (go_at_call 34; refine (awake_any _ (by first | exact F.out | exact F.out.drew _) (by first | exact M.out | exact M.out.drew _) (by first | exact V.out | exact V.out.drew _)).mono ?_; rintro e w' ⟨rfl, q, rfl⟩))
  go_ret
  exact ⟨rfl, _, rfl⟩

set_option maxHeartbeats 1000000 in
theorem permits_rwK_rW (a b x y : Int) (w : World) (ha : 0 ≤ a ∧ a ≤ 255) (hb : 0 ≤ b ∧ b ≤ 255)
    (hx : 1 + a % 6 = x) (hy : 1 + b % 6 = y)
    (hF : TabAt 2 fitL w) (hM : TabAt 3 markL w) (hV : TabAt 5 viewL w)
    (e0 : viewB x y = true) (e1 : readsB x = true) (e2 : readsB (viewI x y) = false) (e3 : writesB (viewI x y) = false) (e4 : (x == 3) = true) (e5 : (viewI x y != y) = false) (e6 : exB x y = true) (e7 : writesB x = true) (e8 : readsB (exI x y) = false) (e9 : writesB (exI x y) = true) (e10 : writesB y = true) :
    Calls Tryd.prog 6 #[.int .u8 a, .int .u8 b] w fun e w' => e = .returned (.bool true) ∧ ∃ q, w' = w.drewN q := by
  have F := Lib.hid hF
  have M := Lib.hid hM
  have V := Lib.hid hV
  have A := Lib.hid ha
  have B := Lib.hid hb
  have HX := Lib.hid hx
  have HY := Lib.hid hy
  clear hF hM hV ha hb hx hy
  go_enter Tryd.func6, Tryd.ntmps6
  go_wp2_with (first
        | (go_at_call 45; first | ((with_reducible refine (one_is a x HX.out _ A.out.1 A.out.2).mono ?_); rintro e w' ⟨rfl, rfl⟩) | ((with_reducible refine (one_is b y HY.out _ B.out.1 B.out.2).mono ?_); rintro e w' ⟨rfl, rfl⟩))
        | (go_at_call 26; refine (Fits_any _ _ _ _ _ (by first | exact F.out | exact F.out.drew _) (by first | exact M.out | exact M.out.drew _)).mono ?_; rintro e w' ⟨rfl, q, rfl⟩)
        | (go_at_call 24; refine (Sub_any _ _ _ (by first | exact F.out | exact F.out.drew _) (by first | exact M.out | exact M.out.drew _)).mono ?_; rintro e w' ⟨rfl, q, rfl⟩)
        | (go_at_call 18; refine (Reads_any _ _).mono ?_; rintro e w' ⟨rfl, rfl⟩)
        | (go_at_call 20; refine (Writes_any _ _).mono ?_; rintro e w' ⟨rfl, rfl⟩)
        | (go_at_call 35; refine (View_any _ _ _ (by first | exact V.out | exact V.out.drew _)).mono ?_; rintro e w' ⟨rfl, rfl⟩)
        | (go_at_call 37; refine (Extract_any _ _ _ (by first | exact V.out | exact V.out.drew _)).mono ?_; rintro e w' ⟨rfl, rfl⟩)
        | (go_at_call 34; refine (awake_any _ (by first | exact F.out | exact F.out.drew _) (by first | exact M.out | exact M.out.drew _) (by first | exact V.out | exact V.out.drew _)).mono ?_; rintro e w' ⟨rfl, q, rfl⟩))
  go_ret
  exact ⟨rfl, _, rfl⟩

set_option maxHeartbeats 1000000 in
theorem permits_rwK_Rw (a b x y : Int) (w : World) (ha : 0 ≤ a ∧ a ≤ 255) (hb : 0 ≤ b ∧ b ≤ 255)
    (hx : 1 + a % 6 = x) (hy : 1 + b % 6 = y)
    (hF : TabAt 2 fitL w) (hM : TabAt 3 markL w) (hV : TabAt 5 viewL w)
    (e0 : viewB x y = true) (e1 : readsB x = true) (e2 : readsB (viewI x y) = false) (e3 : writesB (viewI x y) = false) (e4 : (x == 3) = true) (e5 : (viewI x y != y) = false) (e6 : exB x y = true) (e7 : writesB x = true) (e8 : readsB (exI x y) = true) (e9 : readsB y = true) (e10 : writesB (exI x y) = false) :
    Calls Tryd.prog 6 #[.int .u8 a, .int .u8 b] w fun e w' => e = .returned (.bool true) ∧ ∃ q, w' = w.drewN q := by
  have F := Lib.hid hF
  have M := Lib.hid hM
  have V := Lib.hid hV
  have A := Lib.hid ha
  have B := Lib.hid hb
  have HX := Lib.hid hx
  have HY := Lib.hid hy
  clear hF hM hV ha hb hx hy
  go_enter Tryd.func6, Tryd.ntmps6
  go_wp2_with (first
        | (go_at_call 45; first | ((with_reducible refine (one_is a x HX.out _ A.out.1 A.out.2).mono ?_); rintro e w' ⟨rfl, rfl⟩) | ((with_reducible refine (one_is b y HY.out _ B.out.1 B.out.2).mono ?_); rintro e w' ⟨rfl, rfl⟩))
        | (go_at_call 26; refine (Fits_any _ _ _ _ _ (by first | exact F.out | exact F.out.drew _) (by first | exact M.out | exact M.out.drew _)).mono ?_; rintro e w' ⟨rfl, q, rfl⟩)
        | (go_at_call 24; refine (Sub_any _ _ _ (by first | exact F.out | exact F.out.drew _) (by first | exact M.out | exact M.out.drew _)).mono ?_; rintro e w' ⟨rfl, q, rfl⟩)
        | (go_at_call 18; refine (Reads_any _ _).mono ?_; rintro e w' ⟨rfl, rfl⟩)
        | (go_at_call 20; refine (Writes_any _ _).mono ?_; rintro e w' ⟨rfl, rfl⟩)
        | (go_at_call 35; refine (View_any _ _ _ (by first | exact V.out | exact V.out.drew _)).mono ?_; rintro e w' ⟨rfl, rfl⟩)
        | (go_at_call 37; refine (Extract_any _ _ _ (by first | exact V.out | exact V.out.drew _)).mono ?_; rintro e w' ⟨rfl, rfl⟩)
        | (go_at_call 34; refine (awake_any _ (by first | exact F.out | exact F.out.drew _) (by first | exact M.out | exact M.out.drew _) (by first | exact V.out | exact V.out.drew _)).mono ?_; rintro e w' ⟨rfl, q, rfl⟩))
  go_ret
  exact ⟨rfl, _, rfl⟩

set_option maxHeartbeats 1000000 in
theorem permits_rwK_RW (a b x y : Int) (w : World) (ha : 0 ≤ a ∧ a ≤ 255) (hb : 0 ≤ b ∧ b ≤ 255)
    (hx : 1 + a % 6 = x) (hy : 1 + b % 6 = y)
    (hF : TabAt 2 fitL w) (hM : TabAt 3 markL w) (hV : TabAt 5 viewL w)
    (e0 : viewB x y = true) (e1 : readsB x = true) (e2 : readsB (viewI x y) = false) (e3 : writesB (viewI x y) = false) (e4 : (x == 3) = true) (e5 : (viewI x y != y) = false) (e6 : exB x y = true) (e7 : writesB x = true) (e8 : readsB (exI x y) = true) (e9 : readsB y = true) (e10 : writesB (exI x y) = true) (e11 : writesB y = true) :
    Calls Tryd.prog 6 #[.int .u8 a, .int .u8 b] w fun e w' => e = .returned (.bool true) ∧ ∃ q, w' = w.drewN q := by
  have F := Lib.hid hF
  have M := Lib.hid hM
  have V := Lib.hid hV
  have A := Lib.hid ha
  have B := Lib.hid hb
  have HX := Lib.hid hx
  have HY := Lib.hid hy
  clear hF hM hV ha hb hx hy
  go_enter Tryd.func6, Tryd.ntmps6
  go_wp2_with (first
        | (go_at_call 45; first | ((with_reducible refine (one_is a x HX.out _ A.out.1 A.out.2).mono ?_); rintro e w' ⟨rfl, rfl⟩) | ((with_reducible refine (one_is b y HY.out _ B.out.1 B.out.2).mono ?_); rintro e w' ⟨rfl, rfl⟩))
        | (go_at_call 26; refine (Fits_any _ _ _ _ _ (by first | exact F.out | exact F.out.drew _) (by first | exact M.out | exact M.out.drew _)).mono ?_; rintro e w' ⟨rfl, q, rfl⟩)
        | (go_at_call 24; refine (Sub_any _ _ _ (by first | exact F.out | exact F.out.drew _) (by first | exact M.out | exact M.out.drew _)).mono ?_; rintro e w' ⟨rfl, q, rfl⟩)
        | (go_at_call 18; refine (Reads_any _ _).mono ?_; rintro e w' ⟨rfl, rfl⟩)
        | (go_at_call 20; refine (Writes_any _ _).mono ?_; rintro e w' ⟨rfl, rfl⟩)
        | (go_at_call 35; refine (View_any _ _ _ (by first | exact V.out | exact V.out.drew _)).mono ?_; rintro e w' ⟨rfl, rfl⟩)
        | (go_at_call 37; refine (Extract_any _ _ _ (by first | exact V.out | exact V.out.drew _)).mono ?_; rintro e w' ⟨rfl, rfl⟩)
        | (go_at_call 34; refine (awake_any _ (by first | exact F.out | exact F.out.drew _) (by first | exact M.out | exact M.out.drew _) (by first | exact V.out | exact V.out.drew _)).mono ?_; rintro e w' ⟨rfl, q, rfl⟩))
  go_ret
  exact ⟨rfl, _, rfl⟩

set_option maxHeartbeats 1000000 in
theorem permits_rWk_rw (a b x y : Int) (w : World) (ha : 0 ≤ a ∧ a ≤ 255) (hb : 0 ≤ b ∧ b ≤ 255)
    (hx : 1 + a % 6 = x) (hy : 1 + b % 6 = y)
    (hF : TabAt 2 fitL w) (hM : TabAt 3 markL w) (hV : TabAt 5 viewL w)
    (e0 : viewB x y = true) (e1 : readsB x = true) (e2 : readsB (viewI x y) = false) (e3 : writesB (viewI x y) = true) (e4 : writesB x = true) (e5 : writesB y = true) (e6 : (x == 3) = false) (e7 : exB x y = true) (e8 : readsB (exI x y) = false) (e9 : writesB (exI x y) = false) :
    Calls Tryd.prog 6 #[.int .u8 a, .int .u8 b] w fun e w' => e = .returned (.bool true) ∧ ∃ q, w' = w.drewN q := by
  have F := Lib.hid hF
  have M := Lib.hid hM
  have V := Lib.hid hV
  have A := Lib.hid ha
  have B := Lib.hid hb
  have HX := Lib.hid hx
  have HY := Lib.hid hy
  clear hF hM hV ha hb hx hy
  go_enter Tryd.func6, Tryd.ntmps6
  go_wp2_with (first
        | (go_at_call 45; first | ((with_reducible refine (one_is a x HX.out _ A.out.1 A.out.2).mono ?_); rintro e w' ⟨rfl, rfl⟩) | ((with_reducible refine (one_is b y HY.out _ B.out.1 B.out.2).mono ?_); rintro e w' ⟨rfl, rfl⟩))
        | (go_at_call 26; refine (Fits_any _ _ _ _ _ (by first | exact F.out | exact F.out.drew _) (by first | exact M.out | exact M.out.drew _)).mono ?_; rintro e w' ⟨rfl, q, rfl⟩)
        | (go_at_call 24; refine (Sub_any _ _ _ (by first | exact F.out | exact F.out.drew _) (by first | exact M.out | exact M.out.drew _)).mono ?_; rintro e w' ⟨rfl, q, rfl⟩)
        | (go_at_call 18; refine (Reads_any _ _).mono ?_; rintro e w' ⟨rfl, rfl⟩)
        | (go_at_call 20; refine (Writes_any _ _).mono ?_; rintro e w' ⟨rfl, rfl⟩)
        | (go_at_call 35; refine (View_any _ _ _ (by first | exact V.out | exact V.out.drew _)).mono ?_; rintro e w' ⟨rfl, rfl⟩)
        | (go_at_call 37; refine (Extract_any _ _ _ (by first | exact V.out | exact V.out.drew _)).mono ?_; rintro e w' ⟨rfl, rfl⟩)
        | (go_at_call 34; refine (awake_any _ (by first | exact F.out | exact F.out.drew _) (by first | exact M.out | exact M.out.drew _) (by first | exact V.out | exact V.out.drew _)).mono ?_; rintro e w' ⟨rfl, q, rfl⟩))
  go_ret
  exact ⟨rfl, _, rfl⟩

set_option maxHeartbeats 1000000 in
theorem permits_rWk_rW (a b x y : Int) (w : World) (ha : 0 ≤ a ∧ a ≤ 255) (hb : 0 ≤ b ∧ b ≤ 255)
    (hx : 1 + a % 6 = x) (hy : 1 + b % 6 = y)
    (hF : TabAt 2 fitL w) (hM : TabAt 3 markL w) (hV : TabAt 5 viewL w)
    (e0 : viewB x y = true) (e1 : readsB x = true) (e2 : readsB (viewI x y) = false) (e3 : writesB (viewI x y) = true) (e4 : writesB x = true) (e5 : writesB y = true) (e6 : (x == 3) = false) (e7 : exB x y = true) (e8 : readsB (exI x y) = false) (e9 : writesB (exI x y) = true) :
    Calls Tryd.prog 6 #[.int .u8 a, .int .u8 b] w fun e w' => e = .returned (.bool true) ∧ ∃ q, w' = w.drewN q := by
  have F := Lib.hid hF
  have M := Lib.hid hM
  have V := Lib.hid hV
  have A := Lib.hid ha
  have B := Lib.hid hb
  have HX := Lib.hid hx
  have HY := Lib.hid hy
  clear hF hM hV ha hb hx hy
  go_enter Tryd.func6, Tryd.ntmps6
  go_wp2_with (first
        | (go_at_call 45; first | ((with_reducible refine (one_is a x HX.out _ A.out.1 A.out.2).mono ?_); rintro e w' ⟨rfl, rfl⟩) | ((with_reducible refine (one_is b y HY.out _ B.out.1 B.out.2).mono ?_); rintro e w' ⟨rfl, rfl⟩))
        | (go_at_call 26; refine (Fits_any _ _ _ _ _ (by first | exact F.out | exact F.out.drew _) (by first | exact M.out | exact M.out.drew _)).mono ?_; rintro e w' ⟨rfl, q, rfl⟩)
        | (go_at_call 24; refine (Sub_any _ _ _ (by first | exact F.out | exact F.out.drew _) (by first | exact M.out | exact M.out.drew _)).mono ?_; rintro e w' ⟨rfl, q, rfl⟩)
        | (go_at_call 18; refine (Reads_any _ _).mono ?_; rintro e w' ⟨rfl, rfl⟩)
        | (go_at_call 20; refine (Writes_any _ _).mono ?_; rintro e w' ⟨rfl, rfl⟩)
        | (go_at_call 35; refine (View_any _ _ _ (by first | exact V.out | exact V.out.drew _)).mono ?_; rintro e w' ⟨rfl, rfl⟩)
        | (go_at_call 37; refine (Extract_any _ _ _ (by first | exact V.out | exact V.out.drew _)).mono ?_; rintro e w' ⟨rfl, rfl⟩)
        | (go_at_call 34; refine (awake_any _ (by first | exact F.out | exact F.out.drew _) (by first | exact M.out | exact M.out.drew _) (by first | exact V.out | exact V.out.drew _)).mono ?_; rintro e w' ⟨rfl, q, rfl⟩))
  go_ret
  exact ⟨rfl, _, rfl⟩

set_option maxHeartbeats 1000000 in
theorem permits_rWk_Rw (a b x y : Int) (w : World) (ha : 0 ≤ a ∧ a ≤ 255) (hb : 0 ≤ b ∧ b ≤ 255)
    (hx : 1 + a % 6 = x) (hy : 1 + b % 6 = y)
    (hF : TabAt 2 fitL w) (hM : TabAt 3 markL w) (hV : TabAt 5 viewL w)
    (e0 : viewB x y = true) (e1 : readsB x = true) (e2 : readsB (viewI x y) = false) (e3 : writesB (viewI x y) = true) (e4 : writesB x = true) (e5 : writesB y = true) (e6 : (x == 3) = false) (e7 : exB x y = true) (e8 : readsB (exI x y) = true) (e9 : readsB y = true) (e10 : writesB (exI x y) = false) :
    Calls Tryd.prog 6 #[.int .u8 a, .int .u8 b] w fun e w' => e = .returned (.bool true) ∧ ∃ q, w' = w.drewN q := by
  have F := Lib.hid hF
  have M := Lib.hid hM
  have V := Lib.hid hV
  have A := Lib.hid ha
  have B := Lib.hid hb
  have HX := Lib.hid hx
  have HY := Lib.hid hy
  clear hF hM hV ha hb hx hy
  go_enter Tryd.func6, Tryd.ntmps6
  go_wp2_with (first
        | (go_at_call 45; first | ((with_reducible refine (one_is a x HX.out _ A.out.1 A.out.2).mono ?_); rintro e w' ⟨rfl, rfl⟩) | ((with_reducible refine (one_is b y HY.out _ B.out.1 B.out.2).mono ?_); rintro e w' ⟨rfl, rfl⟩))
        | (go_at_call 26; refine (Fits_any _ _ _ _ _ (by first | exact F.out | exact F.out.drew _) (by first | exact M.out | exact M.out.drew _)).mono ?_; rintro e w' ⟨rfl, q, rfl⟩)
        | (go_at_call 24; refine (Sub_any _ _ _ (by first | exact F.out | exact F.out.drew _) (by first | exact M.out | exact M.out.drew _)).mono ?_; rintro e w' ⟨rfl, q, rfl⟩)
        | (go_at_call 18; refine (Reads_any _ _).mono ?_; rintro e w' ⟨rfl, rfl⟩)
        | (go_at_call 20; refine (Writes_any _ _).mono ?_; rintro e w' ⟨rfl, rfl⟩)
        | (go_at_call 35; refine (View_any _ _ _ (by first | exact V.out | exact V.out.drew _)).mono ?_; rintro e w' ⟨rfl, rfl⟩)
        | (go_at_call 37; refine (Extract_any _ _ _ (by first | exact V.out | exact V.out.drew _)).mono ?_; rintro e w' ⟨rfl, rfl⟩)
        | (go_at_call 34; refine (awake_any _ (by first | exact F.out | exact F.out.drew _) (by first | exact M.out | exact M.out.drew _) (by first | exact V.out | exact V.out.drew _)).mono ?_; rintro e w' ⟨rfl, q, rfl⟩))
  go_ret
  exact ⟨rfl, _, rfl⟩

set_option maxHeartbeats 1000000 in
theorem permits_rWk_RW (a b x y : Int) (w : World) (ha : 0 ≤ a ∧ a ≤ 255) (hb : 0 ≤ b ∧ b ≤ 255)
    (hx : 1 + a % 6 = x) (hy : 1 + b % 6 = y)
    (hF : TabAt 2 fitL w) (hM : TabAt 3 markL w) (hV : TabAt 5 viewL w)
    (e0 : viewB x y = true) (e1 : readsB x = true) (e2 : readsB (viewI x y) = false) (e3 : writesB (viewI x y) = true) (e4 : writesB x = true) (e5 : writesB y = true) (e6 : (x == 3) = false) (e7 : exB x y = true) (e8 : readsB (exI x y) = true) (e9 : readsB y = true) (e10 : writesB (exI x y) = true) :
    Calls Tryd.prog 6 #[.int .u8 a, .int .u8 b] w fun e w' => e = .returned (.bool true) ∧ ∃ q, w' = w.drewN q := by
  have F := Lib.hid hF
  have M := Lib.hid hM
  have V := Lib.hid hV
  have A := Lib.hid ha
  have B := Lib.hid hb
  have HX := Lib.hid hx
  have HY := Lib.hid hy
  clear hF hM hV ha hb hx hy
  go_enter Tryd.func6, Tryd.ntmps6
  go_wp2_with (first
        | (go_at_call 45; first | ((with_reducible refine (one_is a x HX.out _ A.out.1 A.out.2).mono ?_); rintro e w' ⟨rfl, rfl⟩) | ((with_reducible refine (one_is b y HY.out _ B.out.1 B.out.2).mono ?_); rintro e w' ⟨rfl, rfl⟩))
        | (go_at_call 26; refine (Fits_any _ _ _ _ _ (by first | exact F.out | exact F.out.drew _) (by first | exact M.out | exact M.out.drew _)).mono ?_; rintro e w' ⟨rfl, q, rfl⟩)
        | (go_at_call 24; refine (Sub_any _ _ _ (by first | exact F.out | exact F.out.drew _) (by first | exact M.out | exact M.out.drew _)).mono ?_; rintro e w' ⟨rfl, q, rfl⟩)
        | (go_at_call 18; refine (Reads_any _ _).mono ?_; rintro e w' ⟨rfl, rfl⟩)
        | (go_at_call 20; refine (Writes_any _ _).mono ?_; rintro e w' ⟨rfl, rfl⟩)
        | (go_at_call 35; refine (View_any _ _ _ (by first | exact V.out | exact V.out.drew _)).mono ?_; rintro e w' ⟨rfl, rfl⟩)
        | (go_at_call 37; refine (Extract_any _ _ _ (by first | exact V.out | exact V.out.drew _)).mono ?_; rintro e w' ⟨rfl, rfl⟩)
        | (go_at_call 34; refine (awake_any _ (by first | exact F.out | exact F.out.drew _) (by first | exact M.out | exact M.out.drew _) (by first | exact V.out | exact V.out.drew _)).mono ?_; rintro e w' ⟨rfl, q, rfl⟩))
  go_ret
  exact ⟨rfl, _, rfl⟩

set_option maxHeartbeats 1000000 in
theorem permits_rWK_rw (a b x y : Int) (w : World) (ha : 0 ≤ a ∧ a ≤ 255) (hb : 0 ≤ b ∧ b ≤ 255)
    (hx : 1 + a % 6 = x) (hy : 1 + b % 6 = y)
    (hF : TabAt 2 fitL w) (hM : TabAt 3 markL w) (hV : TabAt 5 viewL w)
    (e0 : viewB x y = true) (e1 : readsB x = true) (e2 : readsB (viewI x y) = false) (e3 : writesB (viewI x y) = true) (e4 : writesB x = true) (e5 : writesB y = true) (e6 : (x == 3) = true) (e7 : (viewI x y != y) = false) (e8 : exB x y = true) (e9 : readsB (exI x y) = false) (e10 : writesB (exI x y) = false) :
    Calls Tryd.prog 6 #[.int .u8 a, .int .u8 b] w fun e w' => e = .returned (.bool true) ∧ ∃ q, w' = w.drewN q := by
  have F := Lib.hid hF
  have M := Lib.hid hM
  have V := Lib.hid hV
  have A := Lib.hid ha
  have B := Lib.hid hb
  have HX := Lib.hid hx
  have HY := Lib.hid hy
  clear hF hM hV ha hb hx hy
  go_enter Tryd.func6, Tryd.ntmps6
  go_wp2_with (first
        | (go_at_call 45; first | ((with_reducible refine (one_is a x HX.out _ A.out.1 A.out.2).mono ?_); rintro e w' ⟨rfl, rfl⟩) | ((with_reducible refine (one_is b y HY.out _ B.out.1 B.out.2).mono ?_); rintro e w' ⟨rfl, rfl⟩))
        | (go_at_call 26; refine (Fits_any _ _ _ _ _ (by first | exact F.out | exact F.out.drew _) (by first | exact M.out | exact M.out.drew _)).mono ?_; rintro e w' ⟨rfl, q, rfl⟩)
        | (go_at_call 24; refine (Sub_any _ _ _ (by first | exact F.out | exact F.out.drew _) (by first | exact M.out | exact M.out.drew _)).mono ?_; rintro e w' ⟨rfl, q, rfl⟩)
        | (go_at_call 18; refine (Reads_any _ _).mono ?_; rintro e w' ⟨rfl, rfl⟩)
        | (go_at_call 20; refine (Writes_any _ _).mono ?_; rintro e w' ⟨rfl, rfl⟩)
        | (go_at_call 35; refine (View_any _ _ _ (by first | exact V.out | exact V.out.drew _)).mono ?_; rintro e w' ⟨rfl, rfl⟩)
        | (go_at_call 37; refine (Extract_any _ _ _ (by first | exact V.out | exact V.out.drew _)).mono ?_; rintro e w' ⟨rfl, rfl⟩)
        | (go_at_call 34; refine (awake_any _ (by first | exact F.out | exact F.out.drew _) (by first | exact M.out | exact M.out.drew _) (by first | exact V.out | exact V.out.drew _)).mono ?_; rintro e w' ⟨rfl, q, rfl⟩))
  go_ret
  exact ⟨rfl, _, rfl⟩

set_option maxHeartbeats 1000000 in
theorem permits_rWK_rW (a b x y : Int) (w : World) (ha : 0 ≤ a ∧ a ≤ 255) (hb : 0 ≤ b ∧ b ≤ 255)
    (hx : 1 + a % 6 = x) (hy : 1 + b % 6 = y)
    (hF : TabAt 2 fitL w) (hM : TabAt 3 markL w) (hV : TabAt 5 viewL w)
    (e0 : viewB x y = true) (e1 : readsB x = true) (e2 : readsB (viewI x y) = false) (e3 : writesB (viewI x y) = true) (e4 : writesB x = true) (e5 : writesB y = true) (e6 : (x == 3) = true) (e7 : (viewI x y != y) = false) (e8 : exB x y = true) (e9 : readsB (exI x y) = false) (e10 : writesB (exI x y) = true) :
    Calls Tryd.prog 6 #[.int .u8 a, .int .u8 b] w fun e w' => e = .returned (.bool true) ∧ ∃ q, w' = w.drewN q := by
  have F := Lib.hid hF
  have M := Lib.hid hM
  have V := Lib.hid hV
  have A := Lib.hid ha
  have B := Lib.hid hb
  have HX := Lib.hid hx
  have HY := Lib.hid hy
  clear hF hM hV ha hb hx hy
  go_enter Tryd.func6, Tryd.ntmps6
  go_wp2_with (first
        | (go_at_call 45; first | ((with_reducible refine (one_is a x HX.out _ A.out.1 A.out.2).mono ?_); rintro e w' ⟨rfl, rfl⟩) | ((with_reducible refine (one_is b y HY.out _ B.out.1 B.out.2).mono ?_); rintro e w' ⟨rfl, rfl⟩))
        | (go_at_call 26; refine (Fits_any _ _ _ _ _ (by first | exact F.out | exact F.out.drew _) (by first | exact M.out | exact M.out.drew _)).mono ?_; rintro e w' ⟨rfl, q, rfl⟩)
        | (go_at_call 24; refine (Sub_any _ _ _ (by first | exact F.out | exact F.out.drew _) (by first | exact M.out | exact M.out.drew _)).mono ?_; rintro e w' ⟨rfl, q, rfl⟩)
        | (go_at_call 18; refine (Reads_any _ _).mono ?_; rintro e w' ⟨rfl, rfl⟩)
        | (go_at_call 20; refine (Writes_any _ _).mono ?_; rintro e w' ⟨rfl, rfl⟩)
        | (go_at_call 35; refine (View_any _ _ _ (by first | exact V.out | exact V.out.drew _)).mono ?_; rintro e w' ⟨rfl, rfl⟩)
        | (go_at_call 37; refine (Extract_any _ _ _ (by first | exact V.out | exact V.out.drew _)).mono ?_; rintro e w' ⟨rfl, rfl⟩)
        | (go_at_call 34; refine (awake_any _ (by first | exact F.out | exact F.out.drew _) (by first | exact M.out | exact M.out.drew _) (by first | exact V.out | exact V.out.drew _)).mono ?_; rintro e w' ⟨rfl, q, rfl⟩))
  go_ret
  exact ⟨rfl, _, rfl⟩

set_option maxHeartbeats 1000000 in
theorem permits_rWK_Rw (a b x y : Int) (w : World) (ha : 0 ≤ a ∧ a ≤ 255) (hb : 0 ≤ b ∧ b ≤ 255)
    (hx : 1 + a % 6 = x) (hy : 1 + b % 6 = y)
    (hF : TabAt 2 fitL w) (hM : TabAt 3 markL w) (hV : TabAt 5 viewL w)
    (e0 : viewB x y = true) (e1 : readsB x = true) (e2 : readsB (viewI x y) = false) (e3 : writesB (viewI x y) = true) (e4 : writesB x = true) (e5 : writesB y = true) (e6 : (x == 3) = true) (e7 : (viewI x y != y) = false) (e8 : exB x y = true) (e9 : readsB (exI x y) = true) (e10 : readsB y = true) (e11 : writesB (exI x y) = false) :
    Calls Tryd.prog 6 #[.int .u8 a, .int .u8 b] w fun e w' => e = .returned (.bool true) ∧ ∃ q, w' = w.drewN q := by
  have F := Lib.hid hF
  have M := Lib.hid hM
  have V := Lib.hid hV
  have A := Lib.hid ha
  have B := Lib.hid hb
  have HX := Lib.hid hx
  have HY := Lib.hid hy
  clear hF hM hV ha hb hx hy
  go_enter Tryd.func6, Tryd.ntmps6
  go_wp2_with (first
        | (go_at_call 45; first | ((with_reducible refine (one_is a x HX.out _ A.out.1 A.out.2).mono ?_); rintro e w' ⟨rfl, rfl⟩) | ((with_reducible refine (one_is b y HY.out _ B.out.1 B.out.2).mono ?_); rintro e w' ⟨rfl, rfl⟩))
        | (go_at_call 26; refine (Fits_any _ _ _ _ _ (by first | exact F.out | exact F.out.drew _) (by first | exact M.out | exact M.out.drew _)).mono ?_; rintro e w' ⟨rfl, q, rfl⟩)
        | (go_at_call 24; refine (Sub_any _ _ _ (by first | exact F.out | exact F.out.drew _) (by first | exact M.out | exact M.out.drew _)).mono ?_; rintro e w' ⟨rfl, q, rfl⟩)
        | (go_at_call 18; refine (Reads_any _ _).mono ?_; rintro e w' ⟨rfl, rfl⟩)
        | (go_at_call 20; refine (Writes_any _ _).mono ?_; rintro e w' ⟨rfl, rfl⟩)
        | (go_at_call 35; refine (View_any _ _ _ (by first | exact V.out | exact V.out.drew _)).mono ?_; rintro e w' ⟨rfl, rfl⟩)
        | (go_at_call 37; refine (Extract_any _ _ _ (by first | exact V.out | exact V.out.drew _)).mono ?_; rintro e w' ⟨rfl, rfl⟩)
        | (go_at_call 34; refine (awake_any _ (by first | exact F.out | exact F.out.drew _) (by first | exact M.out | exact M.out.drew _) (by first | exact V.out | exact V.out.drew _)).mono ?_; rintro e w' ⟨rfl, q, rfl⟩))
  go_ret
  exact ⟨rfl, _, rfl⟩

set_option maxHeartbeats 1000000 in
theorem permits_rWK_RW (a b x y : Int) (w : World) (ha : 0 ≤ a ∧ a ≤ 255) (hb : 0 ≤ b ∧ b ≤ 255)
    (hx : 1 + a % 6 = x) (hy : 1 + b % 6 = y)
    (hF : TabAt 2 fitL w) (hM : TabAt 3 markL w) (hV : TabAt 5 viewL w)
    (e0 : viewB x y = true) (e1 : readsB x = true) (e2 : readsB (viewI x y) = false) (e3 : writesB (viewI x y) = true) (e4 : writesB x = true) (e5 : writesB y = true) (e6 : (x == 3) = true) (e7 : (viewI x y != y) = false) (e8 : exB x y = true) (e9 : readsB (exI x y) = true) (e10 : readsB y = true) (e11 : writesB (exI x y) = true) :
    Calls Tryd.prog 6 #[.int .u8 a, .int .u8 b] w fun e w' => e = .returned (.bool true) ∧ ∃ q, w' = w.drewN q := by
  have F := Lib.hid hF
  have M := Lib.hid hM
  have V := Lib.hid hV
  have A := Lib.hid ha
  have B := Lib.hid hb
  have HX := Lib.hid hx
  have HY := Lib.hid hy
  clear hF hM hV ha hb hx hy
  go_enter Tryd.func6, Tryd.ntmps6
  go_wp2_with (first
        | (go_at_call 45; first | ((with_reducible refine (one_is a x HX.out _ A.out.1 A.out.2).mono ?_); rintro e w' ⟨rfl, rfl⟩) | ((with_reducible refine (one_is b y HY.out _ B.out.1 B.out.2).mono ?_); rintro e w' ⟨rfl, rfl⟩))
        | (go_at_call 26; refine (Fits_any _ _ _ _ _ (by first | exact F.out | exact F.out.drew _) (by first | exact M.out | exact M.out.drew _)).mono ?_; rintro e w' ⟨rfl, q, rfl⟩)
        | (go_at_call 24; refine (Sub_any _ _ _ (by first | exact F.out | exact F.out.drew _) (by first | exact M.out | exact M.out.drew _)).mono ?_; rintro e w' ⟨rfl, q, rfl⟩)
        | (go_at_call 18; refine (Reads_any _ _).mono ?_; rintro e w' ⟨rfl, rfl⟩)
        | (go_at_call 20; refine (Writes_any _ _).mono ?_; rintro e w' ⟨rfl, rfl⟩)
        | (go_at_call 35; refine (View_any _ _ _ (by first | exact V.out | exact V.out.drew _)).mono ?_; rintro e w' ⟨rfl, rfl⟩)
        | (go_at_call 37; refine (Extract_any _ _ _ (by first | exact V.out | exact V.out.drew _)).mono ?_; rintro e w' ⟨rfl, rfl⟩)
        | (go_at_call 34; refine (awake_any _ (by first | exact F.out | exact F.out.drew _) (by first | exact M.out | exact M.out.drew _) (by first | exact V.out | exact V.out.drew _)).mono ?_; rintro e w' ⟨rfl, q, rfl⟩))
  go_ret
  exact ⟨rfl, _, rfl⟩

set_option maxHeartbeats 1000000 in
theorem permits_Rwk_n (a b x y : Int) (w : World) (ha : 0 ≤ a ∧ a ≤ 255) (hb : 0 ≤ b ∧ b ≤ 255)
    (hx : 1 + a % 6 = x) (hy : 1 + b % 6 = y)
    (hF : TabAt 2 fitL w) (hM : TabAt 3 markL w) (hV : TabAt 5 viewL w)
    (e0 : viewB x y = true) (e1 : readsB x = true) (e2 : readsB (viewI x y) = true) (e3 : readsB y = true) (e4 : writesB (viewI x y) = false) (e5 : (x == 3) = false) (e6 : exB x y = false) (e7 : writesB x = false) :
    Calls Tryd.prog 6 #[.int .u8 a, .int .u8 b] w fun e w' => e = .returned (.bool true) ∧ ∃ q, w' = w.drewN q := by
  have F := Lib.hid hF
  have M := Lib.hid hM
  have V := Lib.hid hV
  have A := Lib.hid ha
  have B := Lib.hid hb
  have HX := Lib.hid hx
  have HY := Lib.hid hy
  clear hF hM hV ha hb hx hy
  go_enter Tryd.func6, Tryd.ntmps6
  go_wp2_with (first
        | (go_at_call 45; first | ((with_reducible refine (one_is a x HX.out _ A.out.1 A.out.2).mono ?_); rintro e w' ⟨rfl, rfl⟩) | ((with_reducible refine (one_is b y HY.out _ B.out.1 B.out.2).mono ?_); rintro e w' ⟨rfl, rfl⟩))
        | (go_at_call 26; refine (Fits_any _ _ _ _ _ (by first | exact F.out | exact F.out.drew _) (by first | exact M.out | exact M.out.drew _)).mono ?_; rintro e w' ⟨rfl, q, rfl⟩)
        | (go_at_call 24; refine (Sub_any _ _ _ (by first | exact F.out | exact F.out.drew _) (by first | exact M.out | exact M.out.drew _)).mono ?_; rintro e w' ⟨rfl, q, rfl⟩)
        | (go_at_call 18; refine (Reads_any _ _).mono ?_; rintro e w' ⟨rfl, rfl⟩)
        | (go_at_call 20; refine (Writes_any _ _).mono ?_; rintro e w' ⟨rfl, rfl⟩)
        | (go_at_call 35; refine (View_any _ _ _ (by first | exact V.out | exact V.out.drew _)).mono ?_; rintro e w' ⟨rfl, rfl⟩)
        | (go_at_call 37; refine (Extract_any _ _ _ (by first | exact V.out | exact V.out.drew _)).mono ?_; rintro e w' ⟨rfl, rfl⟩)
        | (go_at_call 34; refine (awake_any _ (by first | exact F.out | exact F.out.drew _) (by first | exact M.out | exact M.out.drew _) (by first | exact V.out | exact V.out.drew _)).mono ?_; rintro e w' ⟨rfl, q, rfl⟩))
  go_ret
  exact ⟨rfl, _, rfl⟩

set_option maxHeartbeats 1000000 in
theorem permits_Rwk_rw (a b x y : Int) (w : World) (ha : 0 ≤ a ∧ a ≤ 255) (hb : 0 ≤ b ∧ b ≤ 255)
    (hx : 1 + a % 6 = x) (hy : 1 + b % 6 = y)
    (hF : TabAt 2 fitL w) (hM : TabAt 3 markL w) (hV : TabAt 5 viewL w)
    (e0 : viewB x y = true) (e1 : readsB x = true) (e2 : readsB (viewI x y) = true) (e3 : readsB y = true) (e4 : writesB (viewI x y) = false) (e5 : (x == 3) = false) (e6 : exB x y = true) (e7 : writesB x = true) (e8 : readsB (exI x y) = false) (e9 : writesB (exI x y) = false) :
    Calls Tryd.prog 6 #[.int .u8 a, .int .u8 b] w fun e w' => e = .returned (.bool true) ∧ ∃ q, w' = w.drewN q := by
  have F := Lib.hid hF
  have M := Lib.hid hM
  have V := Lib.hid hV
  have A := Lib.hid ha
  have B := Lib.hid hb
  have HX := Lib.hid hx
  have HY := Lib.hid hy
  clear hF hM hV ha hb hx hy
  go_enter Tryd.func6, Tryd.ntmps6
  go_wp2_with (first
        | (go_at_call 45; first | ((with_reducible refine (one_is a x HX.out _ A.out.1 A.out.2).mono ?_); rintro e w' ⟨rfl, rfl⟩) | ((with_reducible refine (one_is b y HY.out _ B.out.1 B.out.2).mono ?_); rintro e w' ⟨rfl, rfl⟩))
        | (go_at_call 26; refine (Fits_any _ _ _ _ _ (by first | exact F.out | exact F.out.drew _) (by first | exact M.out | exact M.out.drew _)).mono ?_; rintro e w' ⟨rfl, q, rfl⟩)
        | (go_at_call 24; refine (Sub_any _ _ _ (by first | exact F.out | exact F.out.drew _) (by first | exact M.out | exact M.out.drew _)).mono ?_; rintro e w' ⟨rfl, q, rfl⟩)
        | (go_at_call 18; refine (Reads_any _ _).mono ?_; rintro e w' ⟨rfl, rfl⟩)
        | (go_at_call 20; refine (Writes_any _ _).mono ?_; rintro e w' ⟨rfl, rfl⟩)
        | (go_at_call 35; refine (View_any _ _ _ (by first | exact V.out | exact V.out.drew _)).mono ?_; rintro e w' ⟨rfl, rfl⟩)
        | (go_at_call 37; refine (Extract_any _ _ _ (by first | exact V.out | exact V.out.drew _)).mono ?_; rintro e w' ⟨rfl, rfl⟩)
        | (go_at_call 34; refine (awake_any _ (by first | exact F.out | exact F.out.drew _) (by first | exact M.out | exact M.out.drew _) (by first | exact V.out | exact V.out.drew _)).mono ?_; rintro e w' ⟨rfl, q, rfl⟩))
  go_ret
  exact ⟨rfl, _, rfl⟩

set_option maxHeartbeats 1000000 in
theorem permits_Rwk_rW (a b x y : Int) (w : World) (ha : 0 ≤ a ∧ a ≤ 255) (hb : 0 ≤ b ∧ b ≤ 255)
    (hx : 1 + a % 6 = x) (hy : 1 + b % 6 = y)
    (hF : TabAt 2 fitL w) (hM : TabAt 3 markL w) (hV : TabAt 5 viewL w)
    (e0 : viewB x y = true) (e1 : readsB x = true) (e2 : readsB (viewI x y) = true) (e3 : readsB y = true) (e4 : writesB (viewI x y) = false) (e5 : (x == 3) = false) (e6 : exB x y = true) (e7 : writesB x = true) (e8 : readsB (exI x y) = false) (e9 : writesB (exI x y) = true) (e10 : writesB y = true) :
    Calls Tryd.prog 6 #[.int .u8 a, .int .u8 b] w fun e w' => e = .returned (.bool true) ∧ ∃ q, w' = w.drewN q := by
  have F := Lib.hid hF
  have M := Lib.hid hM
  have V := Lib.hid hV
  have A := Lib.hid ha
  have B := Lib.hid hb
  have HX := Lib.hid hx
  have HY := Lib.hid hy
  clear hF hM hV ha hb hx hy
  go_enter Tryd.func6, Tryd.ntmps6
  go_wp2_with (first
        | (go_at_call 45; first | ((with_reducible refine (one_is a x HX.out _ A.out.1 A.out.2).mono ?_); rintro e w' ⟨rfl, rfl⟩) | ((with_reducible refine (one_is b y HY.out _ B.out.1 B.out.2).mono ?_); rintro e w' ⟨rfl, rfl⟩))
        | (go_at_call 26; refine (Fits_any _ _ _ _ _ (by first | exact F.out | exact F.out.drew _) (by first | exact M.out | exact M.out.drew _)).mono ?_; rintro e w' ⟨rfl, q, rfl⟩)
        | (go_at_call 24; refine (Sub_any _ _ _ (by first | exact F.out | exact F.out.drew _) (by first | exact M.out | exact M.out.drew _)).mono ?_; rintro e w' ⟨rfl, q, rfl⟩)
        | (go_at_call 18; refine (Reads_any _ _).mono ?_; rintro e w' ⟨rfl, rfl⟩)
        | (go_at_call 20; refine (Writes_any _ _).mono ?_; rintro e w' ⟨rfl, rfl⟩)
        | (go_at_call 35; refine (View_any _ _ _ (by first | exact V.out | exact V.out.drew _)).mono ?_; rintro e w' ⟨rfl, rfl⟩)
        | (go_at_call 37; refine (Extract_any _ _ _ (by first | exact V.out | exact V.out.drew _)).mono ?_; rintro e w' ⟨rfl, rfl⟩)
        | (go_at_call 34; refine (awake_any _ (by first | exact F.out | exact F.out.drew _) (by first | exact M.out | exact M.out.drew _) (by first | exact V.out | exact V.out.drew _)).mono ?_; rintro e w' ⟨rfl, q, rfl⟩))
  go_ret
  exact ⟨rfl, _, rfl⟩

set_option maxHeartbeats 1000000 in
theorem permits_Rwk_Rw (a b x y : Int) (w : World) (ha : 0 ≤ a ∧ a ≤ 255) (hb : 0 ≤ b ∧ b ≤ 255)
    (hx : 1 + a % 6 = x) (hy : 1 + b % 6 = y)
    (hF : TabAt 2 fitL w) (hM : TabAt 3 markL w) (hV : TabAt 5 viewL w)
    (e0 : viewB x y = true) (e1 : readsB x = true) (e2 : readsB (viewI x y) = true) (e3 : readsB y = true) (e4 : writesB (viewI x y) = false) (e5 : (x == 3) = false) (e6 : exB x y = true) (e7 : writesB x = true) (e8 : readsB (exI x y) = true) (e9 : writesB (exI x y) = false) :
    Calls Tryd.prog 6 #[.int .u8 a, .int .u8 b] w fun e w' => e = .returned (.bool true) ∧ ∃ q, w' = w.drewN q := by
  have F := Lib.hid hF
  have M := Lib.hid hM
  have V := Lib.hid hV
  have A := Lib.hid ha
  have B := Lib.hid hb
  have HX := Lib.hid hx
  have HY := Lib.hid hy
  clear hF hM hV ha hb hx hy
  go_enter Tryd.func6, Tryd.ntmps6
  go_wp2_with (first
        | (go_at_call 45; first | ((with_reducible refine (one_is a x HX.out _ A.out.1 A.out.2).mono ?_); rintro e w' ⟨rfl, rfl⟩) | ((with_reducible refine (one_is b y HY.out _ B.out.1 B.out.2).mono ?_); rintro e w' ⟨rfl, rfl⟩))
        | (go_at_call 26; refine (Fits_any _ _ _ _ _ (by first | exact F.out | exact F.out.drew _) (by first | exact M.out | exact M.out.drew _)).mono ?_; rintro e w' ⟨rfl, q, rfl⟩)
        | (go_at_call 24; refine (Sub_any _ _ _ (by first | exact F.out | exact F.out.drew _) (by first | exact M.out | exact M.out.drew _)).mono ?_; rintro e w' ⟨rfl, q, rfl⟩)
        | (go_at_call 18; refine (Reads_any _ _).mono ?_; rintro e w' ⟨rfl, rfl⟩)
        | (go_at_call 20; refine (Writes_any _ _).mono ?_; rintro e w' ⟨rfl, rfl⟩)
        | (go_at_call 35; refine (View_any _ _ _ (by first | exact V.out | exact V.out.drew _)).mono ?_; rintro e w' ⟨rfl, rfl⟩)
        | (go_at_call 37; refine (Extract_any _ _ _ (by first | exact V.out | exact V.out.drew _)).mono ?_; rintro e w' ⟨rfl, rfl⟩)
        | (go_at_call 34; refine (awake_any _ (by first | exact F.out | exact F.out.drew _) (by first | exact M.out | exact M.out.drew _) (by first | exact V.out | exact V.out.drew _)).mono ?_; rintro e w' ⟨rfl, q, rfl⟩))
  go_ret
  exact ⟨rfl, _, rfl⟩

set_option maxHeartbeats 1000000 in
theorem permits_Rwk_RW (a b x y : Int) (w : World) (ha : 0 ≤ a ∧ a ≤ 255) (hb : 0 ≤ b ∧ b ≤ 255)
    (hx : 1 + a % 6 = x) (hy : 1 + b % 6 = y)
    (hF : TabAt 2 fitL w) (hM : TabAt 3 markL w) (hV : TabAt 5 viewL w)
    (e0 : viewB x y = true) (e1 : readsB x = true) (e2 : readsB (viewI x y) = true) (e3 : readsB y = true) (e4 : writesB (viewI x y) = false) (e5 : (x == 3) = false) (e6 : exB x y = true) (e7 : writesB x = true) (e8 : readsB (exI x y) = true) (e9 : writesB (exI x y) = true) (e10 : writesB y = true) :
    Calls Tryd.prog 6 #[.int .u8 a, .int .u8 b] w fun e w' => e = .returned (.bool true) ∧ ∃ q, w' = w.drewN q := by
  have F := Lib.hid hF
  have M := Lib.hid hM
  have V := Lib.hid hV
  have A := Lib.hid ha
  have B := Lib.hid hb
  have HX := Lib.hid hx
  have HY := Lib.hid hy
  clear hF hM hV ha hb hx hy
  go_enter Tryd.func6, Tryd.ntmps6
  go_wp2_with (first
        | (go_at_call 45; first | ((with_reducible refine (one_is a x HX.out _ A.out.1 A.out.2).mono ?_); rintro e w' ⟨rfl, rfl⟩) | ((with_reducible refine (one_is b y HY.out _ B.out.1 B.out.2).mono ?_); rintro e w' ⟨rfl, rfl⟩))
        | (go_at_call 26; refine (Fits_any _ _ _ _ _ (by first | exact F.out | exact F.out.drew _) (by first | exact M.out | exact M.out.drew _)).mono ?_; rintro e w' ⟨rfl, q, rfl⟩)
        | (go_at_call 24; refine (Sub_any _ _ _ (by first | exact F.out | exact F.out.drew _) (by first | exact M.out | exact M.out.drew _)).mono ?_; rintro e w' ⟨rfl, q, rfl⟩)
        | (go_at_call 18; refine (Reads_any _ _).mono ?_; rintro e w' ⟨rfl, rfl⟩)
        | (go_at_call 20; refine (Writes_any _ _).mono ?_; rintro e w' ⟨rfl, rfl⟩)
        | (go_at_call 35; refine (View_any _ _ _ (by first | exact V.out | exact V.out.drew _)).mono ?_; rintro e w' ⟨rfl, rfl⟩)
        | (go_at_call 37; refine (Extract_any _ _ _ (by first | exact V.out | exact V.out.drew _)).mono ?_; rintro e w' ⟨rfl, rfl⟩)
        | (go_at_call 34; refine (awake_any _ (by first | exact F.out | exact F.out.drew _) (by first | exact M.out | exact M.out.drew _) (by first | exact V.out | exact V.out.drew _)).mono ?_; rintro e w' ⟨rfl, q, rfl⟩))
  go_ret
  exact ⟨rfl, _, rfl⟩

set_option maxHeartbeats 1000000 in
theorem permits_RwK_n (a b x y : Int) (w : World) (ha : 0 ≤ a ∧ a ≤ 255) (hb : 0 ≤ b ∧ b ≤ 255)
    (hx : 1 + a % 6 = x) (hy : 1 + b % 6 = y)
    (hF : TabAt 2 fitL w) (hM : TabAt 3 markL w) (hV : TabAt 5 viewL w)
    (e0 : viewB x y = true) (e1 : readsB x = true) (e2 : readsB (viewI x y) = true) (e3 : readsB y = true) (e4 : writesB (viewI x y) = false) (e5 : (x == 3) = true) (e6 : (viewI x y != y) = false) (e7 : exB x y = false) (e8 : writesB x = false) :
    Calls Tryd.prog 6 #[.int .u8 a, .int .u8 b] w fun e w' => e = .returned (.bool true) ∧ ∃ q, w' = w.drewN q := by
  have F := Lib.hid hF
  have M := Lib.hid hM
  have V := Lib.hid hV
  have A := Lib.hid ha
  have B := Lib.hid hb
  have HX := Lib.hid hx
  have HY := Lib.hid hy
  clear hF hM hV ha hb hx hy
  go_enter Tryd.func6, Tryd.ntmps6
  go_wp2_with (first
        | (go_at_call 45; first | ((with_reducible refine (one_is a x HX.out _ A.out.1 A.out.2).mono ?_); rintro e w' ⟨rfl, rfl⟩) | ((with_reducible refine (one_is b y HY.out _ B.out.1 B.out.2).mono ?_); rintro e w' ⟨rfl, rfl⟩))
        | (go_at_call 26; refine (Fits_any _ _ _ _ _ (by first | exact F.out | exact F.out.drew _) (by first | exact M.out | exact M.out.drew _)).mono ?_; rintro e w' ⟨rfl, q, rfl⟩)
        | (go_at_call 24; refine (Sub_any _ _ _ (by first | exact F.out | exact F.out.drew _) (by first | exact M.out | exact M.out.drew _)).mono ?_; rintro e w' ⟨rfl, q, rfl⟩)
        | (go_at_call 18; refine (Reads_any _ _).mono ?_; rintro e w' ⟨rfl, rfl⟩)
        | (go_at_call 20; refine (Writes_any _ _).mono ?_; rintro e w' ⟨rfl, rfl⟩)
        | (go_at_call 35; refine (View_any _ _ _ (by first | exact V.out | exact V.out.drew _)).mono ?_; rintro e w' ⟨rfl, rfl⟩)
        | (go_at_call 37; refine (Extract_any _ _ _ (by first | exact V.out | exact V.out.drew _)).mono ?_; rintro e w' ⟨rfl, rfl⟩)
        | (go_at_call 34; refine (awake_any _ (by first | exact F.out | exact F.out.drew _) (by first | exact M.out | exact M.out.drew _) (by first | exact V.out | exact V.out.drew _)).mono ?_; rintro e w' ⟨rfl, q, rfl⟩))
  go_ret
  exact ⟨rfl, _, rfl⟩

set_option maxHeartbeats 1000000 in
theorem permits_RwK_rw (a b x y : Int) (w : World) (ha : 0 ≤ a ∧ a ≤ 255) (hb : 0 ≤ b ∧ b ≤ 255)
    (hx : 1 + a % 6 = x) (hy : 1 + b % 6 = y)
    (hF : TabAt 2 fitL w) (hM : TabAt 3 markL w) (hV : TabAt 5 viewL w)
    (e0 : viewB x y = true) (e1 : readsB x = true) (e2 : readsB (viewI x y) = true) (e3 : readsB y = true) (e4 : writesB (viewI x y) = false) (e5 : (x == 3) = true) (e6 : (viewI x y != y) = false) (e7 : exB x y = true) (e8 : writesB x = true) (e9 : readsB (exI x y) = false) (e10 : writesB (exI x y) = false) :
    Calls Tryd.prog 6 #[.int .u8 a, .int .u8 b] w fun e w' => e = .returned (.bool true) ∧ ∃ q, w' = w.drewN q := by
  have F := Lib.hid hF
  have M := Lib.hid hM
  have V := Lib.hid hV
  have A := Lib.hid ha
  have B := Lib.hid hb
  have HX := Lib.hid hx
  have HY := Lib.hid hy
  clear hF hM hV ha hb hx hy
  go_enter Tryd.func6, Tryd.ntmps6
  go_wp2_with (first
        | (go_at_call 45; first | ((with_reducible refine (one_is a x HX.out _ A.out.1 A.out.2).mono ?_); rintro e w' ⟨rfl, rfl⟩) | ((with_reducible refine (one_is b y HY.out _ B.out.1 B.out.2).mono ?_); rintro e w' ⟨rfl, rfl⟩))
        | (go_at_call 26; refine (Fits_any _ _ _ _ _ (by first | exact F.out | exact F.out.drew _) (by first | exact M.out | exact M.out.drew _)).mono ?_; rintro e w' ⟨rfl, q, rfl⟩)
        | (go_at_call 24; refine (Sub_any _ _ _ (by first | exact F.out | exact F.out.drew _) (by first | exact M.out | exact M.out.drew _)).mono ?_; rintro e w' ⟨rfl, q, rfl⟩)
        | (go_at_call 18; refine (Reads_any _ _).mono ?_; rintro e w' ⟨rfl, rfl⟩)
        | (go_at_call 20; refine (Writes_any _ _).mono ?_; rintro e w' ⟨rfl, rfl⟩)
        | (go_at_call 35; refine (View_any _ _ _ (by first | exact V.out | exact V.out.drew _)).mono ?_; rintro e w' ⟨rfl, rfl⟩)
        | (go_at_call 37; refine (Extract_any _ _ _ (by first | exact V.out | exact V.out.drew _)).mono ?_; rintro e w' ⟨rfl, rfl⟩)
        | (go_at_call 34; refine (awake_any _ (by first | exact F.out | exact F.out.drew _) (by first | exact M.out | exact M.out.drew _) (by first | exact V.out | exact V.out.drew _)).mono ?_; rintro e w' ⟨rfl, q, rfl⟩))
  go_ret
  exact ⟨rfl, _, rfl⟩

set_option maxHeartbeats 1000000 in
theorem permits_RwK_rW (a b x y : Int) (w : World) (ha : 0 ≤ a ∧ a ≤ 255) (hb : 0 ≤ b ∧ b ≤ 255)
    (hx : 1 + a % 6 = x) (hy : 1 + b % 6 = y)
    (hF : TabAt 2 fitL w) (hM : TabAt 3 markL w) (hV : TabAt 5 viewL w)
    (e0 : viewB x y = true) (e1 : readsB x = true) (e2 : readsB (viewI x y) = true) (e3 : readsB y = true) (e4 : writesB (viewI x y) = false) (e5 : (x == 3) = true) (e6 : (viewI x y != y) = false) (e7 : exB x y = true) (e8 : writesB x = true) (e9 : readsB (exI x y) = false) (e10 : writesB (exI x y) = true) (e11 : writesB y = true) :
    Calls Tryd.prog 6 #[.int .u8 a, .int .u8 b] w fun e w' => e = .returned (.bool true) ∧ ∃ q, w' = w.drewN q := by
  have F := Lib.hid hF
  have M := Lib.hid hM
  have V := Lib.hid hV
  have A := Lib.hid ha
  have B := Lib.hid hb
  have HX := Lib.hid hx
  have HY := Lib.hid hy
  clear hF hM hV ha hb hx hy
  go_enter Tryd.func6, Tryd.ntmps6
  go_wp2_with (first
        | (go_at_call 45; first | ((with_reducible refine (one_is a x HX.out _ A.out.1 A.out.2).mono ?_); rintro e w' ⟨rfl, rfl⟩) | ((with_reducible refine (one_is b y HY.out _ B.out.1 B.out.2).mono ?_); rintro e w' ⟨rfl, rfl⟩))
        | (go_at_call 26; refine (Fits_any _ _ _ _ _ (by first | exact F.out | exact F.out.drew _) (by first | exact M.out | exact M.out.drew _)).mono ?_; rintro e w' ⟨rfl, q, rfl⟩)
        | (go_at_call 24; refine (Sub_any _ _ _ (by first | exact F.out | exact F.out.drew _) (by first | exact M.out | exact M.out.drew _)).mono ?_; rintro e w' ⟨rfl, q, rfl⟩)
        | (go_at_call 18; refine (Reads_any _ _).mono ?_; rintro e w' ⟨rfl, rfl⟩)
        | (go_at_call 20; refine (Writes_any _ _).mono ?_; rintro e w' ⟨rfl, rfl⟩)
        | (go_at_call 35; refine (View_any _ _ _ (by first | exact V.out | exact V.out.drew _)).mono ?_; rintro e w' ⟨rfl, rfl⟩)
        | (go_at_call 37; refine (Extract_any _ _ _ (by first | exact V.out | exact V.out.drew _)).mono ?_; rintro e w' ⟨rfl, rfl⟩)
        | (go_at_call 34; refine (awake_any _ (by first | exact F.out | exact F.out.drew _) (by first | exact M.out | exact M.out.drew _) (by first | exact V.out | exact V.out.drew _)).mono ?_; rintro e w' ⟨rfl, q, rfl⟩))
  go_ret
  exact ⟨rfl, _, rfl⟩

set_option maxHeartbeats 1000000 in
theorem permits_RwK_Rw (a b x y : Int) (w : World) (ha : 0 ≤ a ∧ a ≤ 255) (hb : 0 ≤ b ∧ b ≤ 255)
    (hx : 1 + a % 6 = x) (hy : 1 + b % 6 = y)
    (hF : TabAt 2 fitL w) (hM : TabAt 3 markL w) (hV : TabAt 5 viewL w)
    (e0 : viewB x y = true) (e1 : readsB x = true) (e2 : readsB (viewI x y) = true) (e3 : readsB y = true) (e4 : writesB (viewI x y) = false) (e5 : (x == 3) = true) (e6 : (viewI x y != y) = false) (e7 : exB x y = true) (e8 : writesB x = true) (e9 : readsB (exI x y) = true) (e10 : writesB (exI x y) = false) :
    Calls Tryd.prog 6 #[.int .u8 a, .int .u8 b] w fun e w' => e = .returned (.bool true) ∧ ∃ q, w' = w.drewN q := by
  have F := Lib.hid hF
  have M := Lib.hid hM
  have V := Lib.hid hV
  have A := Lib.hid ha
  have B := Lib.hid hb
  have HX := Lib.hid hx
  have HY := Lib.hid hy
  clear hF hM hV ha hb hx hy
  go_enter Tryd.func6, Tryd.ntmps6
  go_wp2_with (first
        | (go_at_call 45; first | ((with_reducible refine (one_is a x HX.out _ A.out.1 A.out.2).mono ?_); rintro e w' ⟨rfl, rfl⟩) | ((with_reducible refine (one_is b y HY.out _ B.out.1 B.out.2).mono ?_); rintro e w' ⟨rfl, rfl⟩))
        | (go_at_call 26; refine (Fits_any _ _ _ _ _ (by first | exact F.out | exact F.out.drew _) (by first | exact M.out | exact M.out.drew _)).mono ?_; rintro e w' ⟨rfl, q, rfl⟩)
        | (go_at_call 24; refine (Sub_any _ _ _ (by first | exact F.out | exact F.out.drew _) (by first | exact M.out | exact M.out.drew _)).mono ?_; rintro e w' ⟨rfl, q, rfl⟩)
        | (go_at_call 18; refine (Reads_any _ _).mono ?_; rintro e w' ⟨rfl, rfl⟩)
        | (go_at_call 20; refine (Writes_any _ _).mono ?_; rintro e w' ⟨rfl, rfl⟩)
        | (go_at_call 35; refine (View_any _ _ _ (by first | exact V.out | exact V.out.drew _)).mono ?_; rintro e w' ⟨rfl, rfl⟩)
        | (go_at_call 37; refine (Extract_any _ _ _ (by first | exact V.out | exact V.out.drew _)).mono ?_; rintro e w' ⟨rfl, rfl⟩)
        | (go_at_call 34; refine (awake_any _ (by first | exact F.out | exact F.out.drew _) (by first | exact M.out | exact M.out.drew _) (by first | exact V.out | exact V.out.drew _)).mono ?_; rintro e w' ⟨rfl, q, rfl⟩))
  go_ret
  exact ⟨rfl, _, rfl⟩

set_option maxHeartbeats 1000000 in
theorem permits_RwK_RW (a b x y : Int) (w : World) (ha : 0 ≤ a ∧ a ≤ 255) (hb : 0 ≤ b ∧ b ≤ 255)
    (hx : 1 + a % 6 = x) (hy : 1 + b % 6 = y)
    (hF : TabAt 2 fitL w) (hM : TabAt 3 markL w) (hV : TabAt 5 viewL w)
    (e0 : viewB x y = true) (e1 : readsB x = true) (e2 : readsB (viewI x y) = true) (e3 : readsB y = true) (e4 : writesB (viewI x y) = false) (e5 : (x == 3) = true) (e6 : (viewI x y != y) = false) (e7 : exB x y = true) (e8 : writesB x = true) (e9 : readsB (exI x y) = true) (e10 : writesB (exI x y) = true) (e11 : writesB y = true) :
    Calls Tryd.prog 6 #[.int .u8 a, .int .u8 b] w fun e w' => e = .returned (.bool true) ∧ ∃ q, w' = w.drewN q := by
  have F := Lib.hid hF
  have M := Lib.hid hM
  have V := Lib.hid hV
  have A := Lib.hid ha
  have B := Lib.hid hb
  have HX := Lib.hid hx
  have HY := Lib.hid hy
  clear hF hM hV ha hb hx hy
  go_enter Tryd.func6, Tryd.ntmps6
  go_wp2_with (first
        | (go_at_call 45; first | ((with_reducible refine (one_is a x HX.out _ A.out.1 A.out.2).mono ?_); rintro e w' ⟨rfl, rfl⟩) | ((with_reducible refine (one_is b y HY.out _ B.out.1 B.out.2).mono ?_); rintro e w' ⟨rfl, rfl⟩))
        | (go_at_call 26; refine (Fits_any _ _ _ _ _ (by first | exact F.out | exact F.out.drew _) (by first | exact M.out | exact M.out.drew _)).mono ?_; rintro e w' ⟨rfl, q, rfl⟩)
        | (go_at_call 24; refine (Sub_any _ _ _ (by first | exact F.out | exact F.out.drew _) (by first | exact M.out | exact M.out.drew _)).mono ?_; rintro e w' ⟨rfl, q, rfl⟩)
        | (go_at_call 18; refine (Reads_any _ _).mono ?_; rintro e w' ⟨rfl, rfl⟩)
        | (go_at_call 20; refine (Writes_any _ _).mono ?_; rintro e w' ⟨rfl, rfl⟩)
        | (go_at_call 35; refine (View_any _ _ _ (by first | exact V.out | exact V.out.drew _)).mono ?_; rintro e w' ⟨rfl, rfl⟩)
        | (go_at_call 37; refine (Extract_any _ _ _ (by first | exact V.out | exact V.out.drew _)).mono ?_; rintro e w' ⟨rfl, rfl⟩)
        | (go_at_call 34; refine (awake_any _ (by first | exact F.out | exact F.out.drew _) (by first | exact M.out | exact M.out.drew _) (by first | exact V.out | exact V.out.drew _)).mono ?_; rintro e w' ⟨rfl, q, rfl⟩))
  go_ret
  exact ⟨rfl, _, rfl⟩

set_option maxHeartbeats 1000000 in
theorem permits_RWk_rw (a b x y : Int) (w : World) (ha : 0 ≤ a ∧ a ≤ 255) (hb : 0 ≤ b ∧ b ≤ 255)
    (hx : 1 + a % 6 = x) (hy : 1 + b % 6 = y)
    (hF : TabAt 2 fitL w) (hM : TabAt 3 markL w) (hV : TabAt 5 viewL w)
    (e0 : viewB x y = true) (e1 : readsB x = true) (e2 : readsB (viewI x y) = true) (e3 : readsB y = true) (e4 : writesB (viewI x y) = true) (e5 : writesB x = true) (e6 : writesB y = true) (e7 : (x == 3) = false) (e8 : exB x y = true) (e9 : readsB (exI x y) = false) (e10 : writesB (exI x y) = false) :
    Calls Tryd.prog 6 #[.int .u8 a, .int .u8 b] w fun e w' => e = .returned (.bool true) ∧ ∃ q, w' = w.drewN q := by
  have F := Lib.hid hF
  have M := Lib.hid hM
  have V := Lib.hid hV
  have A := Lib.hid ha
  have B := Lib.hid hb
  have HX := Lib.hid hx
  have HY := Lib.hid hy
  clear hF hM hV ha hb hx hy
  go_enter Tryd.func6, Tryd.ntmps6
  go_wp2_with (first
        | (go_at_call 45; first | ((with_reducible refine (one_is a x HX.out _ A.out.1 A.out.2).mono ?_); rintro e w' ⟨rfl, rfl⟩) | ((with_reducible refine (one_is b y HY.out _ B.out.1 B.out.2).mono ?_); rintro e w' ⟨rfl, rfl⟩))
        | (go_at_call 26; refine (Fits_any _ _ _ _ _ (by first | exact F.out | exact F.out.drew _) (by first | exact M.out | exact M.out.drew _)).mono ?_; rintro e w' ⟨rfl, q, rfl⟩)
        | (go_at_call 24; refine (Sub_any _ _ _ (by first | exact F.out | exact F.out.drew _) (by first | exact M.out | exact M.out.drew _)).mono ?_; rintro e w' ⟨rfl, q, rfl⟩)
        | (go_at_call 18; refine (Reads_any _ _).mono ?_; rintro e w' ⟨rfl, rfl⟩)
        | (go_at_call 20; refine (Writes_any _ _).mono ?_; rintro e w' ⟨rfl, rfl⟩)
        | (go_at_call 35; refine (View_any _ _ _ (by first | exact V.out | exact V.out.drew _)).mono ?_; rintro e w' ⟨rfl, rfl⟩)
        | (go_at_call 37; refine (Extract_any _ _ _ (by first | exact V.out | exact V.out.drew _)).mono ?_; rintro e w' ⟨rfl, rfl⟩)
        | (go_at_call 34; refine (awake_any _ (by first | exact F.out | exact F.out.drew _) (by first | exact M.out | exact M.out.drew _) (by first | exact V.out | exact V.out.drew _)).mono ?_; rintro e w' ⟨rfl, q, rfl⟩))
  go_ret
  exact ⟨rfl, _, rfl⟩

set_option maxHeartbeats 1000000 in
theorem permits_RWk_rW (a b x y : Int) (w : World) (ha : 0 ≤ a ∧ a ≤ 255) (hb : 0 ≤ b ∧ b ≤ 255)
    (hx : 1 + a % 6 = x) (hy : 1 + b % 6 = y)
    (hF : TabAt 2 fitL w) (hM : TabAt 3 markL w) (hV : TabAt 5 viewL w)
    (e0 : viewB x y = true) (e1 : readsB x = true) (e2 : readsB (viewI x y) = true) (e3 : readsB y = true) (e4 : writesB (viewI x y) = true) (e5 : writesB x = true) (e6 : writesB y = true) (e7 : (x == 3) = false) (e8 : exB x y = true) (e9 : readsB (exI x y) = false) (e10 : writesB (exI x y) = true) :
    Calls Tryd.prog 6 #[.int .u8 a, .int .u8 b] w fun e w' => e = .returned (.bool true) ∧ ∃ q, w' = w.drewN q := by
  have F := Lib.hid hF
  have M := Lib.hid hM
  have V := Lib.hid hV
  have A := Lib.hid ha
  have B := Lib.hid hb
  have HX := Lib.hid hx
  have HY := Lib.hid hy
  clear hF hM hV ha hb hx hy
  go_enter Tryd.func6, Tryd.ntmps6
  go_wp2_with (first
        | (go_at_call 45; first | ((with_reducible refine (one_is a x HX.out _ A.out.1 A.out.2).mono ?_); rintro e w' ⟨rfl, rfl⟩) | ((with_reducible refine (one_is b y HY.out _ B.out.1 B.out.2).mono ?_); rintro e w' ⟨rfl, rfl⟩))
        | (go_at_call 26; refine (Fits_any _ _ _ _ _ (by first | exact F.out | exact F.out.drew _) (by first | exact M.out | exact M.out.drew _)).mono ?_; rintro e w' ⟨rfl, q, rfl⟩)
        | (go_at_call 24; refine (Sub_any _ _ _ (by first | exact F.out | exact F.out.drew _) (by first | exact M.out | exact M.out.drew _)).mono ?_; rintro e w' ⟨rfl, q, rfl⟩)
        | (go_at_call 18; refine (Reads_any _ _).mono ?_; rintro e w' ⟨rfl, rfl⟩)
        | (go_at_call 20; refine (Writes_any _ _).mono ?_; rintro e w' ⟨rfl, rfl⟩)
        | (go_at_call 35; refine (View_any _ _ _ (by first | exact V.out | exact V.out.drew _)).mono ?_; rintro e w' ⟨rfl, rfl⟩)
        | (go_at_call 37; refine (Extract_any _ _ _ (by first | exact V.out | exact V.out.drew _)).mono ?_; rintro e w' ⟨rfl, rfl⟩)
        | (go_at_call 34; refine (awake_any _ (by first | exact F.out | exact F.out.drew _) (by first | exact M.out | exact M.out.drew _) (by first | exact V.out | exact V.out.drew _)).mono ?_; rintro e w' ⟨rfl, q, rfl⟩))
  go_ret
  exact ⟨rfl, _, rfl⟩

set_option maxHeartbeats 1000000 in
theorem permits_RWk_Rw (a b x y : Int) (w : World) (ha : 0 ≤ a ∧ a ≤ 255) (hb : 0 ≤ b ∧ b ≤ 255)
    (hx : 1 + a % 6 = x) (hy : 1 + b % 6 = y)
    (hF : TabAt 2 fitL w) (hM : TabAt 3 markL w) (hV : TabAt 5 viewL w)
    (e0 : viewB x y = true) (e1 : readsB x = true) (e2 : readsB (viewI x y) = true) (e3 : readsB y = true) (e4 : writesB (viewI x y) = true) (e5 : writesB x = true) (e6 : writesB y = true) (e7 : (x == 3) = false) (e8 : exB x y = true) (e9 : readsB (exI x y) = true) (e10 : writesB (exI x y) = false) :
    Calls Tryd.prog 6 #[.int .u8 a, .int .u8 b] w fun e w' => e = .returned (.bool true) ∧ ∃ q, w' = w.drewN q := by
  have F := Lib.hid hF
  have M := Lib.hid hM
  have V := Lib.hid hV
  have A := Lib.hid ha
  have B := Lib.hid hb
  have HX := Lib.hid hx
  have HY := Lib.hid hy
  clear hF hM hV ha hb hx hy
  go_enter Tryd.func6, Tryd.ntmps6
  go_wp2_with (first
        | (go_at_call 45; first | ((with_reducible refine (one_is a x HX.out _ A.out.1 A.out.2).mono ?_); rintro e w' ⟨rfl, rfl⟩) | ((with_reducible refine (one_is b y HY.out _ B.out.1 B.out.2).mono ?_); rintro e w' ⟨rfl, rfl⟩))
        | (go_at_call 26; refine (Fits_any _ _ _ _ _ (by first | exact F.out | exact F.out.drew _) (by first | exact M.out | exact M.out.drew _)).mono ?_; rintro e w' ⟨rfl, q, rfl⟩)
        | (go_at_call 24; refine (Sub_any _ _ _ (by first | exact F.out | exact F.out.drew _) (by first | exact M.out | exact M.out.drew _)).mono ?_; rintro e w' ⟨rfl, q, rfl⟩)
        | (go_at_call 18; refine (Reads_any _ _).mono ?_; rintro e w' ⟨rfl, rfl⟩)
        | (go_at_call 20; refine (Writes_any _ _).mono ?_; rintro e w' ⟨rfl, rfl⟩)
        | (go_at_call 35; refine (View_any _ _ _ (by first | exact V.out | exact V.out.drew _)).mono ?_; rintro e w' ⟨rfl, rfl⟩)
        | (go_at_call 37; refine (Extract_any _ _ _ (by first | exact V.out | exact V.out.drew _)).mono ?_; rintro e w' ⟨rfl, rfl⟩)
        | (go_at_call 34; refine (awake_any _ (by first | exact F.out | exact F.out.drew _) (by first | exact M.out | exact M.out.drew _) (by first | exact V.out | exact V.out.drew _)).mono ?_; rintro e w' ⟨rfl, q, rfl⟩))
  go_ret
  exact ⟨rfl, _, rfl⟩

set_option maxHeartbeats 1000000 in
theorem permits_RWk_RW (a b x y : Int) (w : World) (ha : 0 ≤ a ∧ a ≤ 255) (hb : 0 ≤ b ∧ b ≤ 255)
    (hx : 1 + a % 6 = x) (hy : 1 + b % 6 = y)
    (hF : TabAt 2 fitL w) (hM : TabAt 3 markL w) (hV : TabAt 5 viewL w)
    (e0 : viewB x y = true) (e1 : readsB x = true) (e2 : readsB (viewI x y) = true) (e3 : readsB y = true) (e4 : writesB (viewI x y) = true) (e5 : writesB x = true) (e6 : writesB y = true) (e7 : (x == 3) = false) (e8 : exB x y = true) (e9 : readsB (exI x y) = true) (e10 : writesB (exI x y) = true) :
    Calls Tryd.prog 6 #[.int .u8 a, .int .u8 b] w fun e w' => e = .returned (.bool true) ∧ ∃ q, w' = w.drewN q := by
  have F := Lib.hid hF
  have M := Lib.hid hM
  have V := Lib.hid hV
  have A := Lib.hid ha
  have B := Lib.hid hb
  have HX := Lib.hid hx
  have HY := Lib.hid hy
  clear hF hM hV ha hb hx hy
  go_enter Tryd.func6, Tryd.ntmps6
  go_wp2_with (first
        | (go_at_call 45; first | ((with_reducible refine (one_is a x HX.out _ A.out.1 A.out.2).mono ?_); rintro e w' ⟨rfl, rfl⟩) | ((with_reducible refine (one_is b y HY.out _ B.out.1 B.out.2).mono ?_); rintro e w' ⟨rfl, rfl⟩))
        | (go_at_call 26; refine (Fits_any _ _ _ _ _ (by first | exact F.out | exact F.out.drew _) (by first | exact M.out | exact M.out.drew _)).mono ?_; rintro e w' ⟨rfl, q, rfl⟩)
        | (go_at_call 24; refine (Sub_any _ _ _ (by first | exact F.out | exact F.out.drew _) (by first | exact M.out | exact M.out.drew _)).mono ?_; rintro e w' ⟨rfl, q, rfl⟩)
        | (go_at_call 18; refine (Reads_any _ _).mono ?_; rintro e w' ⟨rfl, rfl⟩)
        | (go_at_call 20; refine (Writes_any _ _).mono ?_; rintro e w' ⟨rfl, rfl⟩)
        | (go_at_call 35; refine (View_any _ _ _ (by first | exact V.out | exact V.out.drew _)).mono ?_; rintro e w' ⟨rfl, rfl⟩)
        | (go_at_call 37; refine (Extract_any _ _ _ (by first | exact V.out | exact V.out.drew _)).mono ?_; rintro e w' ⟨rfl, rfl⟩)
        | (go_at_call 34; refine (awake_any _ (by first | exact F.out | exact F.out.drew _) (by first | exact M.out | exact M.out.drew _) (by first | exact V.out | exact V.out.drew _)).mono ?_; rintro e w' ⟨rfl, q, rfl⟩))
  go_ret
  exact ⟨rfl, _, rfl⟩

set_option maxHeartbeats 1000000 in
theorem permits_RWK_rw (a b x y : Int) (w : World) (ha : 0 ≤ a ∧ a ≤ 255) (hb : 0 ≤ b ∧ b ≤ 255)
    (hx : 1 + a % 6 = x) (hy : 1 + b % 6 = y)
    (hF : TabAt 2 fitL w) (hM : TabAt 3 markL w) (hV : TabAt 5 viewL w)
    (e0 : viewB x y = true) (e1 : readsB x = true) (e2 : readsB (viewI x y) = true) (e3 : readsB y = true) (e4 : writesB (viewI x y) = true) (e5 : writesB x = true) (e6 : writesB y = true) (e7 : (x == 3) = true) (e8 : (viewI x y != y) = false) (e9 : exB x y = true) (e10 : readsB (exI x y) = false) (e11 : writesB (exI x y) = false) :
    Calls Tryd.prog 6 #[.int .u8 a, .int .u8 b] w fun e w' => e = .returned (.bool true) ∧ ∃ q, w' = w.drewN q := by
  have F := Lib.hid hF
  have M := Lib.hid hM
  have V := Lib.hid hV
  have A := Lib.hid ha
  have B := Lib.hid hb
  have HX := Lib.hid hx
  have HY := Lib.hid hy
  clear hF hM hV ha hb hx hy
  go_enter Tryd.func6, Tryd.ntmps6
  go_wp2_with (first
        | (go_at_call 45; first | ((with_reducible refine (one_is a x HX.out _ A.out.1 A.out.2).mono ?_); rintro e w' ⟨rfl, rfl⟩) | ((with_reducible refine (one_is b y HY.out _ B.out.1 B.out.2).mono ?_); rintro e w' ⟨rfl, rfl⟩))
        | (go_at_call 26; refine (Fits_any _ _ _ _ _ (by first | exact F.out | exact F.out.drew _) (by first | exact M.out | exact M.out.drew _)).mono ?_; rintro e w' ⟨rfl, q, rfl⟩)
        | (go_at_call 24; refine (Sub_any _ _ _ (by first | exact F.out | exact F.out.drew _) (by first | exact M.out | exact M.out.drew _)).mono ?_; rintro e w' ⟨rfl, q, rfl⟩)
        | (go_at_call 18; refine (Reads_any _ _).mono ?_; rintro e w' ⟨rfl, rfl⟩)
        | (go_at_call 20; refine (Writes_any _ _).mono ?_; rintro e w' ⟨rfl, rfl⟩)
        | (go_at_call 35; refine (View_any _ _ _ (by first | exact V.out | exact V.out.drew _)).mono ?_; rintro e w' ⟨rfl, rfl⟩)
        | (go_at_call 37; refine (Extract_any _ _ _ (by first | exact V.out | exact V.out.drew _)).mono ?_; rintro e w' ⟨rfl, rfl⟩)
        | (go_at_call 34; refine (awake_any _ (by first | exact F.out | exact F.out.drew _) (by first | exact M.out | exact M.out.drew _) (by first | exact V.out | exact V.out.drew _)).mono ?_; rintro e w' ⟨rfl, q, rfl⟩))
  go_ret
  exact ⟨rfl, _, rfl⟩

set_option maxHeartbeats 1000000 in
theorem permits_RWK_rW (a b x y : Int) (w : World) (ha : 0 ≤ a ∧ a ≤ 255) (hb : 0 ≤ b ∧ b ≤ 255)
    (hx : 1 + a % 6 = x) (hy : 1 + b % 6 = y)
    (hF : TabAt 2 fitL w) (hM : TabAt 3 markL w) (hV : TabAt 5 viewL w)
    (e0 : viewB x y = true) (e1 : readsB x = true) (e2 : readsB (viewI x y) = true) (e3 : readsB y = true) (e4 : writesB (viewI x y) = true) (e5 : writesB x = true) (e6 : writesB y = true) (e7 : (x == 3) = true) (e8 : (viewI x y != y) = false) (e9 : exB x y = true) (e10 : readsB (exI x y) = false) (e11 : writesB (exI x y) = true) :
    Calls Tryd.prog 6 #[.int .u8 a, .int .u8 b] w fun e w' => e = .returned (.bool true) ∧ ∃ q, w' = w.drewN q := by
  have F := Lib.hid hF
  have M := Lib.hid hM
  have V := Lib.hid hV
  have A := Lib.hid ha
  have B := Lib.hid hb
  have HX := Lib.hid hx
  have HY := Lib.hid hy
  clear hF hM hV ha hb hx hy
  go_enter Tryd.func6, Tryd.ntmps6
  go_wp2_with (first
        | (go_at_call 45; first | ((with_reducible refine (one_is a x HX.out _ A.out.1 A.out.2).mono ?_); rintro e w' ⟨rfl, rfl⟩) | ((with_reducible refine (one_is b y HY.out _ B.out.1 B.out.2).mono ?_); rintro e w' ⟨rfl, rfl⟩))
        | (go_at_call 26; refine (Fits_any _ _ _ _ _ (by first | exact F.out | exact F.out.drew _) (by first | exact M.out | exact M.out.drew _)).mono ?_; rintro e w' ⟨rfl, q, rfl⟩)
        | (go_at_call 24; refine (Sub_any _ _ _ (by first | exact F.out | exact F.out.drew _) (by first | exact M.out | exact M.out.drew _)).mono ?_; rintro e w' ⟨rfl, q, rfl⟩)
        | (go_at_call 18; refine (Reads_any _ _).mono ?_; rintro e w' ⟨rfl, rfl⟩)
        | (go_at_call 20; refine (Writes_any _ _).mono ?_; rintro e w' ⟨rfl, rfl⟩)
        | (go_at_call 35; refine (View_any _ _ _ (by first | exact V.out | exact V.out.drew _)).mono ?_; rintro e w' ⟨rfl, rfl⟩)
        | (go_at_call 37; refine (Extract_any _ _ _ (by first | exact V.out | exact V.out.drew _)).mono ?_; rintro e w' ⟨rfl, rfl⟩)
        | (go_at_call 34; refine (awake_any _ (by first | exact F.out | exact F.out.drew _) (by first | exact M.out | exact M.out.drew _) (by first | exact V.out | exact V.out.drew _)).mono ?_; rintro e w' ⟨rfl, q, rfl⟩))
  go_ret
  exact ⟨rfl, _, rfl⟩

set_option maxHeartbeats 1000000 in
theorem permits_RWK_Rw (a b x y : Int) (w : World) (ha : 0 ≤ a ∧ a ≤ 255) (hb : 0 ≤ b ∧ b ≤ 255)
    (hx : 1 + a % 6 = x) (hy : 1 + b % 6 = y)
    (hF : TabAt 2 fitL w) (hM : TabAt 3 markL w) (hV : TabAt 5 viewL w)
    (e0 : viewB x y = true) (e1 : readsB x = true) (e2 : readsB (viewI x y) = true) (e3 : readsB y = true) (e4 : writesB (viewI x y) = true) (e5 : writesB x = true) (e6 : writesB y = true) (e7 : (x == 3) = true) (e8 : (viewI x y != y) = false) (e9 : exB x y = true) (e10 : readsB (exI x y) = true) (e11 : writesB (exI x y) = false) :
    Calls Tryd.prog 6 #[.int .u8 a, .int .u8 b] w fun e w' => e = .returned (.bool true) ∧ ∃ q, w' = w.drewN q := by
  have F := Lib.hid hF
  have M := Lib.hid hM
  have V := Lib.hid hV
  have A := Lib.hid ha
  have B := Lib.hid hb
  have HX := Lib.hid hx
  have HY := Lib.hid hy
  clear hF hM hV ha hb hx hy
  go_enter Tryd.func6, Tryd.ntmps6
  go_wp2_with (first
        | (go_at_call 45; first | ((with_reducible refine (one_is a x HX.out _ A.out.1 A.out.2).mono ?_); rintro e w' ⟨rfl, rfl⟩) | ((with_reducible refine (one_is b y HY.out _ B.out.1 B.out.2).mono ?_); rintro e w' ⟨rfl, rfl⟩))
        | (go_at_call 26; refine (Fits_any _ _ _ _ _ (by first | exact F.out | exact F.out.drew _) (by first | exact M.out | exact M.out.drew _)).mono ?_; rintro e w' ⟨rfl, q, rfl⟩)
        | (go_at_call 24; refine (Sub_any _ _ _ (by first | exact F.out | exact F.out.drew _) (by first | exact M.out | exact M.out.drew _)).mono ?_; rintro e w' ⟨rfl, q, rfl⟩)
        | (go_at_call 18; refine (Reads_any _ _).mono ?_; rintro e w' ⟨rfl, rfl⟩)
        | (go_at_call 20; refine (Writes_any _ _).mono ?_; rintro e w' ⟨rfl, rfl⟩)
        | (go_at_call 35; refine (View_any _ _ _ (by first | exact V.out | exact V.out.drew _)).mono ?_; rintro e w' ⟨rfl, rfl⟩)
        | (go_at_call 37; refine (Extract_any _ _ _ (by first | exact V.out | exact V.out.drew _)).mono ?_; rintro e w' ⟨rfl, rfl⟩)
        | (go_at_call 34; refine (awake_any _ (by first | exact F.out | exact F.out.drew _) (by first | exact M.out | exact M.out.drew _) (by first | exact V.out | exact V.out.drew _)).mono ?_; rintro e w' ⟨rfl, q, rfl⟩))
  go_ret
  exact ⟨rfl, _, rfl⟩

set_option maxHeartbeats 1000000 in
theorem permits_RWK_RW (a b x y : Int) (w : World) (ha : 0 ≤ a ∧ a ≤ 255) (hb : 0 ≤ b ∧ b ≤ 255)
    (hx : 1 + a % 6 = x) (hy : 1 + b % 6 = y)
    (hF : TabAt 2 fitL w) (hM : TabAt 3 markL w) (hV : TabAt 5 viewL w)
    (e0 : viewB x y = true) (e1 : readsB x = true) (e2 : readsB (viewI x y) = true) (e3 : readsB y = true) (e4 : writesB (viewI x y) = true) (e5 : writesB x = true) (e6 : writesB y = true) (e7 : (x == 3) = true) (e8 : (viewI x y != y) = false) (e9 : exB x y = true) (e10 : readsB (exI x y) = true) (e11 : writesB (exI x y) = true) :
    Calls Tryd.prog 6 #[.int .u8 a, .int .u8 b] w fun e w' => e = .returned (.bool true) ∧ ∃ q, w' = w.drewN q := by
  have F := Lib.hid hF
  have M := Lib.hid hM
  have V := Lib.hid hV
  have A := Lib.hid ha
  have B := Lib.hid hb
  have HX := Lib.hid hx
  have HY := Lib.hid hy
  clear hF hM hV ha hb hx hy
  go_enter Tryd.func6, Tryd.ntmps6
  go_wp2_with (first
        | (go_at_call 45; first | ((with_reducible refine (one_is a x HX.out _ A.out.1 A.out.2).mono ?_); rintro e w' ⟨rfl, rfl⟩) | ((with_reducible refine (one_is b y HY.out _ B.out.1 B.out.2).mono ?_); rintro e w' ⟨rfl, rfl⟩))
        | (go_at_call 26; refine (Fits_any _ _ _ _ _ (by first | exact F.out | exact F.out.drew _) (by first | exact M.out | exact M.out.drew _)).mono ?_; rintro e w' ⟨rfl, q, rfl⟩)
        | (go_at_call 24; refine (Sub_any _ _ _ (by first | exact F.out | exact F.out.drew _) (by first | exact M.out | exact M.out.drew _)).mono ?_; rintro e w' ⟨rfl, q, rfl⟩)
        | (go_at_call 18; refine (Reads_any _ _).mono ?_; rintro e w' ⟨rfl, rfl⟩)
        | (go_at_call 20; refine (Writes_any _ _).mono ?_; rintro e w' ⟨rfl, rfl⟩)
        | (go_at_call 35; refine (View_any _ _ _ (by first | exact V.out | exact V.out.drew _)).mono ?_; rintro e w' ⟨rfl, rfl⟩)
        | (go_at_call 37; refine (Extract_any _ _ _ (by first | exact V.out | exact V.out.drew _)).mono ?_; rintro e w' ⟨rfl, rfl⟩)
        | (go_at_call 34; refine (awake_any _ (by first | exact F.out | exact F.out.drew _) (by first | exact M.out | exact M.out.drew _) (by first | exact V.out | exact V.out.drew _)).mono ?_; rintro e w' ⟨rfl, q, rfl⟩))
  go_ret
  exact ⟨rfl, _, rfl⟩

theorem permits_walk (a b x y : Int) (w : World) (ha : 0 ≤ a ∧ a ≤ 255) (hb : 0 ≤ b ∧ b ≤ 255)
    (hx : 1 + a % 6 = x) (hy : 1 + b % 6 = y)
    (hF : TabAt 2 fitL w) (hM : TabAt 3 markL w) (hV : TabAt 5 viewL w)
    (mx : x ∈ six) (my : y ∈ six) :
    Calls Tryd.prog 6 #[.int .u8 a, .int .u8 b] w fun e w' => e = .returned (.bool true) ∧ ∃ q, w' = w.drewN q := by
  have s1 := view_reads x mx y my
  have s2 := view_no x mx y my
  have s3 := ex_writes x mx y my
  have s4 := ex_no x mx y my
  cases v1 : viewB x y
  · have rx : readsB x = false := s1.symm.trans v1
    cases x1 : exB x y
    · exact permits_N_n a b x y w ha hb hx hy hF hM hV (v1) (rx) (x1) (s3.symm.trans x1)
    · cases x2 : readsB (exI x y) <;> cases x3 : writesB (exI x y)
      · exact permits_N_rw a b x y w ha hb hx hy hF hM hV (v1) (rx) (x1) (s3.symm.trans x1) (x2) (x3)
      · exact permits_N_rW a b x y w ha hb hx hy hF hM hV (v1) (rx) (x1) (s3.symm.trans x1) (x2) (x3) ((s4 x1).2 x3)
      · exact permits_N_Rw a b x y w ha hb hx hy hF hM hV (v1) (rx) (x1) (s3.symm.trans x1) (x2) ((s4 x1).1 x2) (x3)
      · exact permits_N_RW a b x y w ha hb hx hy hF hM hV (v1) (rx) (x1) (s3.symm.trans x1) (x2) ((s4 x1).1 x2) (x3) ((s4 x1).2 x3)
  · have rx : readsB x = true := s1.symm.trans v1
    have s5 := s2 v1
    cases v2 : readsB (viewI x y) <;> cases v3 : writesB (viewI x y) <;> cases v4 : (x == 3)
    · skip
      cases x1 : exB x y
      · exact permits_rwk_n a b x y w ha hb hx hy hF hM hV (v1) (rx) (v2) (v3) (v4) (x1) (s3.symm.trans x1)
      · cases x2 : readsB (exI x y) <;> cases x3 : writesB (exI x y)
        · exact permits_rwk_rw a b x y w ha hb hx hy hF hM hV (v1) (rx) (v2) (v3) (v4) (x1) (s3.symm.trans x1) (x2) (x3)
        · exact permits_rwk_rW a b x y w ha hb hx hy hF hM hV (v1) (rx) (v2) (v3) (v4) (x1) (s3.symm.trans x1) (x2) (x3) ((s4 x1).2 x3)
        · exact permits_rwk_Rw a b x y w ha hb hx hy hF hM hV (v1) (rx) (v2) (v3) (v4) (x1) (s3.symm.trans x1) (x2) ((s4 x1).1 x2) (x3)
        · exact permits_rwk_RW a b x y w ha hb hx hy hF hM hV (v1) (rx) (v2) (v3) (v4) (x1) (s3.symm.trans x1) (x2) ((s4 x1).1 x2) (x3) ((s4 x1).2 x3)
    · skip
      cases x1 : exB x y
      · exact permits_rwK_n a b x y w ha hb hx hy hF hM hV (v1) (rx) (v2) (v3) (v4) (by rw [s5.2.2 (by simpa using v4)]; simp) (x1) (s3.symm.trans x1)
      · cases x2 : readsB (exI x y) <;> cases x3 : writesB (exI x y)
        · exact permits_rwK_rw a b x y w ha hb hx hy hF hM hV (v1) (rx) (v2) (v3) (v4) (by rw [s5.2.2 (by simpa using v4)]; simp) (x1) (s3.symm.trans x1) (x2) (x3)
        · exact permits_rwK_rW a b x y w ha hb hx hy hF hM hV (v1) (rx) (v2) (v3) (v4) (by rw [s5.2.2 (by simpa using v4)]; simp) (x1) (s3.symm.trans x1) (x2) (x3) ((s4 x1).2 x3)
        · exact permits_rwK_Rw a b x y w ha hb hx hy hF hM hV (v1) (rx) (v2) (v3) (v4) (by rw [s5.2.2 (by simpa using v4)]; simp) (x1) (s3.symm.trans x1) (x2) ((s4 x1).1 x2) (x3)
        · exact permits_rwK_RW a b x y w ha hb hx hy hF hM hV (v1) (rx) (v2) (v3) (v4) (by rw [s5.2.2 (by simpa using v4)]; simp) (x1) (s3.symm.trans x1) (x2) ((s4 x1).1 x2) (x3) ((s4 x1).2 x3)
    · skip
      cases x1 : exB x y
      · exact absurd ((s5.2.1 v3).1) (by rw [s3.symm.trans x1]; decide)
      · cases x2 : readsB (exI x y) <;> cases x3 : writesB (exI x y)
        · exact permits_rWk_rw a b x y w ha hb hx hy hF hM hV (v1) (rx) (v2) (v3) (s3.symm.trans x1) ((s5.2.1 v3).2) (v4) (x1) (x2) (x3)
        · exact permits_rWk_rW a b x y w ha hb hx hy hF hM hV (v1) (rx) (v2) (v3) (s3.symm.trans x1) ((s4 x1).2 x3) (v4) (x1) (x2) (x3)
        · exact permits_rWk_Rw a b x y w ha hb hx hy hF hM hV (v1) (rx) (v2) (v3) (s3.symm.trans x1) ((s5.2.1 v3).2) (v4) (x1) (x2) ((s4 x1).1 x2) (x3)
        · exact permits_rWk_RW a b x y w ha hb hx hy hF hM hV (v1) (rx) (v2) (v3) (s3.symm.trans x1) ((s4 x1).2 x3) (v4) (x1) (x2) ((s4 x1).1 x2) (x3)
    · skip
      cases x1 : exB x y
      · exact absurd ((s5.2.1 v3).1) (by rw [s3.symm.trans x1]; decide)
      · cases x2 : readsB (exI x y) <;> cases x3 : writesB (exI x y)
        · exact permits_rWK_rw a b x y w ha hb hx hy hF hM hV (v1) (rx) (v2) (v3) (s3.symm.trans x1) ((s5.2.1 v3).2) (v4) (by rw [s5.2.2 (by simpa using v4)]; simp) (x1) (x2) (x3)
        · exact permits_rWK_rW a b x y w ha hb hx hy hF hM hV (v1) (rx) (v2) (v3) (s3.symm.trans x1) ((s4 x1).2 x3) (v4) (by rw [s5.2.2 (by simpa using v4)]; simp) (x1) (x2) (x3)
        · exact permits_rWK_Rw a b x y w ha hb hx hy hF hM hV (v1) (rx) (v2) (v3) (s3.symm.trans x1) ((s5.2.1 v3).2) (v4) (by rw [s5.2.2 (by simpa using v4)]; simp) (x1) (x2) ((s4 x1).1 x2) (x3)
        · exact permits_rWK_RW a b x y w ha hb hx hy hF hM hV (v1) (rx) (v2) (v3) (s3.symm.trans x1) ((s4 x1).2 x3) (v4) (by rw [s5.2.2 (by simpa using v4)]; simp) (x1) (x2) ((s4 x1).1 x2) (x3)
    · skip
      cases x1 : exB x y
      · exact permits_Rwk_n a b x y w ha hb hx hy hF hM hV (v1) (rx) (v2) (s5.1 v2) (v3) (v4) (x1) (s3.symm.trans x1)
      · cases x2 : readsB (exI x y) <;> cases x3 : writesB (exI x y)
        · exact permits_Rwk_rw a b x y w ha hb hx hy hF hM hV (v1) (rx) (v2) (s5.1 v2) (v3) (v4) (x1) (s3.symm.trans x1) (x2) (x3)
        · exact permits_Rwk_rW a b x y w ha hb hx hy hF hM hV (v1) (rx) (v2) (s5.1 v2) (v3) (v4) (x1) (s3.symm.trans x1) (x2) (x3) ((s4 x1).2 x3)
        · exact permits_Rwk_Rw a b x y w ha hb hx hy hF hM hV (v1) (rx) (v2) ((s4 x1).1 x2) (v3) (v4) (x1) (s3.symm.trans x1) (x2) (x3)
        · exact permits_Rwk_RW a b x y w ha hb hx hy hF hM hV (v1) (rx) (v2) ((s4 x1).1 x2) (v3) (v4) (x1) (s3.symm.trans x1) (x2) (x3) ((s4 x1).2 x3)
    · skip
      cases x1 : exB x y
      · exact permits_RwK_n a b x y w ha hb hx hy hF hM hV (v1) (rx) (v2) (s5.1 v2) (v3) (v4) (by rw [s5.2.2 (by simpa using v4)]; simp) (x1) (s3.symm.trans x1)
      · cases x2 : readsB (exI x y) <;> cases x3 : writesB (exI x y)
        · exact permits_RwK_rw a b x y w ha hb hx hy hF hM hV (v1) (rx) (v2) (s5.1 v2) (v3) (v4) (by rw [s5.2.2 (by simpa using v4)]; simp) (x1) (s3.symm.trans x1) (x2) (x3)
        · exact permits_RwK_rW a b x y w ha hb hx hy hF hM hV (v1) (rx) (v2) (s5.1 v2) (v3) (v4) (by rw [s5.2.2 (by simpa using v4)]; simp) (x1) (s3.symm.trans x1) (x2) (x3) ((s4 x1).2 x3)
        · exact permits_RwK_Rw a b x y w ha hb hx hy hF hM hV (v1) (rx) (v2) ((s4 x1).1 x2) (v3) (v4) (by rw [s5.2.2 (by simpa using v4)]; simp) (x1) (s3.symm.trans x1) (x2) (x3)
        · exact permits_RwK_RW a b x y w ha hb hx hy hF hM hV (v1) (rx) (v2) ((s4 x1).1 x2) (v3) (v4) (by rw [s5.2.2 (by simpa using v4)]; simp) (x1) (s3.symm.trans x1) (x2) (x3) ((s4 x1).2 x3)
    · skip
      cases x1 : exB x y
      · exact absurd ((s5.2.1 v3).1) (by rw [s3.symm.trans x1]; decide)
      · cases x2 : readsB (exI x y) <;> cases x3 : writesB (exI x y)
        · exact permits_RWk_rw a b x y w ha hb hx hy hF hM hV (v1) (rx) (v2) (s5.1 v2) (v3) (s3.symm.trans x1) ((s5.2.1 v3).2) (v4) (x1) (x2) (x3)
        · exact permits_RWk_rW a b x y w ha hb hx hy hF hM hV (v1) (rx) (v2) (s5.1 v2) (v3) (s3.symm.trans x1) ((s4 x1).2 x3) (v4) (x1) (x2) (x3)
        · exact permits_RWk_Rw a b x y w ha hb hx hy hF hM hV (v1) (rx) (v2) ((s4 x1).1 x2) (v3) (s3.symm.trans x1) ((s5.2.1 v3).2) (v4) (x1) (x2) (x3)
        · exact permits_RWk_RW a b x y w ha hb hx hy hF hM hV (v1) (rx) (v2) ((s4 x1).1 x2) (v3) (s3.symm.trans x1) ((s4 x1).2 x3) (v4) (x1) (x2) (x3)
    · skip
      cases x1 : exB x y
      · exact absurd ((s5.2.1 v3).1) (by rw [s3.symm.trans x1]; decide)
      · cases x2 : readsB (exI x y) <;> cases x3 : writesB (exI x y)
        · exact permits_RWK_rw a b x y w ha hb hx hy hF hM hV (v1) (rx) (v2) (s5.1 v2) (v3) (s3.symm.trans x1) ((s5.2.1 v3).2) (v4) (by rw [s5.2.2 (by simpa using v4)]; simp) (x1) (x2) (x3)
        · exact permits_RWK_rW a b x y w ha hb hx hy hF hM hV (v1) (rx) (v2) (s5.1 v2) (v3) (s3.symm.trans x1) ((s4 x1).2 x3) (v4) (by rw [s5.2.2 (by simpa using v4)]; simp) (x1) (x2) (x3)
        · exact permits_RWK_Rw a b x y w ha hb hx hy hF hM hV (v1) (rx) (v2) ((s4 x1).1 x2) (v3) (s3.symm.trans x1) ((s5.2.1 v3).2) (v4) (by rw [s5.2.2 (by simpa using v4)]; simp) (x1) (x2) (x3)
        · exact permits_RWK_RW a b x y w ha hb hx hy hF hM hV (v1) (rx) (v2) ((s4 x1).1 x2) (v3) (s3.symm.trans x1) ((s4 x1).2 x3) (v4) (by rw [s5.2.2 (by simpa using v4)]; simp) (x1) (x2) (x3)

end Cp
end Go.Proofs.YtgdfoonflkddnaaDoor
