/- CapOrder: facts over the finite table, and the walk. -/
import Derived.Test.YtgdfoonflkddnaaDoorA5
namespace Go.Proofs.YtgdfoonflkddnaaDoor
open Go.ChangeShapes Go.WideShapes Go.ChangeAt Go.RowKit
namespace Cp

def six : List Int := [1, 2, 3, 4, 5, 6]
def three : List Int := [0, 1, 2]

theorem mem_six (a : Int) : 1 + a % 6 ∈ six := by
  have : a % 6 = 0 ∨ a % 6 = 1 ∨ a % 6 = 2 ∨ a % 6 = 3 ∨ a % 6 = 4 ∨ a % 6 = 5 := by omega
  rcases this with h | h | h | h | h | h <;> rw [h] <;> decide

theorem mem_three (a : Int) : a % 3 ∈ three := by
  have : a % 3 = 0 ∨ a % 3 = 1 ∨ a % 3 = 2 := by omega
  rcases this with h | h | h <;> rw [h] <;> decide

theorem one_is (n x : Int) (hx : 1 + n % 6 = x) (w : World) (h0 : 0 ≤ n) (h1 : n ≤ 255) :
    Calls Tryd.prog 45 #[.int .u8 n] w fun e w' => e = .returned (.int .i64 x) ∧ w = w' := by
  subst hx
  exact one_any n w h0 h1

theorem mark_is (n x : Int) (hx : n % 3 = x) (w : World) (h0 : 0 ≤ n) (h1 : n ≤ 255) :
    Calls Tryd.prog 46 #[.int .u8 n] w fun e w' => e = .returned (.int .i64 x) ∧ w = w' := by
  subst hx
  exact mark_any n w h0 h1

theorem u8_bounds {a : Int} (h : (Lit.int .u8 a).wf = true) : 0 ≤ a ∧ a ≤ 255 := by
  simp [Lit.wf, IntKind.min, IntKind.max, IntKind.bits, IntKind.signed] at h
  omega

theorem order_refl : ∀ x ∈ six, ∀ i ∈ three, fitsB x i x i = true := by decide +kernel
theorem order_trans : ∀ x ∈ six, ∀ i ∈ three, ∀ y ∈ six, ∀ j ∈ three, ∀ z ∈ six, ∀ k ∈ three, fitsB x i y j = true → fitsB y j z k = true → fitsB x i z k = true := by decide +kernel
theorem order_perm : ∀ x ∈ six, ∀ i ∈ three, ∀ y ∈ six, ∀ j ∈ three, fitsB x i y j = true → (readsB y = true → readsB x = true) ∧ (writesB y = true → writesB x = true) := by decide +kernel
theorem order_iso : ∀ x ∈ six, ∀ i ∈ three, fitsB 1 1 x i = true := by decide +kernel


set_option maxHeartbeats 2000000 in
/-- The walk, each answer that it needs given. -/
theorem order_walk (a b c l m n x y z i j k : Int) (w : World) (ha : 0 ≤ a ∧ a ≤ 255) (hb : 0 ≤ b ∧ b ≤ 255) (hc : 0 ≤ c ∧ c ≤ 255) (hl : 0 ≤ l ∧ l ≤ 255) (hm : 0 ≤ m ∧ m ≤ 255) (hn : 0 ≤ n ∧ n ≤ 255)
    (hx : 1 + a % 6 = x) (hy : 1 + b % 6 = y) (hz : 1 + c % 6 = z) (hi : l % 3 = i) (hj : m % 3 = j) (hk : n % 3 = k)
    (hF : TabAt 2 fitL w) (hM : TabAt 3 markL w) (hV : TabAt 5 viewL w)
    (e1 : fitsB x i x i = true) (e2 : fitsB 1 1 x i = true)
    (e3 : fitsB x i y j = true → fitsB y j z k = true → fitsB x i z k = true)
    (e4 : fitsB x i y j = true → (readsB y = true → readsB x = true) ∧ (writesB y = true → writesB x = true)) :
    Calls Tryd.prog 5 #[.int .u8 a, .int .u8 b, .int .u8 c, .int .u8 l, .int .u8 m, .int .u8 n] w fun e w' => e = .returned (.bool true) ∧ ∃ q, w' = w.drewN q := by
  have F := Lib.hid hF
  have M := Lib.hid hM
  have V := Lib.hid hV
  have A := Lib.hid ha
  have B := Lib.hid hb
  have C := Lib.hid hc
  have L := Lib.hid hl
  have MM := Lib.hid hm
  have N := Lib.hid hn
  have HX := Lib.hid hx
  have HY := Lib.hid hy
  have HZ := Lib.hid hz
  have HI := Lib.hid hi
  have HJ := Lib.hid hj
  have HK := Lib.hid hk
  have E3 := Lib.hid e3
  have E4 := Lib.hid e4
  clear hF hM hV ha hb hc hl hm hn hx hy hz hi hj hk e3 e4
  cases p : fitsB x i y j
  · clear E3 E4
    go_enter Tryd.func5, Tryd.ntmps5
    go_wp2_with (first
          | (go_at_call 45; first | ((with_reducible refine (one_is a x HX.out _ A.out.1 A.out.2).mono ?_); rintro e w' ⟨rfl, rfl⟩) | ((with_reducible refine (one_is b y HY.out _ B.out.1 B.out.2).mono ?_); rintro e w' ⟨rfl, rfl⟩) | ((with_reducible refine (one_is c z HZ.out _ C.out.1 C.out.2).mono ?_); rintro e w' ⟨rfl, rfl⟩))
          | (go_at_call 46; first | ((with_reducible refine (mark_is l i HI.out _ L.out.1 L.out.2).mono ?_); rintro e w' ⟨rfl, rfl⟩) | ((with_reducible refine (mark_is m j HJ.out _ MM.out.1 MM.out.2).mono ?_); rintro e w' ⟨rfl, rfl⟩) | ((with_reducible refine (mark_is n k HK.out _ N.out.1 N.out.2).mono ?_); rintro e w' ⟨rfl, rfl⟩))
          | (go_at_call 26; refine (Fits_any _ _ _ _ _ (by first | exact F.out | exact F.out.drew _) (by first | exact M.out | exact M.out.drew _)).mono ?_; rintro e w' ⟨rfl, q, rfl⟩)
          | (go_at_call 24; refine (Sub_any _ _ _ (by first | exact F.out | exact F.out.drew _) (by first | exact M.out | exact M.out.drew _)).mono ?_; rintro e w' ⟨rfl, q, rfl⟩)
          | (go_at_call 18; refine (Reads_any _ _).mono ?_; rintro e w' ⟨rfl, rfl⟩)
          | (go_at_call 20; refine (Writes_any _ _).mono ?_; rintro e w' ⟨rfl, rfl⟩)
          | (go_at_call 34; refine (awake_any _ (by first | exact F.out | exact F.out.drew _) (by first | exact M.out | exact M.out.drew _) (by first | exact V.out | exact V.out.drew _)).mono ?_; rintro e w' ⟨rfl, q, rfl⟩))
    go_ret
    exact ⟨rfl, _, rfl⟩
  · have P4 := E4.out p
    have P1 := Lib.hid P4.1
    have P2 := Lib.hid P4.2
    clear P4 E4
    cases q : fitsB y j z k
    · clear E3
      cases ry : readsB y <;> cases wy : writesB y
      · clear P1 P2
        go_enter Tryd.func5, Tryd.ntmps5
        go_wp2_with (first
              | (go_at_call 45; first | ((with_reducible refine (one_is a x HX.out _ A.out.1 A.out.2).mono ?_); rintro e w' ⟨rfl, rfl⟩) | ((with_reducible refine (one_is b y HY.out _ B.out.1 B.out.2).mono ?_); rintro e w' ⟨rfl, rfl⟩) | ((with_reducible refine (one_is c z HZ.out _ C.out.1 C.out.2).mono ?_); rintro e w' ⟨rfl, rfl⟩))
              | (go_at_call 46; first | ((with_reducible refine (mark_is l i HI.out _ L.out.1 L.out.2).mono ?_); rintro e w' ⟨rfl, rfl⟩) | ((with_reducible refine (mark_is m j HJ.out _ MM.out.1 MM.out.2).mono ?_); rintro e w' ⟨rfl, rfl⟩) | ((with_reducible refine (mark_is n k HK.out _ N.out.1 N.out.2).mono ?_); rintro e w' ⟨rfl, rfl⟩))
              | (go_at_call 26; refine (Fits_any _ _ _ _ _ (by first | exact F.out | exact F.out.drew _) (by first | exact M.out | exact M.out.drew _)).mono ?_; rintro e w' ⟨rfl, q, rfl⟩)
              | (go_at_call 24; refine (Sub_any _ _ _ (by first | exact F.out | exact F.out.drew _) (by first | exact M.out | exact M.out.drew _)).mono ?_; rintro e w' ⟨rfl, q, rfl⟩)
              | (go_at_call 18; refine (Reads_any _ _).mono ?_; rintro e w' ⟨rfl, rfl⟩)
              | (go_at_call 20; refine (Writes_any _ _).mono ?_; rintro e w' ⟨rfl, rfl⟩)
              | (go_at_call 34; refine (awake_any _ (by first | exact F.out | exact F.out.drew _) (by first | exact M.out | exact M.out.drew _) (by first | exact V.out | exact V.out.drew _)).mono ?_; rintro e w' ⟨rfl, q, rfl⟩))
        go_ret
        exact ⟨rfl, _, rfl⟩
      · have wx := P2.out wy
        clear P1 P2
        go_enter Tryd.func5, Tryd.ntmps5
        go_wp2_with (first
              | (go_at_call 45; first | ((with_reducible refine (one_is a x HX.out _ A.out.1 A.out.2).mono ?_); rintro e w' ⟨rfl, rfl⟩) | ((with_reducible refine (one_is b y HY.out _ B.out.1 B.out.2).mono ?_); rintro e w' ⟨rfl, rfl⟩) | ((with_reducible refine (one_is c z HZ.out _ C.out.1 C.out.2).mono ?_); rintro e w' ⟨rfl, rfl⟩))
              | (go_at_call 46; first | ((with_reducible refine (mark_is l i HI.out _ L.out.1 L.out.2).mono ?_); rintro e w' ⟨rfl, rfl⟩) | ((with_reducible refine (mark_is m j HJ.out _ MM.out.1 MM.out.2).mono ?_); rintro e w' ⟨rfl, rfl⟩) | ((with_reducible refine (mark_is n k HK.out _ N.out.1 N.out.2).mono ?_); rintro e w' ⟨rfl, rfl⟩))
              | (go_at_call 26; refine (Fits_any _ _ _ _ _ (by first | exact F.out | exact F.out.drew _) (by first | exact M.out | exact M.out.drew _)).mono ?_; rintro e w' ⟨rfl, q, rfl⟩)
              | (go_at_call 24; refine (Sub_any _ _ _ (by first | exact F.out | exact F.out.drew _) (by first | exact M.out | exact M.out.drew _)).mono ?_; rintro e w' ⟨rfl, q, rfl⟩)
              | (go_at_call 18; refine (Reads_any _ _).mono ?_; rintro e w' ⟨rfl, rfl⟩)
              | (go_at_call 20; refine (Writes_any _ _).mono ?_; rintro e w' ⟨rfl, rfl⟩)
              | (go_at_call 34; refine (awake_any _ (by first | exact F.out | exact F.out.drew _) (by first | exact M.out | exact M.out.drew _) (by first | exact V.out | exact V.out.drew _)).mono ?_; rintro e w' ⟨rfl, q, rfl⟩))
        go_ret
        exact ⟨rfl, _, rfl⟩
      · have rx := P1.out ry
        clear P1 P2
        go_enter Tryd.func5, Tryd.ntmps5
        go_wp2_with (first
              | (go_at_call 45; first | ((with_reducible refine (one_is a x HX.out _ A.out.1 A.out.2).mono ?_); rintro e w' ⟨rfl, rfl⟩) | ((with_reducible refine (one_is b y HY.out _ B.out.1 B.out.2).mono ?_); rintro e w' ⟨rfl, rfl⟩) | ((with_reducible refine (one_is c z HZ.out _ C.out.1 C.out.2).mono ?_); rintro e w' ⟨rfl, rfl⟩))
              | (go_at_call 46; first | ((with_reducible refine (mark_is l i HI.out _ L.out.1 L.out.2).mono ?_); rintro e w' ⟨rfl, rfl⟩) | ((with_reducible refine (mark_is m j HJ.out _ MM.out.1 MM.out.2).mono ?_); rintro e w' ⟨rfl, rfl⟩) | ((with_reducible refine (mark_is n k HK.out _ N.out.1 N.out.2).mono ?_); rintro e w' ⟨rfl, rfl⟩))
              | (go_at_call 26; refine (Fits_any _ _ _ _ _ (by first | exact F.out | exact F.out.drew _) (by first | exact M.out | exact M.out.drew _)).mono ?_; rintro e w' ⟨rfl, q, rfl⟩)
              | (go_at_call 24; refine (Sub_any _ _ _ (by first | exact F.out | exact F.out.drew _) (by first | exact M.out | exact M.out.drew _)).mono ?_; rintro e w' ⟨rfl, q, rfl⟩)
              | (go_at_call 18; refine (Reads_any _ _).mono ?_; rintro e w' ⟨rfl, rfl⟩)
              | (go_at_call 20; refine (Writes_any _ _).mono ?_; rintro e w' ⟨rfl, rfl⟩)
              | (go_at_call 34; refine (awake_any _ (by first | exact F.out | exact F.out.drew _) (by first | exact M.out | exact M.out.drew _) (by first | exact V.out | exact V.out.drew _)).mono ?_; rintro e w' ⟨rfl, q, rfl⟩))
        go_ret
        exact ⟨rfl, _, rfl⟩
      · have rx := P1.out ry
        have wx := P2.out wy
        clear P1 P2
        go_enter Tryd.func5, Tryd.ntmps5
        go_wp2_with (first
              | (go_at_call 45; first | ((with_reducible refine (one_is a x HX.out _ A.out.1 A.out.2).mono ?_); rintro e w' ⟨rfl, rfl⟩) | ((with_reducible refine (one_is b y HY.out _ B.out.1 B.out.2).mono ?_); rintro e w' ⟨rfl, rfl⟩) | ((with_reducible refine (one_is c z HZ.out _ C.out.1 C.out.2).mono ?_); rintro e w' ⟨rfl, rfl⟩))
              | (go_at_call 46; first | ((with_reducible refine (mark_is l i HI.out _ L.out.1 L.out.2).mono ?_); rintro e w' ⟨rfl, rfl⟩) | ((with_reducible refine (mark_is m j HJ.out _ MM.out.1 MM.out.2).mono ?_); rintro e w' ⟨rfl, rfl⟩) | ((with_reducible refine (mark_is n k HK.out _ N.out.1 N.out.2).mono ?_); rintro e w' ⟨rfl, rfl⟩))
              | (go_at_call 26; refine (Fits_any _ _ _ _ _ (by first | exact F.out | exact F.out.drew _) (by first | exact M.out | exact M.out.drew _)).mono ?_; rintro e w' ⟨rfl, q, rfl⟩)
              | (go_at_call 24; refine (Sub_any _ _ _ (by first | exact F.out | exact F.out.drew _) (by first | exact M.out | exact M.out.drew _)).mono ?_; rintro e w' ⟨rfl, q, rfl⟩)
              | (go_at_call 18; refine (Reads_any _ _).mono ?_; rintro e w' ⟨rfl, rfl⟩)
              | (go_at_call 20; refine (Writes_any _ _).mono ?_; rintro e w' ⟨rfl, rfl⟩)
              | (go_at_call 34; refine (awake_any _ (by first | exact F.out | exact F.out.drew _) (by first | exact M.out | exact M.out.drew _) (by first | exact V.out | exact V.out.drew _)).mono ?_; rintro e w' ⟨rfl, q, rfl⟩))
        go_ret
        exact ⟨rfl, _, rfl⟩
    · have r := E3.out p q
      clear E3
      cases ry : readsB y <;> cases wy : writesB y
      · clear P1 P2
        go_enter Tryd.func5, Tryd.ntmps5
        go_wp2_with (first
              | (go_at_call 45; first | ((with_reducible refine (one_is a x HX.out _ A.out.1 A.out.2).mono ?_); rintro e w' ⟨rfl, rfl⟩) | ((with_reducible refine (one_is b y HY.out _ B.out.1 B.out.2).mono ?_); rintro e w' ⟨rfl, rfl⟩) | ((with_reducible refine (one_is c z HZ.out _ C.out.1 C.out.2).mono ?_); rintro e w' ⟨rfl, rfl⟩))
              | (go_at_call 46; first | ((with_reducible refine (mark_is l i HI.out _ L.out.1 L.out.2).mono ?_); rintro e w' ⟨rfl, rfl⟩) | ((with_reducible refine (mark_is m j HJ.out _ MM.out.1 MM.out.2).mono ?_); rintro e w' ⟨rfl, rfl⟩) | ((with_reducible refine (mark_is n k HK.out _ N.out.1 N.out.2).mono ?_); rintro e w' ⟨rfl, rfl⟩))
              | (go_at_call 26; refine (Fits_any _ _ _ _ _ (by first | exact F.out | exact F.out.drew _) (by first | exact M.out | exact M.out.drew _)).mono ?_; rintro e w' ⟨rfl, q, rfl⟩)
              | (go_at_call 24; refine (Sub_any _ _ _ (by first | exact F.out | exact F.out.drew _) (by first | exact M.out | exact M.out.drew _)).mono ?_; rintro e w' ⟨rfl, q, rfl⟩)
              | (go_at_call 18; refine (Reads_any _ _).mono ?_; rintro e w' ⟨rfl, rfl⟩)
              | (go_at_call 20; refine (Writes_any _ _).mono ?_; rintro e w' ⟨rfl, rfl⟩)
              | (go_at_call 34; refine (awake_any _ (by first | exact F.out | exact F.out.drew _) (by first | exact M.out | exact M.out.drew _) (by first | exact V.out | exact V.out.drew _)).mono ?_; rintro e w' ⟨rfl, q, rfl⟩))
        go_ret
        exact ⟨rfl, _, rfl⟩
      · have wx := P2.out wy
        clear P1 P2
        go_enter Tryd.func5, Tryd.ntmps5
        go_wp2_with (first
              | (go_at_call 45; first | ((with_reducible refine (one_is a x HX.out _ A.out.1 A.out.2).mono ?_); rintro e w' ⟨rfl, rfl⟩) | ((with_reducible refine (one_is b y HY.out _ B.out.1 B.out.2).mono ?_); rintro e w' ⟨rfl, rfl⟩) | ((with_reducible refine (one_is c z HZ.out _ C.out.1 C.out.2).mono ?_); rintro e w' ⟨rfl, rfl⟩))
              | (go_at_call 46; first | ((with_reducible refine (mark_is l i HI.out _ L.out.1 L.out.2).mono ?_); rintro e w' ⟨rfl, rfl⟩) | ((with_reducible refine (mark_is m j HJ.out _ MM.out.1 MM.out.2).mono ?_); rintro e w' ⟨rfl, rfl⟩) | ((with_reducible refine (mark_is n k HK.out _ N.out.1 N.out.2).mono ?_); rintro e w' ⟨rfl, rfl⟩))
              | (go_at_call 26; refine (Fits_any _ _ _ _ _ (by first | exact F.out | exact F.out.drew _) (by first | exact M.out | exact M.out.drew _)).mono ?_; rintro e w' ⟨rfl, q, rfl⟩)
              | (go_at_call 24; refine (Sub_any _ _ _ (by first | exact F.out | exact F.out.drew _) (by first | exact M.out | exact M.out.drew _)).mono ?_; rintro e w' ⟨rfl, q, rfl⟩)
              | (go_at_call 18; refine (Reads_any _ _).mono ?_; rintro e w' ⟨rfl, rfl⟩)
              | (go_at_call 20; refine (Writes_any _ _).mono ?_; rintro e w' ⟨rfl, rfl⟩)
              | (go_at_call 34; refine (awake_any _ (by first | exact F.out | exact F.out.drew _) (by first | exact M.out | exact M.out.drew _) (by first | exact V.out | exact V.out.drew _)).mono ?_; rintro e w' ⟨rfl, q, rfl⟩))
        go_ret
        exact ⟨rfl, _, rfl⟩
      · have rx := P1.out ry
        clear P1 P2
        go_enter Tryd.func5, Tryd.ntmps5
        go_wp2_with (first
              | (go_at_call 45; first | ((with_reducible refine (one_is a x HX.out _ A.out.1 A.out.2).mono ?_); rintro e w' ⟨rfl, rfl⟩) | ((with_reducible refine (one_is b y HY.out _ B.out.1 B.out.2).mono ?_); rintro e w' ⟨rfl, rfl⟩) | ((with_reducible refine (one_is c z HZ.out _ C.out.1 C.out.2).mono ?_); rintro e w' ⟨rfl, rfl⟩))
              | (go_at_call 46; first | ((with_reducible refine (mark_is l i HI.out _ L.out.1 L.out.2).mono ?_); rintro e w' ⟨rfl, rfl⟩) | ((with_reducible refine (mark_is m j HJ.out _ MM.out.1 MM.out.2).mono ?_); rintro e w' ⟨rfl, rfl⟩) | ((with_reducible refine (mark_is n k HK.out _ N.out.1 N.out.2).mono ?_); rintro e w' ⟨rfl, rfl⟩))
              | (go_at_call 26; refine (Fits_any _ _ _ _ _ (by first | exact F.out | exact F.out.drew _) (by first | exact M.out | exact M.out.drew _)).mono ?_; rintro e w' ⟨rfl, q, rfl⟩)
              | (go_at_call 24; refine (Sub_any _ _ _ (by first | exact F.out | exact F.out.drew _) (by first | exact M.out | exact M.out.drew _)).mono ?_; rintro e w' ⟨rfl, q, rfl⟩)
              | (go_at_call 18; refine (Reads_any _ _).mono ?_; rintro e w' ⟨rfl, rfl⟩)
              | (go_at_call 20; refine (Writes_any _ _).mono ?_; rintro e w' ⟨rfl, rfl⟩)
              | (go_at_call 34; refine (awake_any _ (by first | exact F.out | exact F.out.drew _) (by first | exact M.out | exact M.out.drew _) (by first | exact V.out | exact V.out.drew _)).mono ?_; rintro e w' ⟨rfl, q, rfl⟩))
        go_ret
        exact ⟨rfl, _, rfl⟩
      · have rx := P1.out ry
        have wx := P2.out wy
        clear P1 P2
        go_enter Tryd.func5, Tryd.ntmps5
        go_wp2_with (first
              | (go_at_call 45; first | ((with_reducible refine (one_is a x HX.out _ A.out.1 A.out.2).mono ?_); rintro e w' ⟨rfl, rfl⟩) | ((with_reducible refine (one_is b y HY.out _ B.out.1 B.out.2).mono ?_); rintro e w' ⟨rfl, rfl⟩) | ((with_reducible refine (one_is c z HZ.out _ C.out.1 C.out.2).mono ?_); rintro e w' ⟨rfl, rfl⟩))
              | (go_at_call 46; first | ((with_reducible refine (mark_is l i HI.out _ L.out.1 L.out.2).mono ?_); rintro e w' ⟨rfl, rfl⟩) | ((with_reducible refine (mark_is m j HJ.out _ MM.out.1 MM.out.2).mono ?_); rintro e w' ⟨rfl, rfl⟩) | ((with_reducible refine (mark_is n k HK.out _ N.out.1 N.out.2).mono ?_); rintro e w' ⟨rfl, rfl⟩))
              | (go_at_call 26; refine (Fits_any _ _ _ _ _ (by first | exact F.out | exact F.out.drew _) (by first | exact M.out | exact M.out.drew _)).mono ?_; rintro e w' ⟨rfl, q, rfl⟩)
              | (go_at_call 24; refine (Sub_any _ _ _ (by first | exact F.out | exact F.out.drew _) (by first | exact M.out | exact M.out.drew _)).mono ?_; rintro e w' ⟨rfl, q, rfl⟩)
              | (go_at_call 18; refine (Reads_any _ _).mono ?_; rintro e w' ⟨rfl, rfl⟩)
              | (go_at_call 20; refine (Writes_any _ _).mono ?_; rintro e w' ⟨rfl, rfl⟩)
              | (go_at_call 34; refine (awake_any _ (by first | exact F.out | exact F.out.drew _) (by first | exact M.out | exact M.out.drew _) (by first | exact V.out | exact V.out.drew _)).mono ?_; rintro e w' ⟨rfl, q, rfl⟩))
        go_ret
        exact ⟨rfl, _, rfl⟩

end Cp
end Go.Proofs.YtgdfoonflkddnaaDoor
