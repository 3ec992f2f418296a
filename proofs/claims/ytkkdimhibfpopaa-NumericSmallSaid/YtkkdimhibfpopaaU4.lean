/- Exact values: products and values of polynomials with few small coefficients. -/
import Derived.Test.YtkkdimhibfpopaaU3
namespace Go.Proofs.Ytkkdimhibfpopaa
open Go.ChangeShapes Go.WideShapes Go.ChangeAt Go.RowKit Go.WideMaps Go.Maps
namespace Nu

def cm (p q : Int × Int) : Int × Int := (p.1 * q.1 - p.2 * q.2, p.1 * q.2 + p.2 * q.1)
def ca (p q : Int × Int) : Int × Int := (p.1 + q.1, p.2 + q.2)
/-- A word's two parts are these integers, up to B in absolute value. -/
structure RB (x : Nat × Nat) (p : Int × Int) (B : Int) : Prop where
  rp : RpN x p.1 p.2
  b1 : -B ≤ p.1 ∧ p.1 ≤ B
  b2 : -B ≤ p.2 ∧ p.2 ≤ B

theorem mul_bound {a b A B : Int} (h1 : -A ≤ a ∧ a ≤ A) (h2 : -B ≤ b ∧ b ≤ B) : -(A * B) ≤ a * b ∧ a * b ≤ A * B := by
  have hA : 0 ≤ A := by omega
  have hB : 0 ≤ B := by omega
  have e1 : 0 ≤ (A - a) * (B - b) := Int.mul_nonneg (by omega) (by omega)
  have e2 : 0 ≤ (A + a) * (B + b) := Int.mul_nonneg (by omega) (by omega)
  have e3 : 0 ≤ (A - a) * (B + b) := Int.mul_nonneg (by omega) (by omega)
  have e4 : 0 ≤ (A + a) * (B - b) := Int.mul_nonneg (by omega) (by omega)
  constructor
  · grind
  · grind

theorem RB.add {x y : Nat × Nat} {p q : Int × Int} {A B : Int} (hx : RB x p A) (hy : RB y q B) (h : A + B ≤ 16777216) : RB (addW x y) (ca p q) (A + B) := by
  obtain ⟨⟨r1, r2⟩, ⟨l1, u1⟩, ⟨l2, u2⟩⟩ := hx
  obtain ⟨⟨s1, s2⟩, ⟨m1, v1⟩, ⟨m2, v2⟩⟩ := hy
  exact ⟨⟨add_rp r1 s1 (by omega) (by omega), add_rp r2 s2 (by omega) (by omega)⟩, by unfold ca; dsimp only; omega, by unfold ca; dsimp only; omega⟩
theorem RB.mul {x y : Nat × Nat} {p q : Int × Int} {A B : Int} (hx : RB x p A) (hy : RB y q B) (h : 2 * (A * B) ≤ 16777216) : RB (mulW x y) (cm p q) (2 * (A * B)) := by
  obtain ⟨⟨r1, r2⟩, c1, c2⟩ := hx
  obtain ⟨⟨s1, s2⟩, d1, d2⟩ := hy
  have h11 := mul_bound c1 d1
  have h22 := mul_bound c2 d2
  have h12 := mul_bound c1 d2
  have h21 := mul_bound c2 d1
  have e1 : Rp (fop .mul x.1 y.1) (p.1 * q.1) := mul_rp r1 s1 (by omega) (by omega)
  have e2 : Rp (fop .mul x.2 y.2) (p.2 * q.2) := mul_rp r2 s2 (by omega) (by omega)
  have e3 : Rp (fop .mul x.1 y.2) (p.1 * q.2) := mul_rp r1 s2 (by omega) (by omega)
  have e4 : Rp (fop .mul x.2 y.1) (p.2 * q.1) := mul_rp r2 s1 (by omega) (by omega)
  exact ⟨⟨sub_rp e1 e2 (by omega) (by omega), add_rp e3 e4 (by omega) (by omega)⟩, by unfold cm; dsimp only; omega, by unfold cm; dsimp only; omega⟩
theorem RB.can {x : Nat × Nat} {p : Int × Int} {A : Int} (hx : RB x p A) : RB (can2 x) p A := by
  have e : can2 x = x := by
    obtain ⟨a, b⟩ := x
    unfold can2
    rw [hx.rp.1.canon, hx.rp.2.canon]
  rw [e]; exact hx
theorem RB.zero : RB (0, 0) (0, 0) 0 := by
  have h0 : wd 0 = 0 := by decide
  have := wd_rp 0 (by omega) (by omega)
  rw [h0] at this
  exact ⟨⟨this, this⟩, by omega, by omega⟩
theorem RB.wd {p q B : Int} (h1 : -B ≤ p ∧ p ≤ B) (h2 : -B ≤ q ∧ q ≤ B) (hB : B ≤ 16777216) : RB (Nu.wd p, Nu.wd q) (p, q) B :=
  ⟨⟨wd_rp p (by omega) (by omega), wd_rp q (by omega) (by omega)⟩, h1, h2⟩

theorem rp_eq {x : Nat × Nat} {p q p' q' : Int} (h : RpN x p q) (h1 : p = p') (h2 : q = q') : RpN x p' q' := by rw [← h1, ← h2]; exact h

def prodW (A B : List (Nat × Nat)) : List (Nat × Nat) := if A.length = 0 ∨ B.length = 0 then [] else outP A B A.length

theorem eval_11 {x0 : Nat × Nat} {p0 : Int × Int} (a0 : RB x0 p0 9) {y0 : Nat × Nat} {q0 : Int × Int} (b0 : RB y0 q0 9) {z : Nat × Nat} {c : Int × Int} (_hz : RB z c 3) : ∃ p q, RpN (polyW (prodW [x0] [y0]) z) p q ∧ RpN (mulW (polyW [x0] z) (polyW [y0] z)) p q := by
  have h1 := (RB.can (RB.add RB.zero (RB.mul a0 b0 (by decide)) (by decide)))
  have h2 := RB.mul (RB.can a0) (RB.can b0) (by decide)
  refine ⟨_, _, h1.rp, ?_⟩
  have e := h2.rp
  exact rp_eq e (by simp only [cm, ca]; grind) (by simp only [cm, ca]; grind)

theorem eval_12 {x0 : Nat × Nat} {p0 : Int × Int} (a0 : RB x0 p0 9) {y0 : Nat × Nat} {q0 : Int × Int} (b0 : RB y0 q0 9) {y1 : Nat × Nat} {q1 : Int × Int} (b1 : RB y1 q1 9) {z : Nat × Nat} {c : Int × Int} (hz : RB z c 3) : ∃ p q, RpN (polyW (prodW [x0] [y0, y1]) z) p q ∧ RpN (mulW (polyW [x0] z) (polyW [y0, y1] z)) p q := by
  have h1 := (RB.add (RB.add RB.zero (RB.mul a0 b0 (by decide)) (by decide)) (RB.mul hz (RB.can (RB.add RB.zero (RB.mul a0 b1 (by decide)) (by decide))) (by decide)) (by decide))
  have h2 := RB.mul (RB.can a0) (RB.add b0 (RB.mul hz (RB.can b1) (by decide)) (by decide)) (by decide)
  refine ⟨_, _, h1.rp, ?_⟩
  have e := h2.rp
  exact rp_eq e (by simp only [cm, ca]; grind) (by simp only [cm, ca]; grind)

theorem eval_13 {x0 : Nat × Nat} {p0 : Int × Int} (a0 : RB x0 p0 9) {y0 : Nat × Nat} {q0 : Int × Int} (b0 : RB y0 q0 9) {y1 : Nat × Nat} {q1 : Int × Int} (b1 : RB y1 q1 9) {y2 : Nat × Nat} {q2 : Int × Int} (b2 : RB y2 q2 9) {z : Nat × Nat} {c : Int × Int} (hz : RB z c 3) : ∃ p q, RpN (polyW (prodW [x0] [y0, y1, y2]) z) p q ∧ RpN (mulW (polyW [x0] z) (polyW [y0, y1, y2] z)) p q := by
  have h1 := (RB.add (RB.add RB.zero (RB.mul a0 b0 (by decide)) (by decide)) (RB.mul hz (RB.add (RB.add RB.zero (RB.mul a0 b1 (by decide)) (by decide)) (RB.mul hz (RB.can (RB.add RB.zero (RB.mul a0 b2 (by decide)) (by decide))) (by decide)) (by decide)) (by decide)) (by decide))
  have h2 := RB.mul (RB.can a0) (RB.add b0 (RB.mul hz (RB.add b1 (RB.mul hz (RB.can b2) (by decide)) (by decide)) (by decide)) (by decide)) (by decide)
  refine ⟨_, _, h1.rp, ?_⟩
  have e := h2.rp
  exact rp_eq e (by simp only [cm, ca]; grind) (by simp only [cm, ca]; grind)

theorem eval_21 {x0 : Nat × Nat} {p0 : Int × Int} (a0 : RB x0 p0 9) {x1 : Nat × Nat} {p1 : Int × Int} (a1 : RB x1 p1 9) {y0 : Nat × Nat} {q0 : Int × Int} (b0 : RB y0 q0 9) {z : Nat × Nat} {c : Int × Int} (hz : RB z c 3) : ∃ p q, RpN (polyW (prodW [x0, x1] [y0]) z) p q ∧ RpN (mulW (polyW [x0, x1] z) (polyW [y0] z)) p q := by
  have h1 := (RB.add (RB.add RB.zero (RB.mul a0 b0 (by decide)) (by decide)) (RB.mul hz (RB.can (RB.add RB.zero (RB.mul a1 b0 (by decide)) (by decide))) (by decide)) (by decide))
  have h2 := RB.mul (RB.add a0 (RB.mul hz (RB.can a1) (by decide)) (by decide)) (RB.can b0) (by decide)
  refine ⟨_, _, h1.rp, ?_⟩
  have e := h2.rp
  exact rp_eq e (by simp only [cm, ca]; grind) (by simp only [cm, ca]; grind)

theorem eval_22 {x0 : Nat × Nat} {p0 : Int × Int} (a0 : RB x0 p0 9) {x1 : Nat × Nat} {p1 : Int × Int} (a1 : RB x1 p1 9) {y0 : Nat × Nat} {q0 : Int × Int} (b0 : RB y0 q0 9) {y1 : Nat × Nat} {q1 : Int × Int} (b1 : RB y1 q1 9) {z : Nat × Nat} {c : Int × Int} (hz : RB z c 3) : ∃ p q, RpN (polyW (prodW [x0, x1] [y0, y1]) z) p q ∧ RpN (mulW (polyW [x0, x1] z) (polyW [y0, y1] z)) p q := by
  have h1 := (RB.add (RB.add RB.zero (RB.mul a0 b0 (by decide)) (by decide)) (RB.mul hz (RB.add (RB.add (RB.add RB.zero (RB.mul a0 b1 (by decide)) (by decide)) (RB.mul a1 b0 (by decide)) (by decide)) (RB.mul hz (RB.can (RB.add RB.zero (RB.mul a1 b1 (by decide)) (by decide))) (by decide)) (by decide)) (by decide)) (by decide))
  have h2 := RB.mul (RB.add a0 (RB.mul hz (RB.can a1) (by decide)) (by decide)) (RB.add b0 (RB.mul hz (RB.can b1) (by decide)) (by decide)) (by decide)
  refine ⟨_, _, h1.rp, ?_⟩
  have e := h2.rp
  exact rp_eq e (by simp only [cm, ca]; grind) (by simp only [cm, ca]; grind)

set_option maxHeartbeats 2000000 in
theorem eval_23 {x0 : Nat × Nat} {p0 : Int × Int} (a0 : RB x0 p0 9) {x1 : Nat × Nat} {p1 : Int × Int} (a1 : RB x1 p1 9) {y0 : Nat × Nat} {q0 : Int × Int} (b0 : RB y0 q0 9) {y1 : Nat × Nat} {q1 : Int × Int} (b1 : RB y1 q1 9) {y2 : Nat × Nat} {q2 : Int × Int} (b2 : RB y2 q2 9) {z : Nat × Nat} {c : Int × Int} (hz : RB z c 3) : ∃ p q, RpN (polyW (prodW [x0, x1] [y0, y1, y2]) z) p q ∧ RpN (mulW (polyW [x0, x1] z) (polyW [y0, y1, y2] z)) p q := by
  have h1 := (RB.add (RB.add RB.zero (RB.mul a0 b0 (by decide)) (by decide)) (RB.mul hz (RB.add (RB.add (RB.add RB.zero (RB.mul a0 b1 (by decide)) (by decide)) (RB.mul a1 b0 (by decide)) (by decide)) (RB.mul hz (RB.add (RB.add (RB.add RB.zero (RB.mul a0 b2 (by decide)) (by decide)) (RB.mul a1 b1 (by decide)) (by decide)) (RB.mul hz (RB.can (RB.add RB.zero (RB.mul a1 b2 (by decide)) (by decide))) (by decide)) (by decide)) (by decide)) (by decide)) (by decide)) (by decide))
  have h2 := RB.mul (RB.add a0 (RB.mul hz (RB.can a1) (by decide)) (by decide)) (RB.add b0 (RB.mul hz (RB.add b1 (RB.mul hz (RB.can b2) (by decide)) (by decide)) (by decide)) (by decide)) (by decide)
  refine ⟨_, _, h1.rp, ?_⟩
  have e := h2.rp
  exact rp_eq e (by simp only [cm, ca]; grind) (by simp only [cm, ca]; grind)

theorem eval_31 {x0 : Nat × Nat} {p0 : Int × Int} (a0 : RB x0 p0 9) {x1 : Nat × Nat} {p1 : Int × Int} (a1 : RB x1 p1 9) {x2 : Nat × Nat} {p2 : Int × Int} (a2 : RB x2 p2 9) {y0 : Nat × Nat} {q0 : Int × Int} (b0 : RB y0 q0 9) {z : Nat × Nat} {c : Int × Int} (hz : RB z c 3) : ∃ p q, RpN (polyW (prodW [x0, x1, x2] [y0]) z) p q ∧ RpN (mulW (polyW [x0, x1, x2] z) (polyW [y0] z)) p q := by
  have h1 := (RB.add (RB.add RB.zero (RB.mul a0 b0 (by decide)) (by decide)) (RB.mul hz (RB.add (RB.add RB.zero (RB.mul a1 b0 (by decide)) (by decide)) (RB.mul hz (RB.can (RB.add RB.zero (RB.mul a2 b0 (by decide)) (by decide))) (by decide)) (by decide)) (by decide)) (by decide))
  have h2 := RB.mul (RB.add a0 (RB.mul hz (RB.add a1 (RB.mul hz (RB.can a2) (by decide)) (by decide)) (by decide)) (by decide)) (RB.can b0) (by decide)
  refine ⟨_, _, h1.rp, ?_⟩
  have e := h2.rp
  exact rp_eq e (by simp only [cm, ca]; grind) (by simp only [cm, ca]; grind)

set_option maxHeartbeats 2000000 in
theorem eval_32 {x0 : Nat × Nat} {p0 : Int × Int} (a0 : RB x0 p0 9) {x1 : Nat × Nat} {p1 : Int × Int} (a1 : RB x1 p1 9) {x2 : Nat × Nat} {p2 : Int × Int} (a2 : RB x2 p2 9) {y0 : Nat × Nat} {q0 : Int × Int} (b0 : RB y0 q0 9) {y1 : Nat × Nat} {q1 : Int × Int} (b1 : RB y1 q1 9) {z : Nat × Nat} {c : Int × Int} (hz : RB z c 3) : ∃ p q, RpN (polyW (prodW [x0, x1, x2] [y0, y1]) z) p q ∧ RpN (mulW (polyW [x0, x1, x2] z) (polyW [y0, y1] z)) p q := by
  have h1 := (RB.add (RB.add RB.zero (RB.mul a0 b0 (by decide)) (by decide)) (RB.mul hz (RB.add (RB.add (RB.add RB.zero (RB.mul a0 b1 (by decide)) (by decide)) (RB.mul a1 b0 (by decide)) (by decide)) (RB.mul hz (RB.add (RB.add (RB.add RB.zero (RB.mul a1 b1 (by decide)) (by decide)) (RB.mul a2 b0 (by decide)) (by decide)) (RB.mul hz (RB.can (RB.add RB.zero (RB.mul a2 b1 (by decide)) (by decide))) (by decide)) (by decide)) (by decide)) (by decide)) (by decide)) (by decide))
  have h2 := RB.mul (RB.add a0 (RB.mul hz (RB.add a1 (RB.mul hz (RB.can a2) (by decide)) (by decide)) (by decide)) (by decide)) (RB.add b0 (RB.mul hz (RB.can b1) (by decide)) (by decide)) (by decide)
  refine ⟨_, _, h1.rp, ?_⟩
  have e := h2.rp
  exact rp_eq e (by simp only [cm, ca]; grind) (by simp only [cm, ca]; grind)

set_option maxHeartbeats 4000000 in
theorem eval_33 {x0 : Nat × Nat} {p0 : Int × Int} (a0 : RB x0 p0 9) {x1 : Nat × Nat} {p1 : Int × Int} (a1 : RB x1 p1 9) {x2 : Nat × Nat} {p2 : Int × Int} (a2 : RB x2 p2 9) {y0 : Nat × Nat} {q0 : Int × Int} (b0 : RB y0 q0 9) {y1 : Nat × Nat} {q1 : Int × Int} (b1 : RB y1 q1 9) {y2 : Nat × Nat} {q2 : Int × Int} (b2 : RB y2 q2 9) {z : Nat × Nat} {c : Int × Int} (hz : RB z c 3) : ∃ p q, RpN (polyW (prodW [x0, x1, x2] [y0, y1, y2]) z) p q ∧ RpN (mulW (polyW [x0, x1, x2] z) (polyW [y0, y1, y2] z)) p q := by
  have h1 := (RB.add (RB.add RB.zero (RB.mul a0 b0 (by decide)) (by decide)) (RB.mul hz (RB.add (RB.add (RB.add RB.zero (RB.mul a0 b1 (by decide)) (by decide)) (RB.mul a1 b0 (by decide)) (by decide)) (RB.mul hz (RB.add (RB.add (RB.add (RB.add RB.zero (RB.mul a0 b2 (by decide)) (by decide)) (RB.mul a1 b1 (by decide)) (by decide)) (RB.mul a2 b0 (by decide)) (by decide)) (RB.mul hz (RB.add (RB.add (RB.add RB.zero (RB.mul a1 b2 (by decide)) (by decide)) (RB.mul a2 b1 (by decide)) (by decide)) (RB.mul hz (RB.can (RB.add RB.zero (RB.mul a2 b2 (by decide)) (by decide))) (by decide)) (by decide)) (by decide)) (by decide)) (by decide)) (by decide)) (by decide)) (by decide))
  have h2 := RB.mul (RB.add a0 (RB.mul hz (RB.add a1 (RB.mul hz (RB.can a2) (by decide)) (by decide)) (by decide)) (by decide)) (RB.add b0 (RB.mul hz (RB.add b1 (RB.mul hz (RB.can b2) (by decide)) (by decide)) (by decide)) (by decide)) (by decide)
  refine ⟨_, _, h1.rp, ?_⟩
  have e := h2.rp
  exact rp_eq e (by simp only [cm, ca]; grind) (by simp only [cm, ca]; grind)

end Nu
end Go.Proofs.Ytkkdimhibfpopaa
