/- NumericBack: its equations. -/
import Derived.Test.YtkkdimhibfpopaaW4
import Derived.Test.YtkkdimhibfpopaaW5
namespace Go.Proofs.Ytkkdimhibfpopaa
namespace Nu

theorem rc_small (c : Int × Int) : RC (smallN c) (c.1.tmod 1001, c.2.tmod 1001) 1000 := RC.wd (tmod_small c.1) (tmod_small c.2) (by decide)

def sumL (n : Nat) (A B : List (Nat × Nat)) : List (Nat × Nat) := (List.range n).map fun j => addW (at2 A j) (at2 B j)
def turnL (n : Nat) (A : List (Nat × Nat)) : List (Nat × Nat) := (List.range n).map fun j => at2 A ((j + n - 1) % n)
def shiftL (n : Nat) (W P : List (Nat × Nat)) : List (Nat × Nat) := (List.range n).map fun j => mulW (at2 W j) (at2 P j)
def smpL (K : Nat → Int × Int) (n : Nat) : List Nat := (List.range n).map fun j => floatOfInt .f32 ((K j).1.tmod 1001)
def laterL (n : Nat) (S : List Nat) : List Nat := (List.range n).map fun j => at1 S ((j + n - 1) % n)

/-- The inverse transform of the transform. -/
theorem back_eq (k n : Nat) (hk : k ≤ 2) (hn : n = 2 ^ k) (K : Nat → Int × Int) : ∀ j, j < n → ∃ p q, RpN (at2 (invL k (trL k (numL K n))) j) p q ∧ RpN (at2 (numL K n) j) p q := by
  subst hn
  rcases (show k = 0 ∨ k = 1 ∨ k = 2 by omega) with rfl | rfl | rfl
  · have a0 := rc_small (K 0)
    obtain ⟨p0, hp, P0⟩ := tr0_rc a0
    obtain ⟨i0, hi, I0⟩ := tr0_rc P0.conj
    have hA : numL K (2 ^ 0) = [smallN (K 0)] := rfl
    have hI : invL 0 (trL 0 (numL K (2 ^ 0))) = [invW (floatOfInt .f32 ((2 ^ 0 : Nat) : Int)) i0] := by
      unfold invL; rw [hA, hp]
      show (trL 0 [conjW p0]).map _ = _
      rw [hi]; rfl
    have b0 := a0.rb.b1
    have b1 := a0.rb.b2
    dsimp only at b0 b1
    intro j hj
    rw [hI, hA]
    rcases (show j = 0 by omega) with rfl
    exact ⟨_, _, RC.inv I0 0 (by omega) ((K 0).1.tmod 1001) ((K 0).2.tmod 1001) (by dsimp only; omega) (by dsimp only; omega) (by omega) (by omega), a0.rb.rp⟩
  · have a0 := rc_small (K 0)
    have a1 := rc_small (K 1)
    obtain ⟨p0, p1, hp, P0, P1⟩ := tr1_rc a0 a1 (by omega)
    obtain ⟨i0, i1, hi, I0, I1⟩ := tr1_rc P0.conj P1.conj (by omega)
    have hA : numL K (2 ^ 1) = [smallN (K 0), smallN (K 1)] := rfl
    have hI : invL 1 (trL 1 (numL K (2 ^ 1))) = [invW (floatOfInt .f32 ((2 ^ 1 : Nat) : Int)) i0, invW (floatOfInt .f32 ((2 ^ 1 : Nat) : Int)) i1] := by
      unfold invL; rw [hA, hp]
      show (trL 1 [conjW p0, conjW p1]).map _ = _
      rw [hi]; rfl
    have b0 := a0.rb.b1
    have b1 := a0.rb.b2
    have b2 := a1.rb.b1
    have b3 := a1.rb.b2
    dsimp only at b0 b1 b2 b3
    intro j hj
    rw [hI, hA]
    rcases (show j = 0 ∨ j = 1 by omega) with rfl | rfl
    · exact ⟨_, _, RC.inv I0 1 (by omega) ((K 0).1.tmod 1001) ((K 0).2.tmod 1001) (by dsimp only; omega) (by dsimp only; omega) (by omega) (by omega), a0.rb.rp⟩
    · exact ⟨_, _, RC.inv I1 1 (by omega) ((K 1).1.tmod 1001) ((K 1).2.tmod 1001) (by dsimp only; omega) (by dsimp only; omega) (by omega) (by omega), a1.rb.rp⟩
  · have a0 := rc_small (K 0)
    have a1 := rc_small (K 1)
    have a2 := rc_small (K 2)
    have a3 := rc_small (K 3)
    obtain ⟨p0, p1, p2, p3, hp, P0, P1, P2, P3⟩ := tr2_rc a0 a1 a2 a3 (by omega)
    obtain ⟨i0, i1, i2, i3, hi, I0, I1, I2, I3⟩ := tr2_rc P0.conj P1.conj P2.conj P3.conj (by omega)
    have hA : numL K (2 ^ 2) = [smallN (K 0), smallN (K 1), smallN (K 2), smallN (K 3)] := rfl
    have hI : invL 2 (trL 2 (numL K (2 ^ 2))) = [invW (floatOfInt .f32 ((2 ^ 2 : Nat) : Int)) i0, invW (floatOfInt .f32 ((2 ^ 2 : Nat) : Int)) i1, invW (floatOfInt .f32 ((2 ^ 2 : Nat) : Int)) i2, invW (floatOfInt .f32 ((2 ^ 2 : Nat) : Int)) i3] := by
      unfold invL; rw [hA, hp]
      show (trL 2 [conjW p0, conjW p1, conjW p2, conjW p3]).map _ = _
      rw [hi]; rfl
    have b0 := a0.rb.b1
    have b1 := a0.rb.b2
    have b2 := a1.rb.b1
    have b3 := a1.rb.b2
    have b4 := a2.rb.b1
    have b5 := a2.rb.b2
    have b6 := a3.rb.b1
    have b7 := a3.rb.b2
    dsimp only at b0 b1 b2 b3 b4 b5 b6 b7
    intro j hj
    rw [hI, hA]
    rcases (show j = 0 ∨ j = 1 ∨ j = 2 ∨ j = 3 by omega) with rfl | rfl | rfl | rfl
    · exact ⟨_, _, RC.inv I0 2 (by omega) ((K 0).1.tmod 1001) ((K 0).2.tmod 1001) (by dsimp only; omega) (by dsimp only; omega) (by omega) (by omega), a0.rb.rp⟩
    · exact ⟨_, _, RC.inv I1 2 (by omega) ((K 1).1.tmod 1001) ((K 1).2.tmod 1001) (by dsimp only; omega) (by dsimp only; omega) (by omega) (by omega), a1.rb.rp⟩
    · exact ⟨_, _, RC.inv I2 2 (by omega) ((K 2).1.tmod 1001) ((K 2).2.tmod 1001) (by dsimp only; omega) (by dsimp only; omega) (by omega) (by omega), a2.rb.rp⟩
    · exact ⟨_, _, RC.inv I3 2 (by omega) ((K 3).1.tmod 1001) ((K 3).2.tmod 1001) (by dsimp only; omega) (by dsimp only; omega) (by omega) (by omega), a3.rb.rp⟩

theorem rp_both {x y : Nat × Nat} {p q : Int × Int} {A B : Int} (hx : RC x p A) (hy : RC y q B) (h1 : p.1 = q.1) (h2 : p.2 = q.2) : ∃ u v, RpN x u v ∧ RpN y u v :=
  ⟨p.1, p.2, hx.rb.rp, by rw [h1, h2]; exact hy.rb.rp⟩

/-- The transform of a sum, of a list that is turned; the powers of real ones that are turned. -/
theorem sum_eq (k n : Nat) (hk : k ≤ 2) (hn : n = 2 ^ k) (K M : Nat → Int × Int) : ∀ j, j < n → ∃ p q, RpN (at2 (trL k (sumL n (numL K n) (numL M n))) j) p q ∧ RpN (at2 (sumL n (trL k (numL K n)) (trL k (numL M n))) j) p q := by
  subst hn
  rcases (show k = 0 ∨ k = 1 ∨ k = 2 by omega) with rfl | rfl | rfl
  · have a0 := rc_small (K 0)
    have c0 := rc_small (M 0)
    obtain ⟨p0, hp, P0⟩ := tr0_rc a0
    obtain ⟨q0, hq, Q0⟩ := tr0_rc c0
    obtain ⟨r0, hr, R0⟩ := tr0_rc (RC.add a0 c0 (by omega))
    intro j hj
    rcases (show j = 0 by omega) with rfl
    show ∃ p q, RpN (at2 (trL 0 [addW (smallN (K 0)) (smallN (M 0))]) 0) p q ∧ RpN (addW (at2 (trL 0 [smallN (K 0)]) 0) (at2 (trL 0 [smallN (M 0)]) 0)) p q
    rw [hp, hq, hr]
    exact rp_both R0 (RC.add P0 Q0 (by omega)) rfl rfl
  · have a0 := rc_small (K 0)
    have a1 := rc_small (K 1)
    have c0 := rc_small (M 0)
    have c1 := rc_small (M 1)
    obtain ⟨p0, p1, hp, P0, P1⟩ := tr1_rc a0 a1 (by omega)
    obtain ⟨q0, q1, hq, Q0, Q1⟩ := tr1_rc c0 c1 (by omega)
    obtain ⟨r0, r1, hr, R0, R1⟩ := tr1_rc (RC.add a0 c0 (by omega)) (RC.add a1 c1 (by omega)) (by omega)
    have e : ∀ j, j < 2 → at2 (sumL (2 ^ 1) [p0, p1] [q0, q1]) j = addW (at2 [p0, p1] j) (at2 [q0, q1] j) := fun j hj => by
      rcases (show j = 0 ∨ j = 1 by omega) with rfl | rfl <;> rfl
    intro j hj
    show ∃ p q, RpN (at2 (trL 1 [addW (smallN (K 0)) (smallN (M 0)), addW (smallN (K 1)) (smallN (M 1))]) j) p q ∧ RpN (at2 (sumL (2 ^ 1) (trL 1 [smallN (K 0), smallN (K 1)]) (trL 1 [smallN (M 0), smallN (M 1)])) j) p q
    rw [hp, hq, hr, e j hj]
    rcases (show j = 0 ∨ j = 1 by omega) with rfl | rfl
    · exact rp_both R0 (RC.add P0 Q0 (by omega)) (by simp only [ca]; omega) (by simp only [ca]; omega)
    · exact rp_both R1 (RC.add P1 Q1 (by omega)) (by simp only [ca]; omega) (by simp only [ca]; omega)
  · have a0 := rc_small (K 0)
    have a1 := rc_small (K 1)
    have a2 := rc_small (K 2)
    have a3 := rc_small (K 3)
    have c0 := rc_small (M 0)
    have c1 := rc_small (M 1)
    have c2 := rc_small (M 2)
    have c3 := rc_small (M 3)
    obtain ⟨p0, p1, p2, p3, hp, P0, P1, P2, P3⟩ := tr2_rc a0 a1 a2 a3 (by omega)
    obtain ⟨q0, q1, q2, q3, hq, Q0, Q1, Q2, Q3⟩ := tr2_rc c0 c1 c2 c3 (by omega)
    obtain ⟨r0, r1, r2, r3, hr, R0, R1, R2, R3⟩ := tr2_rc (RC.add a0 c0 (by omega)) (RC.add a1 c1 (by omega)) (RC.add a2 c2 (by omega)) (RC.add a3 c3 (by omega)) (by omega)
    have e : ∀ j, j < 4 → at2 (sumL (2 ^ 2) [p0, p1, p2, p3] [q0, q1, q2, q3]) j = addW (at2 [p0, p1, p2, p3] j) (at2 [q0, q1, q2, q3] j) := fun j hj => by
      rcases (show j = 0 ∨ j = 1 ∨ j = 2 ∨ j = 3 by omega) with rfl | rfl | rfl | rfl <;> rfl
    intro j hj
    show ∃ p q, RpN (at2 (trL 2 [addW (smallN (K 0)) (smallN (M 0)), addW (smallN (K 1)) (smallN (M 1)), addW (smallN (K 2)) (smallN (M 2)), addW (smallN (K 3)) (smallN (M 3))]) j) p q ∧ RpN (at2 (sumL (2 ^ 2) (trL 2 [smallN (K 0), smallN (K 1), smallN (K 2), smallN (K 3)]) (trL 2 [smallN (M 0), smallN (M 1), smallN (M 2), smallN (M 3)])) j) p q
    rw [hp, hq, hr, e j hj]
    rcases (show j = 0 ∨ j = 1 ∨ j = 2 ∨ j = 3 by omega) with rfl | rfl | rfl | rfl
    · exact rp_both R0 (RC.add P0 Q0 (by omega)) (by simp only [ca]; omega) (by simp only [ca]; omega)
    · exact rp_both R1 (RC.add P1 Q1 (by omega)) (by simp only [ca]; omega) (by simp only [ca]; omega)
    · exact rp_both R2 (RC.add P2 Q2 (by omega)) (by simp only [ca]; omega) (by simp only [ca]; omega)
    · exact rp_both R3 (RC.add P3 Q3 (by omega)) (by simp only [ca]; omega) (by simp only [ca]; omega)

theorem shift_eq (k n : Nat) (hk : k ≤ 2) (hn : n = 2 ^ k) (K : Nat → Int × Int) : ∀ j, j < n → ∃ p q, RpN (at2 (trL k (turnL n (numL K n))) j) p q ∧ RpN (at2 (shiftL n (facL (firstW k) n) (trL k (numL K n))) j) p q := by
  subst hn
  rcases (show k = 0 ∨ k = 1 ∨ k = 2 by omega) with rfl | rfl | rfl
  · have a0 := rc_small (K 0)
    obtain ⟨p0, hp, P0⟩ := tr0_rc a0
    intro j hj
    rcases (show j = 0 by omega) with rfl
    show ∃ p q, RpN (at2 (trL 0 [smallN (K 0)]) 0) p q ∧ RpN (mulW (1065353216, 0) (at2 (trL 0 [smallN (K 0)]) 0)) p q
    rw [hp]
    exact rp_both P0 (RC.mul rc_one P0 (by omega)) (by simp only [cm]; omega) (by simp only [cm]; omega)
  · have a0 := rc_small (K 0)
    have a1 := rc_small (K 1)
    obtain ⟨p0, p1, hp, P0, P1⟩ := tr1_rc a0 a1 (by omega)
    obtain ⟨r0, r1, hr, R0, R1⟩ := tr1_rc a1 a0 (by omega)
    have e : ∀ j, j < 2 → at2 (shiftL (2 ^ 1) (facL (firstW 1) (2 ^ 1)) [p0, p1]) j = mulW (fac (firstW 1) j) (at2 [p0, p1] j) := fun j hj => by
      rcases (show j = 0 ∨ j = 1 by omega) with rfl | rfl <;> rfl
    intro j hj
    show ∃ p q, RpN (at2 (trL 1 [smallN (K 1), smallN (K 0)]) j) p q ∧ RpN (at2 (shiftL (2 ^ 1) (facL (firstW 1) (2 ^ 1)) (trL 1 [smallN (K 0), smallN (K 1)])) j) p q
    rw [hp, hr, e j hj]
    rcases (show j = 0 ∨ j = 1 by omega) with rfl | rfl
    · exact rp_both R0 (RC.mul rc_f10 P0 (by omega)) (by simp only [cm]; omega) (by simp only [cm]; omega)
    · exact rp_both R1 (RC.mul rc_f11 P1 (by omega)) (by simp only [cm]; omega) (by simp only [cm]; omega)
  · have a0 := rc_small (K 0)
    have a1 := rc_small (K 1)
    have a2 := rc_small (K 2)
    have a3 := rc_small (K 3)
    obtain ⟨p0, p1, p2, p3, hp, P0, P1, P2, P3⟩ := tr2_rc a0 a1 a2 a3 (by omega)
    obtain ⟨r0, r1, r2, r3, hr, R0, R1, R2, R3⟩ := tr2_rc a3 a0 a1 a2 (by omega)
    have e : ∀ j, j < 4 → at2 (shiftL (2 ^ 2) (facL (firstW 2) (2 ^ 2)) [p0, p1, p2, p3]) j = mulW (fac (firstW 2) j) (at2 [p0, p1, p2, p3] j) := fun j hj => by
      rcases (show j = 0 ∨ j = 1 ∨ j = 2 ∨ j = 3 by omega) with rfl | rfl | rfl | rfl <;> rfl
    intro j hj
    show ∃ p q, RpN (at2 (trL 2 [smallN (K 3), smallN (K 0), smallN (K 1), smallN (K 2)]) j) p q ∧ RpN (at2 (shiftL (2 ^ 2) (facL (firstW 2) (2 ^ 2)) (trL 2 [smallN (K 0), smallN (K 1), smallN (K 2), smallN (K 3)])) j) p q
    rw [hp, hr, e j hj]
    rcases (show j = 0 ∨ j = 1 ∨ j = 2 ∨ j = 3 by omega) with rfl | rfl | rfl | rfl
    · exact rp_both R0 (RC.mul rc_f20 P0 (by omega)) (by simp only [cm]; omega) (by simp only [cm]; omega)
    · exact rp_both R1 (RC.mul rc_f21 P1 (by omega)) (by simp only [cm]; omega) (by simp only [cm]; omega)
    · exact rp_both R2 (RC.mul rc_f22 P2 (by omega)) (by simp only [cm]; omega) (by simp only [cm]; omega)
    · exact rp_both R3 (RC.mul rc_f23 P3 (by omega)) (by simp only [cm]; omega) (by simp only [cm]; omega)

theorem rc_real (c : Int) (h : -1000 ≤ c ∧ c ≤ 1000) : RC (floatOfInt .f32 c, 0) (c, 0) 1000 := by
  have h0 : wd 0 = 0 := by decide
  have z := wd_rp 0 (by omega) (by omega)
  rw [h0] at z
  exact ⟨⟨⟨rp_of c (by omega) (by omega), z⟩, h, by dsimp only; omega⟩, foi_lt c, by dsimp only; omega⟩

/-- Powers of numbers with the same integers, but for signs; with the two parts exchanged. -/
theorem sqW_same {x y : Nat × Nat} {p q : Int × Int} {A B : Int} (hx : RC x p A) (hy : RC y q B) (h1 : p.1.natAbs = q.1.natAbs) (h2 : p.2.natAbs = q.2.natAbs) (b1 : p.1.natAbs ≤ 4096) (b2 : p.2.natAbs ≤ 4096) : sqW x = sqW y := by
  unfold sqW
  rw [sq_unique hx.rb.rp.1 hy.rb.rp.1 b1 h1, sq_unique hx.rb.rp.2 hy.rb.rp.2 b2 h2]
theorem sqW_swap {x y : Nat × Nat} {p q : Int × Int} {A B : Int} (hx : RC x p A) (hy : RC y q B) (h1 : p.1.natAbs = q.2.natAbs) (h2 : p.2.natAbs = q.1.natAbs) (b1 : p.1.natAbs ≤ 4096) (b2 : p.2.natAbs ≤ 4096) : sqW x = sqW y := by
  unfold sqW
  rw [sq_unique hx.rb.rp.1 hy.rb.rp.2 b1 h1, sq_unique hx.rb.rp.2 hy.rb.rp.1 b2 h2]
  obtain ⟨m, i, a1, _⟩ := sq_pos hy.rb.rp.1 (by omega)
  obtain ⟨l, j, a2, _⟩ := sq_pos hy.rb.rp.2 (by omega)
  exact add_comm_num a2 a1

theorem spec_eq (k n : Nat) (hk : k ≤ 2) (hn : n = 2 ^ k) (K : Nat → Int × Int) : specT (trL k (rl (smpL K n))) (n / 2 + 1) = specT (trL k (rl (laterL n (smpL K n)))) (n / 2 + 1) := by
  subst hn
  rcases (show k = 0 ∨ k = 1 ∨ k = 2 by omega) with rfl | rfl | rfl
  · rfl
  · have b0 := tmod_small (K 0).1
    have b1 := tmod_small (K 1).1
    have a0 := rc_real _ b0
    have a1 := rc_real _ b1
    obtain ⟨p0, p1, hp, P0, P1⟩ := tr1_rc a0 a1 (by omega)
    obtain ⟨r0, r1, hr, R0, R1⟩ := tr1_rc a1 a0 (by omega)
    show specT (trL 1 [(floatOfInt .f32 ((K 0).1.tmod 1001), 0), (floatOfInt .f32 ((K 1).1.tmod 1001), 0)]) 2 = specT (trL 1 [(floatOfInt .f32 ((K 1).1.tmod 1001), 0), (floatOfInt .f32 ((K 0).1.tmod 1001), 0)]) 2
    rw [hp, hr]
    show [sqW p0, sqW p1] = [sqW r0, sqW r1]
    rw [sqW_same P0 R0 (by dsimp only <;> omega) (by dsimp only <;> omega) (by dsimp only <;> omega) (by dsimp only <;> omega), sqW_same P1 R1 (by dsimp only <;> omega) (by dsimp only <;> omega) (by dsimp only <;> omega) (by dsimp only <;> omega)]
  · have b0 := tmod_small (K 0).1
    have b1 := tmod_small (K 1).1
    have b2 := tmod_small (K 2).1
    have b3 := tmod_small (K 3).1
    have a0 := rc_real _ b0
    have a1 := rc_real _ b1
    have a2 := rc_real _ b2
    have a3 := rc_real _ b3
    obtain ⟨p0, p1, p2, p3, hp, P0, P1, P2, P3⟩ := tr2_rc a0 a1 a2 a3 (by omega)
    obtain ⟨r0, r1, r2, r3, hr, R0, R1, R2, R3⟩ := tr2_rc a3 a0 a1 a2 (by omega)
    show specT (trL 2 [(floatOfInt .f32 ((K 0).1.tmod 1001), 0), (floatOfInt .f32 ((K 1).1.tmod 1001), 0), (floatOfInt .f32 ((K 2).1.tmod 1001), 0), (floatOfInt .f32 ((K 3).1.tmod 1001), 0)]) 3 = specT (trL 2 [(floatOfInt .f32 ((K 3).1.tmod 1001), 0), (floatOfInt .f32 ((K 0).1.tmod 1001), 0), (floatOfInt .f32 ((K 1).1.tmod 1001), 0), (floatOfInt .f32 ((K 2).1.tmod 1001), 0)]) 3
    rw [hp, hr]
    show [sqW p0, sqW p1, sqW p2] = [sqW r0, sqW r1, sqW r2]
    rw [sqW_same P0 R0 (by dsimp only <;> omega) (by dsimp only <;> omega) (by dsimp only <;> omega) (by dsimp only <;> omega), sqW_swap P1 R1 (by dsimp only <;> omega) (by dsimp only <;> omega) (by dsimp only <;> omega) (by dsimp only <;> omega), sqW_same P2 R2 (by dsimp only <;> omega) (by dsimp only <;> omega) (by dsimp only <;> omega) (by dsimp only <;> omega)]

end Nu
end Go.Proofs.Ytkkdimhibfpopaa
