/- NumericSmall: its equations. -/
import Derived.Test.YtkkdimhibfpopaaW6
namespace Go.Proofs.Ytkkdimhibfpopaa
namespace Nu

theorem rp_of_rb {x : Nat × Nat} {p : Int × Int} {B : Int} (h : RC x p B) (u v : Int) (h1 : p.1 = u) (h2 : p.2 = v) : RpN x u v := by rw [← h1, ← h2]; exact h.rb.rp
theorem rp_wd (u v : Int) (h1 : -16777216 ≤ u ∧ u ≤ 16777216) (h2 : -16777216 ≤ v ∧ v ≤ 16777216) : RpN (wd u, wd v) u v := ⟨wd_rp u h1.1 h1.2, wd_rp v h2.1 h2.2⟩

/-- What is asked of three small numbers, as words. -/
structure SmallEq (A B C : Nat × Nat) (P Q R S : Int) : Prop where
  add : RpN (addW A B) (P + R) (Q + S)
  sub : RpN (subW A B) (P - R) (Q - S)
  mul : RpN (mulW A B) (P * R - Q * S) (P * S + Q * R)
  assoc : ∃ u v, RpN (addW (addW A B) C) u v ∧ RpN (addW A (addW B C)) u v
  dist : ∃ u v, RpN (mulW A (addW B C)) u v ∧ RpN (addW (mulW A B) (mulW A C)) u v
  norm : RpN (mulW A (conjW A)) (P * P + Q * Q) 0

theorem small_eq {A B C : Nat × Nat} {P Q R S U V : Int} (hA : RC A (P, Q) 1000) (hB : RC B (R, S) 1000) (hC : RC C (U, V) 1000) : SmallEq A B C P Q R S := by
  refine ⟨rp_of_rb (RC.add hA hB (by omega)) _ _ rfl rfl, rp_of_rb (RC.sub hA hB (by omega)) _ _ rfl rfl, rp_of_rb (RC.mul hA hB (by omega)) _ _ rfl rfl, ⟨P + R + U, Q + S + V, ?_, ?_⟩, ⟨P * (R + U) - Q * (S + V), P * (S + V) + Q * (R + U), ?_, ?_⟩, ?_⟩
  · exact rp_of_rb (RC.add (RC.add hA hB (by omega)) hC (by omega)) _ _ rfl rfl
  · exact rp_of_rb (RC.add hA (RC.add hB hC (by omega)) (by omega)) _ _ (by simp only [ca]; omega) (by simp only [ca]; omega)
  · exact rp_of_rb (RC.mul hA (RC.add hB hC (by omega)) (by omega)) _ _ rfl rfl
  · exact rp_of_rb (RC.add (RC.mul hA hB (by omega)) (RC.mul hA hC (by omega)) (by omega)) _ _ (by simp only [ca, cm]; grind) (by simp only [ca, cm]; grind)
  · exact rp_of_rb (RC.mul hA hA.conj (by omega)) _ _ (by simp only [cm]; grind) (by simp only [cm]; grind)

/-- Divided by a power of two that it was multiplied by. -/
theorem div_eq {A : Nat × Nat} {P Q : Int} (hA : RC A (P, Q) 1000) (r : Nat) (hr : r ≤ 7) : RpN (divW (mulW A (wd ((2 ^ r : Nat) : Int), wd 0)) (wd ((2 ^ r : Nat) : Int), wd 0)) P Q := by
  obtain ⟨m, hm⟩ : ∃ m : Int, m = ((2 ^ r : Nat) : Int) := ⟨_, rfl⟩
  rw [← hm]
  have hm2 : m = 2 ^ r := by rw [hm]; simp
  have hb : 1 ≤ m ∧ m ≤ 128 := by
    rcases (show r = 0 ∨ r = 1 ∨ r = 2 ∨ r = 3 ∨ r = 4 ∨ r = 5 ∨ r = 6 ∨ r = 7 by omega) with rfl | rfl | rfl | rfl | rfl | rfl | rfl | rfl <;> (rw [hm]; decide)
  have hmm : m * m = 2 ^ (2 * r) := by rw [hm2, ← Int.pow_add]; congr 1; omega
  have hs : 1 ≤ m * m ∧ m * m ≤ 16384 := by
    have h1 := mul_bound (a := m) (b := m) (A := 128) (B := 128) (by omega) (by omega)
    constructor
    · have : 1 * 1 ≤ m * m := Int.mul_le_mul hb.1 hb.1 (by omega) (by omega)
      omega
    · omega
  have hT : RC (wd m, wd 0) (m, 0) 128 := RC.wd (by omega) (by omega) (by omega)
  obtain ⟨⟨⟨x1, x2⟩, b1, b2⟩, _, _⟩ := hA
  dsimp only at b1 b2 x1 x2
  have e : ∀ z : Int, -1000 ≤ z ∧ z ≤ 1000 → (-128000 ≤ z * m ∧ z * m ≤ 128000) := fun z hz => by
    have := mul_bound (a := z) (b := m) (A := 1000) (B := 128) (by omega) (by omega)
    omega
  have e2 : ∀ z : Int, -1000 ≤ z ∧ z ≤ 1000 → (-16384000 ≤ z * m * m ∧ z * m * m ≤ 16384000) := fun z hz => by
    have := mul_bound (a := z * m) (b := m) (A := 128000) (B := 128) (e z hz) (by omega)
    omega
  have hA' : RC A (P, Q) 1000 := ⟨⟨⟨x1, x2⟩, b1, b2⟩, by assumption, by assumption⟩
  have hX := RC.mul hA' hT (by omega)
  have y1 : Rp (mulW A (wd m, wd 0)).1 (P * m) := by
    have := hX.rb.rp.1
    have h : (cm (P, Q) (m, 0)).1 = P * m := by simp [cm]
    rw [h] at this; exact this
  have y2 : Rp (mulW A (wd m, wd 0)).2 (Q * m) := by
    have := hX.rb.rp.2
    have h : (cm (P, Q) (m, 0)).2 = Q * m := by simp [cm]
    rw [h] at this; exact this
  have tm : Rp (wd m) m := wd_rp m (by omega) (by omega)
  have t0 : Rp (wd 0) 0 := wd_rp 0 (by omega) (by omega)
  obtain ⟨X, hXe⟩ : ∃ X, X = mulW A (wd m, wd 0) := ⟨_, rfl⟩
  rw [← hXe] at y1 y2 ⊢
  have p1 := e P b1
  have p2 := e Q b2
  have q1 := e2 P b1
  have q2 := e2 Q b2
  have n1 : Rp (fop .mul (wd m) (wd m)) (m * m) := mul_rp tm tm (by omega) (by omega)
  have n2 : Rp (fop .mul (wd 0) (wd 0)) (0 * 0) := mul_rp t0 t0 (by omega) (by omega)
  have n3 : Rp (fop .add (fop .mul (wd m) (wd m)) (fop .mul (wd 0) (wd 0))) (m * m) := by
    have := add_rp n1 n2 (by omega) (by omega)
    simpa using this
  rw [hmm] at n3
  have a1 : Rp (fop .mul X.1 (wd m)) (P * m * m) := mul_rp y1 tm (by omega) (by omega)
  have a2 : Rp (fop .mul X.2 (wd 0)) (Q * m * 0) := mul_rp y2 t0 (by omega) (by omega)
  have a3 : Rp (fop .add (fop .mul X.1 (wd m)) (fop .mul X.2 (wd 0))) (P * m * m) := by
    have := add_rp a1 a2 (by omega) (by omega)
    simpa using this
  have c1 : Rp (fop .mul X.2 (wd m)) (Q * m * m) := mul_rp y2 tm (by omega) (by omega)
  have c2 : Rp (fop .mul X.1 (wd 0)) (P * m * 0) := mul_rp y1 t0 (by omega) (by omega)
  have c3 : Rp (fop .sub (fop .mul X.2 (wd m)) (fop .mul X.1 (wd 0))) (Q * m * m) := by
    have := sub_rp c1 c2 (by omega) (by omega)
    simpa using this
  have f1 : P * m * m = P * 2 ^ (2 * r) := by rw [Int.mul_assoc, hmm]
  have f2 : Q * m * m = Q * 2 ^ (2 * r) := by rw [Int.mul_assoc, hmm]
  rw [f1] at a3
  rw [f2] at c3
  exact ⟨quo_rp (2 * r) (by omega) a3 n3 (by omega) (by omega), quo_rp (2 * r) (by omega) c3 n3 (by omega) (by omega)⟩

end Nu
end Go.Proofs.Ytkkdimhibfpopaa
