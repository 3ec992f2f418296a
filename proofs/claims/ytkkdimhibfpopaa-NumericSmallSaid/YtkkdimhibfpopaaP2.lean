/- What holds an integer: order, sums, differences, products, the other sign, quotients by powers of two. -/
import Derived.Test.YtkkdimhibfpopaaP1
namespace Go.Proofs.Ytkkdimhibfpopaa
namespace Nu

theorem pos_pow (k : Nat) : (0 : Int) < 2 ^ k := Int.pow_pos (by decide)

theorem Rp.num {b : Nat} {n : Int} (h : Rp b n) : isN b = false := by
  obtain ⟨s, m, e, hr, _⟩ := h
  unfold isN; rw [hr]; rfl
theorem Rp.canon {b : Nat} {n : Int} (h : Rp b n) : canon b = b := canon_no h.num

theorem signed_move (s : Bool) (m u v : Nat) : Ieee.signed s m (u + v) = Ieee.signed s m u * 2 ^ v := by
  rw [signed_eq, signed_eq, Int.pow_add, ← Int.mul_assoc, Int.mul_assoc _ _ (2 ^ v), Int.mul_assoc]
  simp only [Int.mul_assoc]

theorem cmp_scale (x y n k P Q : Int) (hP : 0 < P) (hQ : 0 < Q) (hx : x * P = n * Q) (hy : y * P = k * Q) : compare x y = compare n k := by
  rcases Int.lt_trichotomy n k with h | h | h
  · have h1 : x < y := by
      have : x * P < y * P := by rw [hx, hy]; exact Int.mul_lt_mul_of_pos_right h hQ
      exact Int.lt_of_mul_lt_mul_right this (Int.le_of_lt hP)
    show compareOfLessAndEq x y = compareOfLessAndEq n k
    simp only [compareOfLessAndEq, if_pos h, if_pos h1]
  · subst h
    have h1 : x = y := Int.eq_of_mul_eq_mul_right (Int.ne_of_gt hP) (hx.trans hy.symm)
    rw [h1]; simp
  · have h1 : y < x := by
      have : y * P < x * P := by rw [hx, hy]; exact Int.mul_lt_mul_of_pos_right h hQ
      exact Int.lt_of_mul_lt_mul_right this (Int.le_of_lt hP)
    show compareOfLessAndEq x y = compareOfLessAndEq n k
    simp only [compareOfLessAndEq]
    rw [if_neg (by omega), if_neg (by omega), if_neg (by omega), if_neg (by omega)]

theorem Rp.order {b c : Nat} {n k : Int} (hb : Rp b n) (hc : Rp c k) : FloatKind.f32.format.order b c = some (compare n k) := by
  obtain ⟨s, m, i, h1, h2, h3⟩ := hb
  obtain ⟨t, l, j, g1, g2, g3⟩ := hc
  show (Ieee.single.read b).order (Ieee.single.read c) = _
  rw [h1, g1]
  show some (compare (Ieee.signed s m (i - min i j).toNat) (Ieee.signed t l (j - min i j).toNat)) = _
  obtain ⟨z, hz⟩ : ∃ z : Nat, z = (min i j + 149).toNat := ⟨_, rfl⟩
  congr 1
  apply cmp_scale _ _ n k (2 ^ z) (2 ^ 149) (pos_pow _) (pos_pow _)
  · rw [← signed_move, ← h3]; congr 1; omega
  · rw [← signed_move, ← g3]; congr 1; omega

theorem Rp.eq {b c : Nat} {n : Int} (hb : Rp b n) (hc : Rp c n) : (FloatKind.f32.format.order b c == some .eq) = true := by
  rw [hb.order hc]; simp

/-- The word of a datum that is an integer up to 2^24. -/
theorem write_rp (s : Bool) (mag : Nat) (place : Int) (n : Int) (Z : Nat) (hp : -((Z + 23 : Nat) : Int) ≤ place) (hv : Ieee.signed s mag (place + ((Z + 23 : Nat) : Int)).toNat = n * 2 ^ (Z + 23)) (h1 : -16777216 ≤ n) (h2 : n ≤ 16777216) :
    Rp (Ieee.single.write (.number s mag place)) n := by
  rw [signed_eq] at hv
  obtain ⟨p, hpp⟩ : ∃ p, p = (place + ((Z + 23 : Nat) : Int)).toNat := ⟨_, rfl⟩
  rw [← hpp] at hv
  have hZ := pos_pow (Z + 23)
  have hm0 : (0 : Int) ≤ (mag : Int) * 2 ^ p := Int.mul_nonneg (Int.natCast_nonneg _) (Int.le_of_lt (pos_pow p))
  have habs : (mag : Int) * 2 ^ p = (n.natAbs : Int) * 2 ^ (Z + 23) := by
    cases s
    · simp at hv
      have hn : 0 ≤ n := by
        rcases Int.lt_or_le n 0 with h | h
        · exfalso
          have : n * 2 ^ (Z + 23) < 0 := Int.mul_neg_of_neg_of_pos h hZ
          omega
        · exact h
      rw [hv, Int.natAbs_of_nonneg hn]
    · simp at hv
      have hn : n ≤ 0 := by
        rcases Int.lt_or_le 0 n with h | h
        · exfalso
          have : 0 < n * 2 ^ (Z + 23) := Int.mul_pos h hZ
          omega
        · exact h
      rw [Int.ofNat_natAbs_of_nonpos hn, Int.neg_mul, ← hv, Int.neg_neg]
  have hnat : mag * 2 ^ p = n.natAbs * 2 ^ (Z + 23) := by
    have := habs
    exact_mod_cast this
  rw [hpp] at hnat
  obtain ⟨m, e, hr, he, hme⟩ := near s mag place n.natAbs Z hp hnat (by omega)
  refine ⟨s, m, e, hr, he, ?_⟩
  rw [signed_eq]
  have hme' : (m : Int) * 2 ^ (e + 149).toNat = (n.natAbs : Int) * 2 ^ 149 := by exact_mod_cast hme
  rw [hme']
  cases s
  · have hn : 0 ≤ n := by
      simp at hv
      rcases Int.lt_or_le n 0 with h | h
      · exfalso
        have : n * 2 ^ (Z + 23) < 0 := Int.mul_neg_of_neg_of_pos h hZ
        omega
      · exact h
    rw [Int.natAbs_of_nonneg hn]; simp
  · have hn : n ≤ 0 := by
      simp at hv
      rcases Int.lt_or_le 0 n with h | h
      · exfalso
        have : 0 < n * 2 ^ (Z + 23) := Int.mul_pos h hZ
        omega
      · exact h
    rw [Int.ofNat_natAbs_of_nonpos hn, if_pos rfl, Int.neg_mul, Int.neg_mul, Int.one_mul, Int.neg_neg]

theorem signed_int (n : Int) (u : Nat) : Ieee.signed (decide (n < 0)) n.natAbs u = n * 2 ^ u := by
  rw [signed_eq]
  rcases Int.lt_or_le n 0 with h | h
  · rw [decide_eq_true h, Int.ofNat_natAbs_of_nonpos (Int.le_of_lt h), if_pos rfl, Int.neg_mul, Int.neg_mul, Int.one_mul, Int.neg_neg]
  · rw [decide_eq_false (by omega), Int.natAbs_of_nonneg h]; simp

/-- The word of an integer. -/
theorem rp_of (n : Int) (h1 : -16777216 ≤ n) (h2 : n ≤ 16777216) : Rp (floatOfInt .f32 n) n := by
  show Rp (Ieee.single.write (.number (n < 0) n.natAbs 0)) n
  apply write_rp _ _ _ n 126 (by decide) ?_ h1 h2
  exact signed_int n _

theorem signed_natAbs (x : Int) (s : Bool) (u : Nat) : Ieee.signed (if x = 0 then s else decide (x < 0)) x.natAbs u = x * 2 ^ u := by
  by_cases h : x = 0
  · subst h; rw [signed_eq]; simp
  · rw [if_neg h]; exact signed_int x u

theorem add_rp {b c : Nat} {n k : Int} (hb : Rp b n) (hc : Rp c k) (h1 : -16777216 ≤ n + k) (h2 : n + k ≤ 16777216) : Rp (fop .add b c) (n + k) := by
  obtain ⟨s, m, i, e1, e2, e3⟩ := hb
  obtain ⟨t, l, j, g1, g2, g3⟩ := hc
  have hf : fop .add b c = Ieee.single.write (.number (if Ieee.signed s m (i - min i j).toNat + Ieee.signed t l (j - min i j).toNat = 0 then s && t else decide (Ieee.signed s m (i - min i j).toNat + Ieee.signed t l (j - min i j).toNat < 0)) (Ieee.signed s m (i - min i j).toNat + Ieee.signed t l (j - min i j).toNat).natAbs (min i j)) := by
    show ((((Ieee.single.read b).sum (Ieee.single.read c)).map Ieee.single.write).getD qN) = _
    rw [e1, g1]; rfl
  rw [hf]
  obtain ⟨z, hz⟩ : ∃ z : Nat, z = (min i j + 149).toNat := ⟨_, rfl⟩
  apply write_rp _ _ _ (n + k) 126 (by omega) ?_ h1 h2
  rw [signed_natAbs, show (min i j + ((126 + 23 : Nat) : Int)).toNat = z by omega, Int.add_mul, ← signed_move, ← signed_move, Int.add_mul,
    show (i - min i j).toNat + z = (i + 149).toNat by omega, show (j - min i j).toNat + z = (j + 149).toNat by omega, e3, g3]

theorem opposite_rp {c : Nat} {k : Int} (hc : Rp c k) : ∃ t l, ∃ j : Int, (Ieee.single.read c).opposite = .number t l j ∧ -149 ≤ j ∧ Ieee.signed t l (j + 149).toNat = -k * 2 ^ 149 := by
  obtain ⟨t, l, j, g1, g2, g3⟩ := hc
  refine ⟨!t, l, j, by rw [g1]; rfl, g2, ?_⟩
  rw [Int.neg_mul, ← g3, signed_eq, signed_eq]
  cases t <;> simp

theorem sub_rp {b c : Nat} {n k : Int} (hb : Rp b n) (hc : Rp c k) (h1 : -16777216 ≤ n - k) (h2 : n - k ≤ 16777216) : Rp (fop .sub b c) (n - k) := by
  obtain ⟨s, m, i, e1, e2, e3⟩ := hb
  obtain ⟨t, l, j, g1, g2, g3⟩ := opposite_rp hc
  have hf : fop .sub b c = Ieee.single.write (.number (if Ieee.signed s m (i - min i j).toNat + Ieee.signed t l (j - min i j).toNat = 0 then s && t else decide (Ieee.signed s m (i - min i j).toNat + Ieee.signed t l (j - min i j).toNat < 0)) (Ieee.signed s m (i - min i j).toNat + Ieee.signed t l (j - min i j).toNat).natAbs (min i j)) := by
    show ((((Ieee.single.read b).sum (Ieee.single.read c).opposite).map Ieee.single.write).getD qN) = _
    rw [e1, g1]; rfl
  rw [hf]
  obtain ⟨z, hz⟩ : ∃ z : Nat, z = (min i j + 149).toNat := ⟨_, rfl⟩
  apply write_rp _ _ _ (n - k) 126 (by omega) ?_ h1 h2
  rw [signed_natAbs, show (min i j + ((126 + 23 : Nat) : Int)).toNat = z by omega, Int.add_mul, ← signed_move, ← signed_move,
    show (i - min i j).toNat + z = (i + 149).toNat by omega, show (j - min i j).toNat + z = (j + 149).toNat by omega, e3, g3, ← Int.add_mul]
  rfl

theorem mul_rp {b c : Nat} {n k : Int} (hb : Rp b n) (hc : Rp c k) (h1 : -16777216 ≤ n * k) (h2 : n * k ≤ 16777216) : Rp (fop .mul b c) (n * k) := by
  obtain ⟨s, m, i, e1, e2, e3⟩ := hb
  obtain ⟨t, l, j, g1, g2, g3⟩ := hc
  have hf : fop .mul b c = Ieee.single.write (.number (s ^^ t) (m * l) (i + j)) := by
    show ((((Ieee.single.read b).product (Ieee.single.read c)).map Ieee.single.write).getD qN) = _
    rw [e1, g1]; rfl
  rw [hf]
  apply write_rp _ _ _ (n * k) 275 (by omega) ?_ h1 h2
  have hx : Ieee.signed (s ^^ t) (m * l) (i + j + ((275 + 23 : Nat) : Int)).toNat = Ieee.signed s m (i + 149).toNat * Ieee.signed t l (j + 149).toNat := by
    rw [show (i + j + ((275 + 23 : Nat) : Int)).toNat = (i + 149).toNat + (j + 149).toNat by omega, signed_eq, signed_eq, signed_eq, Int.pow_add, Int.natCast_mul]
    have a : ∀ P Q M Q' : Int, P * Q * (M * Q') = (P * M) * (Q * Q') := fun P Q M Q' => by
      rw [Int.mul_assoc, Int.mul_assoc, ← Int.mul_assoc Q, Int.mul_comm Q M, Int.mul_assoc M]
    rw [a (if s = true then -1 else 1) _ (if t = true then -1 else 1)]
    rw [← a (m : Int) (l : Int) (2 ^ (i + 149).toNat) (2 ^ (j + 149).toNat)]
    rw [show ((if s = true then (-1 : Int) else 1) * if t = true then -1 else 1) = if (s ^^ t) = true then -1 else 1 by cases s <;> cases t <;> rfl]
  rw [hx, e3, g3]
  obtain ⟨P, hP⟩ : ∃ P : Int, P = 2 ^ 149 := ⟨_, rfl⟩
  rw [show (2 : Int) ^ (275 + 23) = 2 ^ 149 * 2 ^ 149 from Int.pow_add 2 149 149, ← hP]
  rw [Int.mul_assoc n P, Int.mul_comm P (k * P), Int.mul_assoc k, Int.mul_assoc n k]

end Nu
end Go.Proofs.Ytkkdimhibfpopaa
