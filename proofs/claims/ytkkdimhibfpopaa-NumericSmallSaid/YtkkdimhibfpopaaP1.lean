/- Integers up to 2^24 are held exactly by F32, and sums, differences and products of them are exact. -/
import Derived.Test.YtkkdimhibfpopaaA1
namespace Go.Proofs.Ytkkdimhibfpopaa
namespace Nu

theorem signed_eq (s : Bool) (m u : Nat) : Ieee.signed s m u = (if s = true then -1 else 1) * ((m : Int) * 2 ^ u) := by
  unfold Ieee.signed
  rw [Nat.shiftLeft_eq]
  cases s <;> simp [Int.natCast_mul, Int.natCast_pow]

/-- A word that holds an integer. -/
def Rp (b : Nat) (n : Int) : Prop := ∃ s m, ∃ e : Int, Ieee.single.read b = .number s m e ∧ -149 ≤ e ∧ Ieee.signed s m (e + 149).toNat = n * 2 ^ 149

theorem lp : Ieee.single.leastPlace = -149 := by decide
theorem bn : Ieee.single.binade = 8388608 := by decide
theorem ir : Ieee.single.infRung = 2139095040 := by decide
theorem sw : Ieee.single.signWeight = 2147483648 := by decide

/-- A word written out of sign and rung, read. -/
theorem read_word (neg : Bool) (r K : Nat) (hK : K < 8388608) (hr : r < 254) : Ieee.single.read (Ieee.single.word neg ((r + 1) * 8388608 + K)) = .number neg (8388608 + K) (-149 + r) := by
  have hw : Ieee.single.word neg ((r + 1) * 8388608 + K) % 2147483648 = (r + 1) * 8388608 + K := by
    unfold Ieee.Format.word; rw [sw]; split <;> omega
  have hd : (Ieee.single.word neg ((r + 1) * 8388608 + K) / 2147483648 % 2 == 1) = neg := by
    unfold Ieee.Format.word; rw [sw]; cases neg <;> simp <;> omega
  unfold Ieee.Format.read
  rw [sw, bn, ir, hw, hd]
  dsimp only
  rw [if_neg (by omega), if_pos (by omega), lp]
  have h1 : ((r + 1) * 8388608 + K) % 8388608 = K := by omega
  have h2 : ((r + 1) * 8388608 + K) / 8388608 = r + 1 := by omega
  rw [h1, h2]
  simp

theorem read_zero (neg : Bool) : Ieee.single.read (Ieee.single.word neg 0) = .number neg 0 (-149) := by cases neg <;> decide

theorem cut_exact (neg : Bool) (n drop q : Nat) (hn : n = q * 2 ^ drop) (hq : q ≠ 0) : Ieee.Toward.even.cut neg n drop = q := by
  have hl : drop ≤ n.log2 := by
    have h0 : n ≠ 0 := by rw [hn]; exact Nat.mul_ne_zero hq (by have := Nat.two_pow_pos drop; omega)
    rw [Nat.le_log2 h0, hn]
    exact Nat.le_mul_of_pos_left _ (Nat.pos_of_ne_zero hq)
  unfold Ieee.Toward.cut
  rw [Nat.min_eq_left (by omega), Nat.shiftLeft_eq, Nat.one_mul]
  have hp : 0 < 2 ^ drop := Nat.two_pow_pos drop
  have h1 : n / 2 ^ drop = q := by rw [hn]; exact Nat.mul_div_cancel _ hp
  have h2 : n % 2 ^ drop = 0 := by rw [hn]; exact Nat.mul_mod_left _ _
  dsimp only
  rw [h1, h2]
  have h3 : decide (2 ^ drop < 2 * 0) = false := by simp
  have h4 : (2 ^ drop == 2 * 0) = false := by simp
  rw [h3, h4]
  rfl

/-- The nearest word to a number that is an integer up to 2^24 holds it. -/
theorem near (neg : Bool) (mag : Nat) (place : Int) (N : Nat) (Z : Nat) (hp : -((Z + 23 : Nat) : Int) ≤ place) (hv : mag * 2 ^ (place + ((Z + 23 : Nat) : Int)).toNat = N * 2 ^ (Z + 23)) (hN : N ≤ 16777216) :
    ∃ m, ∃ e : Int, Ieee.single.read (Ieee.single.nearest neg mag place) = .number neg m e ∧ -149 ≤ e ∧ m * 2 ^ (e + 149).toNat = N * 2 ^ 149 := by
  by_cases hm : mag = 0
  · subst hm
    have h0 : N = 0 := by
      rw [Nat.zero_mul] at hv
      rcases Nat.mul_eq_zero.1 hv.symm with h | h
      · exact h
      · exact absurd h (by have := Nat.two_pow_pos (Z + 23); omega)
    subst h0
    refine ⟨0, -149, ?_, by omega, by simp⟩
    unfold Ieee.Format.nearest
    rw [if_pos rfl]
    exact read_zero neg
  · obtain ⟨p, hpp⟩ : ∃ p : Nat, place = (p : Int) - ((Z + 23 : Nat) : Int) := ⟨(place + ((Z + 23 : Nat) : Int)).toNat, by omega⟩
    subst hpp
    rw [show ((p : Int) - ((Z + 23 : Nat) : Int) + ((Z + 23 : Nat) : Int)).toNat = p by omega] at hv
    have hN0 : N ≠ 0 := by
      intro h; subst h
      rw [Nat.zero_mul] at hv
      rcases Nat.mul_eq_zero.1 hv with h | h
      · exact hm h
      · exact absurd h (by have := Nat.two_pow_pos p; omega)
    obtain ⟨L, hL⟩ : ∃ L, L = N.log2 := ⟨_, rfl⟩
    have hL1 : 2 ^ L ≤ N := by rw [hL]; exact Nat.log2_self_le hN0
    have hL2 : N < 2 ^ (L + 1) := by rw [hL]; exact Nat.lt_log2_self
    have hL24 : L ≤ 24 := by
      rcases Nat.lt_or_ge 24 L with h | h
      · exfalso
        have : 2 ^ 25 ≤ 2 ^ L := Nat.pow_le_pow_right (by decide) h
        omega
      · exact h
    -- the place of the leading digit
    have hlog : mag.log2 + p = L + (Z + 23) := by
      have a1 : 2 ^ mag.log2 ≤ mag := Nat.log2_self_le hm
      have a2 : mag < 2 ^ (mag.log2 + 1) := Nat.lt_log2_self
      have b1 : 2 ^ (mag.log2 + p) ≤ N * 2 ^ (Z + 23) := by rw [← hv, Nat.pow_add]; exact Nat.mul_le_mul_right _ a1
      have b2 : N * 2 ^ (Z + 23) < 2 ^ (mag.log2 + 1 + p) := by rw [← hv, Nat.pow_add]; exact Nat.mul_lt_mul_of_pos_right a2 (Nat.two_pow_pos p)
      have c1 : 2 ^ (L + (Z + 23)) ≤ N * 2 ^ (Z + 23) := by rw [Nat.pow_add]; exact Nat.mul_le_mul_right _ hL1
      have c2 : N * 2 ^ (Z + 23) < 2 ^ (L + 1 + (Z + 23)) := by rw [Nat.pow_add 2 (L + 1)]; exact Nat.mul_lt_mul_of_pos_right hL2 (Nat.two_pow_pos (Z + 23))
      have d1 : mag.log2 + p < L + 1 + (Z + 23) := (Nat.pow_lt_pow_iff_right (by decide)).1 (Nat.lt_of_le_of_lt b1 c2)
      have d2 : L + (Z + 23) < mag.log2 + 1 + p := (Nat.pow_lt_pow_iff_right (by decide)).1 (Nat.lt_of_le_of_lt c1 b2)
      omega
    -- the significand
    obtain ⟨K, hK⟩ : ∃ K, K * 2 ^ L = N * 2 ^ 23 := by
      rcases Nat.lt_or_ge 23 L with h | h
      · have h24 : L = 24 := by omega
        subst h24
        have : N = 16777216 := by omega
        exact ⟨8388608, by rw [this]⟩
      · refine ⟨N * 2 ^ (23 - L), ?_⟩
        rw [Nat.mul_assoc, ← Nat.pow_add, Nat.sub_add_cancel h]
    have hK1 : 8388608 ≤ K := by
      rcases Nat.lt_or_ge K 8388608 with h | h
      · exfalso
        have h1 : K * 2 ^ L < 2 ^ 23 * 2 ^ L := Nat.mul_lt_mul_of_pos_right h (Nat.two_pow_pos L)
        have h2 : 2 ^ L * 2 ^ 23 ≤ N * 2 ^ 23 := Nat.mul_le_mul_right _ hL1
        rw [hK, Nat.mul_comm (2 ^ 23)] at h1
        omega
      · exact h
    have hK2 : K < 16777216 := by
      rcases Nat.lt_or_ge K 16777216 with h | h
      · exact h
      · exfalso
        have h1 : 2 ^ 24 * 2 ^ L ≤ K * 2 ^ L := Nat.mul_le_mul_right _ h
        have h2 : N * 2 ^ 23 < 2 ^ (L + 1) * 2 ^ 23 := Nat.mul_lt_mul_of_pos_right hL2 (by decide)
        rw [hK] at h1
        rw [Nat.pow_succ] at h2
        omega
    have hlast : max ((p : Int) - ((Z + 23 : Nat) : Int) + (mag.log2 : Nat) - (23 : Nat)) (-149) = (L : Int) - 23 := by omega
    have hkept : Ieee.Toward.even.cut neg (mag <<< ((p : Int) - ((Z + 23 : Nat) : Int) - ((L : Int) - 23)).toNat) (((L : Int) - 23) - ((p : Int) - ((Z + 23 : Nat) : Int))).toNat = K := by
      apply cut_exact _ _ _ _ ?_ (by omega)
      obtain ⟨u, hu⟩ : ∃ u, u = ((p : Int) - ((Z + 23 : Nat) : Int) - ((L : Int) - 23)).toNat := ⟨_, rfl⟩
      obtain ⟨d, hd⟩ : ∃ d, d = (((L : Int) - 23) - ((p : Int) - ((Z + 23 : Nat) : Int))).toNat := ⟨_, rfl⟩
      have hud : p + d = L + Z + u := by omega
      rw [← hu, ← hd, Nat.shiftLeft_eq]
      have key : mag * 2 ^ u * (2 ^ L * 2 ^ Z) = K * 2 ^ d * (2 ^ L * 2 ^ Z) := by
        calc mag * 2 ^ u * (2 ^ L * 2 ^ Z) = mag * (2 ^ L * 2 ^ Z * 2 ^ u) := by rw [Nat.mul_assoc, Nat.mul_comm (2 ^ u)]
          _ = mag * 2 ^ (p + d) := by rw [hud, Nat.pow_add, Nat.pow_add]
          _ = mag * 2 ^ p * 2 ^ d := by rw [Nat.pow_add, Nat.mul_assoc]
          _ = N * 2 ^ (Z + 23) * 2 ^ d := by rw [hv]
          _ = N * (2 ^ 23 * 2 ^ Z) * 2 ^ d := by rw [← Nat.pow_add, Nat.add_comm 23]
          _ = K * 2 ^ L * 2 ^ Z * 2 ^ d := by rw [← Nat.mul_assoc N, hK]
          _ = K * 2 ^ d * (2 ^ L * 2 ^ Z) := by rw [Nat.mul_assoc (K * 2 ^ L), Nat.mul_comm (2 ^ Z), ← Nat.mul_assoc, Nat.mul_assoc K, Nat.mul_comm (2 ^ L) (2 ^ d), ← Nat.mul_assoc K, Nat.mul_assoc (K * 2 ^ d)]
      exact Nat.eq_of_mul_eq_mul_right (Nat.mul_pos (Nat.two_pow_pos L) (Nat.two_pow_pos Z)) key
    have hnear : Ieee.single.nearest neg mag ((p : Int) - ((Z + 23 : Nat) : Int)) = Ieee.single.word neg ((L + 125 + 1) * 8388608 + (8388608 + (K - 8388608))) := by
      unfold Ieee.Format.nearest
      rw [if_neg hm]
      dsimp only
      have hf : Ieee.single.fractionBits = 23 := rfl
      rw [hf, lp, hlast, hkept, bn, ir]
      have : ((L : Int) - 23 - -149).toNat = L + 126 := by omega
      rw [this, Nat.min_eq_left (by omega), show (L + 125 + 1) * 8388608 + (8388608 + (K - 8388608)) = (L + 126) * 8388608 + K by omega]
    refine ⟨K, -149 + ((L + 126 : Nat) : Int), ?_, by omega, ?_⟩
    · rw [hnear, show (L + 125 + 1) * 8388608 + (8388608 + (K - 8388608)) = (L + 126 + 1) * 8388608 + (K - 8388608) by omega, read_word neg (L + 126) (K - 8388608) (by omega) (by omega), show 8388608 + (K - 8388608) = K by omega]
    · rw [show (-149 + ((L + 126 : Nat) : Int) + 149).toNat = L + 126 by omega, Nat.pow_add, ← Nat.mul_assoc, hK, Nat.mul_assoc, ← Nat.pow_add]

end Nu
end Go.Proofs.Ytkkdimhibfpopaa
