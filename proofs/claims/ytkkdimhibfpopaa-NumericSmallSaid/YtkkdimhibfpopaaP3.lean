/- The other sign, quotients by powers of two, products and quotients of numbers whose parts are integers. -/
import Derived.Test.YtkkdimhibfpopaaP2
import Derived.Test.YtkkdimhibfpopaaA6
namespace Go.Proofs.Ytkkdimhibfpopaa
namespace Nu

theorem neg_rp {b : Nat} {n : Int} (hb : Rp b n) (hl : b < 4294967296) : Rp (negW b) (-n) := by
  obtain ⟨s, m, e, h1, h2, h3⟩ := hb
  have hn : Op.negFloat .f32 b = b ^^^ 2 ^ 31 := rfl
  have hm : (b ^^^ 2 ^ 31) % 2147483648 = b % 2147483648 := by
    rw [show (2147483648 : Nat) = 2 ^ 31 by rfl, Nat.xor_mod_two_pow]
    try simp
  have hd : (b ^^^ 2 ^ 31) / 2147483648 = (b / 2147483648) ^^^ 1 := by
    rw [show (2147483648 : Nat) = 2 ^ 31 by rfl, Nat.xor_div_two_pow]
    try simp
  have hs : ((b ^^^ 2 ^ 31) / 2147483648 % 2 == 1) = !(b / 2147483648 % 2 == 1) := by
    rw [hd]
    rcases (show b / 2147483648 = 0 ∨ b / 2147483648 = 1 by omega) with h | h <;> rw [h] <;> rfl
  have hr : Ieee.single.read (b ^^^ 2 ^ 31) = (Ieee.single.read b).opposite := by
    unfold Ieee.Format.read
    rw [sw, hm, hs]
    dsimp only
    split
    · rfl
    · split
      · rfl
      · split <;> rfl
  have hc : canon b = b := Rp.canon ⟨s, m, e, h1, h2, h3⟩
  have hr2 : Ieee.single.read (b ^^^ 2 ^ 31) = .number (!s) m e := by rw [hr, h1]; rfl
  have key : Rp (b ^^^ 2 ^ 31) (-n) := by
    refine ⟨!s, m, e, hr2, h2, ?_⟩
    rw [Int.neg_mul, ← h3, signed_eq, signed_eq]
    cases s <;> simp
  unfold negW
  rw [hc, hn, key.canon]
  exact key

theorem read_lt {b m : Nat} {s : Bool} {e : Int} (h : Ieee.single.read b = .number s m e) : m < 16777216 := by
  unfold Ieee.Format.read at h
  rw [sw, bn, ir] at h
  dsimp only at h
  split at h
  · cases h; omega
  · split at h
    · cases h
      have := Nat.mod_lt (b % 2147483648) (show 8388608 > 0 by decide)
      omega
    · split at h <;> cases h

theorem pow_of {l q r : Nat} (h : l * 2 ^ q = 2 ^ r) : ∃ a, l = 2 ^ a ∧ a + q = r := by
  have hq : q ≤ r := by
    rcases Nat.lt_or_ge r q with h1 | h1
    · exfalso
      have h2 : 2 ^ r < 2 ^ q := Nat.pow_lt_pow_right (by decide) h1
      have h3 : l ≠ 0 := by intro h0; subst h0; have := Nat.two_pow_pos r; omega
      have h4 : 1 * 2 ^ q ≤ l * 2 ^ q := Nat.mul_le_mul_right _ (Nat.pos_of_ne_zero h3)
      omega
    · exact h1
  refine ⟨r - q, ?_, by omega⟩
  apply Nat.eq_of_mul_eq_mul_right (Nat.two_pow_pos q)
  rw [h, ← Nat.pow_add]
  congr 1; omega

/-- n times a power of two, divided by it. -/
theorem quo_rp {b c : Nat} {n : Int} (T : Nat) (hT : T ≤ 24) (hb : Rp b (n * 2 ^ T)) (hc : Rp c (2 ^ T)) (h1 : -16777216 ≤ n) (h2 : n ≤ 16777216) : Rp (fop .quo b c) n := by
  obtain ⟨s, m, i, e1, e2, e3⟩ := hb
  obtain ⟨t, l, j, g1, g2, g3⟩ := hc
  have hm := read_lt e1
  obtain ⟨q, hq⟩ : ∃ q : Nat, q = (j + 149).toNat := ⟨_, rfl⟩
  obtain ⟨p, hp⟩ : ∃ p : Nat, p = (i + 149).toNat := ⟨_, rfl⟩
  rw [← hq, signed_eq, ← Int.pow_add] at g3
  rw [← hp, signed_eq] at e3
  have ht : t = false := by
    cases t
    · rfl
    · exfalso
      simp at g3
      have a1 := pos_pow (T + 149)
      have a2 : (0 : Int) ≤ (l : Int) * 2 ^ q := Int.mul_nonneg (Int.natCast_nonneg _) (Int.le_of_lt (pos_pow q))
      omega
  subst ht
  simp at g3
  have hl : l * 2 ^ q = 2 ^ (T + 149) := by exact_mod_cast g3
  obtain ⟨a, ha, haq⟩ := pow_of hl
  subst ha
  have hla : (2 ^ a).log2 = a := Nat.log2_two_pow
  have hml : m.log2 ≤ 24 := by
    by_cases h0 : m = 0
    · subst h0; decide
    · have := Nat.log2_self_le h0
      rcases Nat.lt_or_ge 24 m.log2 with h | h
      · exfalso
        have : 2 ^ 25 ≤ 2 ^ m.log2 := Nat.pow_le_pow_right (by decide) h
        omega
      · exact h
  obtain ⟨more, hmore⟩ : ∃ more, more = 25 + a - m.log2 := ⟨_, rfl⟩
  have hge : a ≤ more := by omega
  have hdiv : (m <<< more) / 2 ^ a = m * 2 ^ (more - a) := by
    rw [Nat.shiftLeft_eq, show more = (more - a) + a by omega, Nat.pow_add, ← Nat.mul_assoc, Nat.mul_div_cancel _ (Nat.two_pow_pos a)]
    congr 2; omega
  have hmod : (m <<< more) % 2 ^ a = 0 := by
    rw [Nat.shiftLeft_eq, show more = (more - a) + a by omega, Nat.pow_add, ← Nat.mul_assoc]
    exact Nat.mul_mod_left _ _
  have hf : fop .quo b c = Ieee.single.write (.number s (2 * (m * 2 ^ (more - a))) (i - j - more - 1)) := by
    show ((((Ieee.single.read b).quotient (Ieee.single.fractionBits + 2) (Ieee.single.read c)).map Ieee.single.write).getD qN) = _
    rw [e1, g1]
    have hfb : Ieee.single.fractionBits + 2 = 25 := rfl
    rw [hfb]
    simp only [Ieee.Datum.quotient]
    rw [if_neg (by have := Nat.two_pow_pos a; omega), hla, ← hmore, hdiv, hmod]
    simp
  rw [hf]
  apply write_rp _ _ _ n 400 (by omega) ?_ h1 h2
  rw [signed_eq]
  obtain ⟨V, hV⟩ : ∃ V : Nat, V = 400 + 23 := ⟨_, rfl⟩
  rw [← hV]
  obtain ⟨E, hE⟩ : ∃ E : Nat, E = (i - j - more - 1 + (V : Int)).toNat := ⟨_, rfl⟩
  have hsum : 1 + (more - a) + E + (T + 149) = p + V := by omega
  rw [← hE]
  apply Int.eq_of_mul_eq_mul_right (Int.ne_of_gt (pos_pow (T + 149)))
  obtain ⟨g, hg⟩ : ∃ g : Int, g = if s = true then -1 else 1 := ⟨_, rfl⟩
  rw [← hg] at e3 ⊢
  have hY : (2 : Int) ^ (p + V) = 2 * 2 ^ (more - a) * 2 ^ E * 2 ^ (T + 149) := by
    rw [← hsum, Int.pow_add 2 (1 + (more - a) + E), Int.pow_add 2 (1 + (more - a)), Int.pow_add 2 1, Int.pow_one]
  have l1 : g * (((2 * (m * 2 ^ (more - a)) : Nat) : Int) * 2 ^ E) * 2 ^ (T + 149) = g * ((m : Int) * 2 ^ (p + V)) := by
    rw [hY, Int.natCast_mul, Int.natCast_mul, Int.natCast_pow]
    obtain ⟨A, hA⟩ : ∃ A : Int, A = 2 ^ (T + 149) := ⟨_, rfl⟩
    obtain ⟨B, hB⟩ : ∃ B : Int, B = 2 ^ E := ⟨_, rfl⟩
    obtain ⟨D, hD⟩ : ∃ D : Int, D = 2 ^ (more - a) := ⟨_, rfl⟩
    rw [← hA, ← hB]
    rw [show ((2 : Nat) : Int) = 2 by rfl, ← hD]
    clear hA hB hD hY
    ac_rfl
  have l2 : n * 2 ^ V * 2 ^ (T + 149) = g * ((m : Int) * 2 ^ (p + V)) := by
    rw [Int.pow_add 2 p, ← Int.mul_assoc (m : Int), ← Int.mul_assoc g, e3, Int.pow_add 2 T]
    obtain ⟨A, hA⟩ : ∃ A : Int, A = 2 ^ 149 := ⟨_, rfl⟩
    obtain ⟨B, hB⟩ : ∃ B : Int, B = 2 ^ V := ⟨_, rfl⟩
    obtain ⟨D, hD⟩ : ∃ D : Int, D = 2 ^ T := ⟨_, rfl⟩
    rw [← hA, ← hB, ← hD]
    clear hA hB hD hY
    ac_rfl
  rw [l1, l2]

/-- Numbers whose parts are integers. -/
def RpN (x : Nat × Nat) (p q : Int) : Prop := Rp x.1 p ∧ Rp x.2 q

def addW (x y : Nat × Nat) : Nat × Nat := (fop .add x.1 y.1, fop .add x.2 y.2)
def subW (x y : Nat × Nat) : Nat × Nat := (fop .sub x.1 y.1, fop .sub x.2 y.2)

end Nu
end Go.Proofs.Ytkkdimhibfpopaa
