/- Exact values: transforms of up to four small numbers, their inverses, their powers. -/
import Derived.Test.YtkkdimhibfpopaaW3
import Derived.Test.YtkkdimhibfpopaaU4
namespace Go.Proofs.Ytkkdimhibfpopaa
namespace Nu

theorem read_back {b m : Nat} {s : Bool} {e : Int} (h : Ieee.single.read b = .number s m e) (hb : b < 4294967296) :
    ((m < 8388608 ∧ e = -149) ∨ (8388608 ≤ m ∧ m < 16777216 ∧ -149 ≤ e)) ∧ b = (if s = true then 2147483648 else 0) + (if m < 8388608 then m else (e + 150).toNat * 8388608 + (m - 8388608)) := by
  unfold Ieee.Format.read at h
  rw [sw, bn, ir] at h
  dsimp only at h
  have key : ∀ s : Bool, (b / 2147483648 % 2 == 1) = s → b / 2147483648 = if s = true then 1 else 0 := by
    intro s hs
    cases s
    · have : ¬ b / 2147483648 % 2 = 1 := by simpa using hs
      simp only [Bool.false_eq_true, if_false]
      omega
    · have : b / 2147483648 % 2 = 1 := by simpa using hs
      simp only [if_true]
      omega
  split at h
  · injection h with hs hm he
    rw [lp] at he
    have k := key s hs
    refine ⟨.inl ⟨by omega, by omega⟩, ?_⟩
    rw [if_pos (show m < 8388608 by omega)]
    cases s <;> simp at k ⊢ <;> omega
  · split at h
    · injection h with hs hm he
      rw [lp] at he
      have k := key s hs
      have h1 := Nat.mod_lt (b % 2147483648) (show 8388608 > 0 by decide)
      refine ⟨.inr ⟨by omega, by omega, by omega⟩, ?_⟩
      rw [if_neg (show ¬ m < 8388608 by omega)]
      cases s <;> simp at k ⊢ <;> omega
    · split at h <;> cases h

theorem word_unique {b c m m' : Nat} {s : Bool} {e e' : Int} (h1 : Ieee.single.read b = .number s m e) (h2 : Ieee.single.read c = .number s m' e') (hb : b < 4294967296) (hc : c < 4294967296)
    (hv : m * 2 ^ (e + 149).toNat = m' * 2 ^ (e' + 149).toNat) : b = c := by
  obtain ⟨n1, r1⟩ := read_back h1 hb
  obtain ⟨n2, r2⟩ := read_back h2 hc
  have hme : m = m' ∧ e = e' := by
    rcases n1 with ⟨a1, a2⟩ | ⟨a1, a2, a3⟩ <;> rcases n2 with ⟨b1, b2⟩ | ⟨b1, b2, b3⟩
    · subst a2 b2
      simp at hv
      exact ⟨hv, rfl⟩
    · exfalso
      subst a2
      simp at hv
      have : 1 ≤ 2 ^ (e' + 149).toNat := Nat.one_le_two_pow
      have : m' * 1 ≤ m' * 2 ^ (e' + 149).toNat := Nat.mul_le_mul_left _ this
      omega
    · exfalso
      subst b2
      simp at hv
      have : 1 ≤ 2 ^ (e + 149).toNat := Nat.one_le_two_pow
      have : m * 1 ≤ m * 2 ^ (e + 149).toNat := Nat.mul_le_mul_left _ this
      omega
    · obtain ⟨u, hu⟩ : ∃ u, u = (e + 149).toNat := ⟨_, rfl⟩
      obtain ⟨v, hv'⟩ : ∃ v, v = (e' + 149).toNat := ⟨_, rfl⟩
      rw [← hu, ← hv'] at hv
      have huv : u = v := by
        rcases Nat.lt_trichotomy u v with h | h | h
        · exfalso
          obtain ⟨d, rfl⟩ : ∃ d, v = u + 1 + d := ⟨v - (u + 1), by omega⟩
          rw [Nat.pow_add, Nat.pow_add, Nat.pow_one] at hv
          have hp := Nat.two_pow_pos u
          have h3 : m = m' * (2 * 2 ^ d) := by
            apply Nat.eq_of_mul_eq_mul_right hp
            rw [hv]; ac_rfl
          have : 1 ≤ 2 ^ d := Nat.one_le_two_pow
          have : m' * (2 * 1) ≤ m' * (2 * 2 ^ d) := Nat.mul_le_mul_left _ (by omega)
          omega
        · exact h
        · exfalso
          obtain ⟨d, rfl⟩ : ∃ d, u = v + 1 + d := ⟨u - (v + 1), by omega⟩
          rw [Nat.pow_add, Nat.pow_add, Nat.pow_one] at hv
          have hp := Nat.two_pow_pos v
          have h3 : m' = m * (2 * 2 ^ d) := by
            apply Nat.eq_of_mul_eq_mul_right hp
            rw [← hv]; ac_rfl
          have : 1 ≤ 2 ^ d := Nat.one_le_two_pow
          have : m * (2 * 1) ≤ m * (2 * 2 ^ d) := Nat.mul_le_mul_left _ (by omega)
          omega
      subst huv
      exact ⟨Nat.eq_of_mul_eq_mul_right (Nat.two_pow_pos _) hv, by omega⟩
  obtain ⟨rfl, rfl⟩ := hme
  omega

/-- The square of a word that holds an integer: its sign, and what it holds. -/
theorem sq_pos {y : Nat} {n : Int} (hy : Rp y n) (hn : n.natAbs ≤ 4096) : ∃ m, ∃ e : Int, Ieee.single.read (fop .mul y y) = .number false m e ∧ -149 ≤ e ∧ m * 2 ^ (e + 149).toNat = n.natAbs * n.natAbs * 2 ^ 149 := by
  obtain ⟨s, m, i, e1, e2, e3⟩ := hy
  have hf : fop .mul y y = Ieee.single.nearest (s ^^ s) (m * m) (i + i) := by
    show ((((Ieee.single.read y).product (Ieee.single.read y)).map Ieee.single.write).getD qN) = _
    rw [e1]; rfl
  have hs : (s ^^ s) = false := by cases s <;> rfl
  rw [hs] at hf
  obtain ⟨P, hP⟩ : ∃ P, P = (i + 149).toNat := ⟨_, rfl⟩
  rw [← hP, signed_eq] at e3
  have e4 : m * 2 ^ P = n.natAbs * 2 ^ 149 := by
    have h := congrArg Int.natAbs e3
    rw [Int.natAbs_mul, Int.natAbs_mul, Int.natAbs_mul] at h
    have g : (if s = true then (-1 : Int) else 1).natAbs = 1 := by cases s <;> rfl
    rw [g, Int.natAbs_pow, Int.natAbs_pow] at h
    simpa using h
  rw [hf]
  have hN : n.natAbs * n.natAbs ≤ 16777216 := Nat.mul_le_mul hn hn
  refine near false (m * m) (i + i) (n.natAbs * n.natAbs) 275 (by omega) ?_ hN
  rw [show (i + i + ((275 + 23 : Nat) : Int)).toNat = P + P by omega, Nat.pow_add]
  obtain ⟨Q, hQ⟩ : ∃ Q, Q = 2 ^ 149 := ⟨_, rfl⟩
  rw [show (275 + 23 : Nat) = 149 + 149 from rfl, Nat.pow_add 2 149 149, ← hQ]
  rw [← hQ] at e4
  have h1 : m * m * (2 ^ P * 2 ^ P) = (m * 2 ^ P) * (m * 2 ^ P) := by ac_rfl
  rw [h1, e4]
  ac_rfl

theorem sq_unique {y z : Nat} {n k : Int} (hy : Rp y n) (hz : Rp z k) (hn : n.natAbs ≤ 4096) (he : n.natAbs = k.natAbs) : fop .mul y y = fop .mul z z := by
  obtain ⟨m, e, h1, h2, h3⟩ := sq_pos hy hn
  obtain ⟨m', e', g1, g2, g3⟩ := sq_pos hz (by omega)
  exact word_unique h1 g1 (fop_lt _ _ _) (fop_lt _ _ _) (by rw [h3, g3, he])

theorem add_comm_num {a b m l : Nat} {s t : Bool} {i j : Int} (h1 : Ieee.single.read a = .number s m i) (h2 : Ieee.single.read b = .number t l j) : fop .add a b = fop .add b a := by
  have h : (Ieee.Datum.number s m i).sum (.number t l j) = (Ieee.Datum.number t l j).sum (.number s m i) := by
    simp only [Ieee.Datum.sum]
    rw [Int.min_comm j i, Int.add_comm (Ieee.signed t l (j - min i j).toNat), Bool.and_comm t s]
  show ((((Ieee.single.read a).sum (Ieee.single.read b)).map Ieee.single.write).getD qN) = ((((Ieee.single.read b).sum (Ieee.single.read a)).map Ieee.single.write).getD qN)
  rw [h1, h2, h]

/-- A word of integers, within bounds, and the word's own bounds. -/
structure RC (x : Nat × Nat) (p : Int × Int) (B : Int) : Prop where
  rb : RB x p B
  l1 : x.1 < 4294967296
  l2 : x.2 < 4294967296

def csb (p q : Int × Int) : Int × Int := (p.1 - q.1, p.2 - q.2)

theorem RC.add {x y : Nat × Nat} {p q : Int × Int} {A B : Int} (hx : RC x p A) (hy : RC y q B) (h : A + B ≤ 16777216) : RC (addW x y) (ca p q) (A + B) := ⟨hx.rb.add hy.rb h, fop_lt _ _ _, fop_lt _ _ _⟩
theorem RC.sub {x y : Nat × Nat} {p q : Int × Int} {A B : Int} (hx : RC x p A) (hy : RC y q B) (h : A + B ≤ 16777216) : RC (subW x y) (csb p q) (A + B) := by
  obtain ⟨⟨⟨r1, r2⟩, ⟨l1, u1⟩, ⟨l2, u2⟩⟩, _, _⟩ := hx
  obtain ⟨⟨⟨s1, s2⟩, ⟨m1, v1⟩, ⟨m2, v2⟩⟩, _, _⟩ := hy
  exact ⟨⟨⟨sub_rp r1 s1 (by omega) (by omega), sub_rp r2 s2 (by omega) (by omega)⟩, by unfold csb; dsimp only; omega, by unfold csb; dsimp only; omega⟩, fop_lt _ _ _, fop_lt _ _ _⟩
theorem RC.mul {x y : Nat × Nat} {p q : Int × Int} {A B : Int} (hx : RC x p A) (hy : RC y q B) (h : 2 * (A * B) ≤ 16777216) : RC (mulW x y) (cm p q) (2 * (A * B)) := ⟨hx.rb.mul hy.rb h, fop_lt _ _ _, fop_lt _ _ _⟩
theorem RC.can {x : Nat × Nat} {p : Int × Int} {A : Int} (hx : RC x p A) : RC (can2 x) p A := ⟨hx.rb.can, canon_lt hx.l1, canon_lt hx.l2⟩
/-- The same with other names for the integers, and other bounds. -/
theorem RC.re {x : Nat × Nat} {p : Int × Int} {A : Int} (h : RC x p A) (q : Int × Int) (B : Int) (h1 : p.1 = q.1) (h2 : p.2 = q.2) (b1 : -B ≤ q.1 ∧ q.1 ≤ B) (b2 : -B ≤ q.2 ∧ q.2 ≤ B) : RC x q B :=
  ⟨⟨⟨by rw [← h1]; exact h.rb.rp.1, by rw [← h2]; exact h.rb.rp.2⟩, b1, b2⟩, h.l1, h.l2⟩
theorem foi_lt (n : Int) : floatOfInt .f32 n < 4294967296 := by
  have := floatOfInt_wf .f32 n
  simpa [Lit.wf] using this
theorem RC.wd {p q B : Int} (h1 : -B ≤ p ∧ p ≤ B) (h2 : -B ≤ q ∧ q ≤ B) (hB : B ≤ 16777216) : RC (Nu.wd p, Nu.wd q) (p, q) B :=
  ⟨RB.wd h1 h2 hB, canon_lt (foi_lt p), canon_lt (foi_lt q)⟩
theorem RC.conj {x : Nat × Nat} {p : Int × Int} {A : Int} (h : RC x p A) : RC (conjW x) (p.1, -p.2) A := by
  obtain ⟨⟨⟨r1, r2⟩, b1, b2⟩, l1, l2⟩ := h
  refine ⟨⟨⟨?_, neg_rp r2 l2⟩, b1, by dsimp only; omega⟩, canon_lt l1, ?_⟩
  · show Rp (canon x.1) p.1
    rw [r1.canon]; exact r1
  · show canon _ < _
    have hc := canon_lt l2
    apply canon_lt
    show (canon x.2) ^^^ 2 ^ 31 < 2 ^ 32
    exact Nat.xor_lt_two_pow hc (by decide)

theorem RC.inv {x : Nat × Nat} {p : Int × Int} {A : Int} (h : RC x p A) (k : Nat) (hk : k ≤ 6) (u v : Int) (h1 : p.1 = u * 2 ^ k) (h2 : -p.2 = v * 2 ^ k) (b1 : -16777216 ≤ u ∧ u ≤ 16777216) (b2 : -16777216 ≤ v ∧ v ≤ 16777216) :
    RpN (invW (floatOfInt .f32 ((2 ^ k : Nat) : Int)) x) u v := by
  have hc := h.conj
  have e : ((2 ^ k : Nat) : Int) = 2 ^ k := by simp
  have hf : Rp (floatOfInt .f32 ((2 ^ k : Nat) : Int)) (2 ^ k) := by
    have h6 : 2 ^ k ≤ 2 ^ 6 := Nat.pow_le_pow_right (by omega) hk
    obtain ⟨N, hN⟩ : ∃ N, N = 2 ^ k := ⟨_, rfl⟩
    rw [← hN] at h6 e ⊢
    have := rp_of (N : Int) (by omega) (by omega)
    rw [← e]; exact this
  exact ⟨quo_rp k (by omega) (by rw [← h1]; exact hc.rb.rp.1) hf b1.1 b1.2, quo_rp k (by omega) (by rw [← h2]; exact hc.rb.rp.2) hf b2.1 b2.2⟩

theorem rp_negzero : Rp 2147483648 0 := ⟨true, 0, -149, by decide, by omega, by decide⟩
theorem rc_one : RC (1065353216, 0) (1, 0) 1 := by
  have h1 : wd 1 = 1065353216 := by decide
  have h0 : wd 0 = 0 := by decide
  have := RC.wd (p := 1) (q := 0) (B := 1) (by omega) (by omega) (by omega)
  rw [h1, h0] at this
  exact this
theorem rc_minus : RC (3212836864, 2147483648) (-1, 0) 1 := by
  have h1 : wd (-1) = 3212836864 := by decide
  have := wd_rp (-1) (by omega) (by omega)
  rw [h1] at this
  exact ⟨⟨⟨this, rp_negzero⟩, by dsimp only; omega, by dsimp only; omega⟩, by dsimp only; omega, by dsimp only; omega⟩
theorem rc_i : RC (0, 3212836864) (0, -1) 1 := by
  have h1 : wd (-1) = 3212836864 := by decide
  have h0 : wd 0 = 0 := by decide
  have := RC.wd (p := 0) (q := -1) (B := 1) (by omega) (by omega) (by omega)
  rw [h1, h0] at this
  exact this

theorem rc_f10 : RC (fac (firstW 1) 0) (1, 0) 1 := rc_one
theorem rc_f11 : RC (fac (firstW 1) 1) (-1, 0) 1 := (RC.mul rc_one rc_minus (by decide)).re _ _ (by simp [cm]) (by simp [cm]) (by omega) (by omega)
theorem rc_f20 : RC (fac (firstW 2) 0) (1, 0) 1 := rc_one
theorem rc_f21 : RC (fac (firstW 2) 1) (0, -1) 1 := (RC.mul rc_f20 rc_i (by decide)).re _ _ (by simp [cm]) (by simp [cm]) (by omega) (by omega)
theorem rc_f22 : RC (fac (firstW 2) 2) (-1, 0) 1 := (RC.mul rc_f21 rc_i (by decide)).re _ _ (by simp [cm]) (by simp [cm]) (by omega) (by omega)
theorem rc_f23 : RC (fac (firstW 2) 3) (0, 1) 1 := (RC.mul rc_f22 rc_i (by decide)).re _ _ (by simp [cm]) (by simp [cm]) (by omega) (by omega)

/-- The transforms of one, two, four numbers. -/
theorem tr0_rc {a0 : Nat × Nat} {v0 : Int × Int} {B : Int} (h0 : RC a0 v0 B) : ∃ b0, trL 0 [a0] = [b0] ∧ RC b0 v0 B := ⟨_, rfl, h0.can⟩

theorem tr1_rc {a0 a1 : Nat × Nat} {v0 v1 : Int × Int} {B : Int} (h0 : RC a0 v0 B) (h1 : RC a1 v1 B) (hB : B ≤ 1000000) :
    ∃ b0 b1, trL 1 [a0, a1] = [b0, b1] ∧ RC b0 (v0.1 + v1.1, v0.2 + v1.2) (2 * B) ∧ RC b1 (v0.1 - v1.1, v0.2 - v1.2) (2 * B) := by
  have t := RC.mul rc_f10 h1.can (by omega)
  have s := RC.add h0.can t (by omega)
  have d := RC.sub h0.can t (by omega)
  have q0 := h0.rb.b1
  have q1 := h0.rb.b2
  have q2 := h1.rb.b1
  have q3 := h1.rb.b2
  refine ⟨_, _, rfl, s.re _ _ ?_ ?_ ?_ ?_, d.re _ _ ?_ ?_ ?_ ?_⟩ <;> simp only [ca, csb, cm] <;> omega

theorem tr2_rc {a0 a1 a2 a3 : Nat × Nat} {v0 v1 v2 v3 : Int × Int} {B : Int} (h0 : RC a0 v0 B) (h1 : RC a1 v1 B) (h2 : RC a2 v2 B) (h3 : RC a3 v3 B) (hB : B ≤ 500000) :
    ∃ b0 b1 b2 b3, trL 2 [a0, a1, a2, a3] = [b0, b1, b2, b3] ∧ RC b0 (v0.1 + v1.1 + v2.1 + v3.1, v0.2 + v1.2 + v2.2 + v3.2) (4 * B) ∧ RC b1 (v0.1 - v2.1 + (v1.2 - v3.2), v0.2 - v2.2 - (v1.1 - v3.1)) (4 * B) ∧
      RC b2 (v0.1 - v1.1 + v2.1 - v3.1, v0.2 - v1.2 + v2.2 - v3.2) (4 * B) ∧ RC b3 (v0.1 - v2.1 - (v1.2 - v3.2), v0.2 - v2.2 + (v1.1 - v3.1)) (4 * B) := by
  obtain ⟨e0, e1, he, r0, r1⟩ := tr1_rc h0 h2 (by omega)
  obtain ⟨o0, o1, ho, s0, s1⟩ := tr1_rc h1 h3 (by omega)
  have hexp : trL 2 [a0, a1, a2, a3] = [addW (at2 (trL 1 [a0, a2]) 0) (mulW (fac (firstW 2) 0) (at2 (trL 1 [a1, a3]) 0)), addW (at2 (trL 1 [a0, a2]) 1) (mulW (fac (firstW 2) 1) (at2 (trL 1 [a1, a3]) 1)),
      subW (at2 (trL 1 [a0, a2]) 0) (mulW (fac (firstW 2) 0) (at2 (trL 1 [a1, a3]) 0)), subW (at2 (trL 1 [a0, a2]) 1) (mulW (fac (firstW 2) 1) (at2 (trL 1 [a1, a3]) 1))] := rfl
  rw [hexp, he, ho]
  have t0 := RC.mul rc_f20 s0 (by omega)
  have t1 := RC.mul rc_f21 s1 (by omega)
  have x0 := RC.add r0 t0 (by omega)
  have x1 := RC.add r1 t1 (by omega)
  have x2 := RC.sub r0 t0 (by omega)
  have x3 := RC.sub r1 t1 (by omega)
  have q0 := h0.rb.b1
  have q1 := h0.rb.b2
  have q2 := h1.rb.b1
  have q3 := h1.rb.b2
  have q4 := h2.rb.b1
  have q5 := h2.rb.b2
  have q6 := h3.rb.b1
  have q7 := h3.rb.b2
  refine ⟨_, _, _, _, rfl, x0.re _ _ ?_ ?_ ?_ ?_, x1.re _ _ ?_ ?_ ?_ ?_, x2.re _ _ ?_ ?_ ?_ ?_, x3.re _ _ ?_ ?_ ?_ ?_⟩ <;> simp only [ca, csb, cm] <;> omega

end Nu
end Go.Proofs.Ytkkdimhibfpopaa
