/- The transform of a list, on words; rows of numbers that are written. -/
import Derived.Test.YtkkdimhibfpopaaS3
namespace Go.Proofs.Ytkkdimhibfpopaa
open Go.ChangeShapes Go.WideShapes Go.ChangeAt Go.RowKit Go.WideMaps Go.Maps
namespace Nu

def can2 (x : Nat × Nat) : Nat × Nat := (canon x.1, canon x.2)
def at2 (L : List (Nat × Nat)) (i : Nat) : Nat × Nat := L.getD i (0, 0)
/-- What stands at i when the first k turns of the loop are done: sums below h, differences above. -/
def partF (h : Nat) (T E : Nat → Nat × Nat) (k i : Nat) : Nat × Nat :=
  if i < h then (if i < k then addW (E i) (T i) else (0, 0)) else (if i - h < k then subW (E (i - h)) (T (i - h)) else (0, 0))
def partL (h : Nat) (T E : Nat → Nat × Nat) (k : Nat) : List (Nat × Nat) := (List.range (h + h)).map (partF h T E k)
def turn (k : Nat) (O : List (Nat × Nat)) (j : Nat) : Nat × Nat := mulW (fac (firstW k) j) (at2 O j)
/-- The transform of 2^k numbers. -/
def trL : Nat → List (Nat × Nat) → List (Nat × Nat)
  | 0, L => [can2 (at2 L 0)]
  | k + 1, L => partL (2 ^ k) (turn (k + 1) (trL k (picks L 1 (2 ^ k)))) (at2 (trL k (picks L 0 (2 ^ k)))) (2 ^ k)

theorem partL_len (h : Nat) (T E : Nat → Nat × Nat) (k : Nat) : (partL h T E k).length = h + h := by unfold partL; simp
theorem partL_at (h : Nat) (T E : Nat → Nat × Nat) (k i : Nat) (hi : i < h + h) : (partL h T E k)[i]? = some (partF h T E k i) := by
  unfold partL; rw [List.getElem?_map, List.getElem?_range hi]; rfl
theorem partL_zero (h : Nat) (T E : Nat → Nat × Nat) : partL h T E 0 = List.replicate (h + h) (0, 0) := by
  apply List.ext_getElem?
  intro i
  by_cases hi : i < h + h
  · rw [partL_at _ _ _ _ _ hi]
    unfold partF
    simp [hi]
  · rw [List.getElem?_eq_none (by rw [partL_len]; omega), List.getElem?_eq_none (by simp; omega)]
theorem partL_step (h : Nat) (T E : Nat → Nat × Nat) (k : Nat) (hk : k < h) : ((partL h T E k).set k (addW (E k) (T k))).set (k + h) (subW (E k) (T k)) = partL h T E (k + 1) := by
  apply List.ext_getElem?
  intro i
  by_cases hi : i < h + h
  · rw [List.getElem?_set, List.getElem?_set, partL_at _ _ _ _ _ hi, partL_at _ _ _ _ _ hi]
    simp only [List.length_set, partL_len]
    by_cases h1 : k + h = i
    · subst h1
      rw [if_pos rfl, if_pos (by omega)]
      unfold partF
      rw [if_neg (by omega), if_pos (by omega), show k + h - h = k by omega]
    · rw [if_neg h1]
      by_cases h2 : k = i
      · subst h2
        rw [if_pos rfl, if_pos (by omega)]
        unfold partF
        rw [if_pos (by omega), if_pos (by omega)]
      · rw [if_neg h2]
        unfold partF
        by_cases h3 : i < h
        · rw [if_pos h3, if_pos h3]
          by_cases h4 : i < k
          · rw [if_pos h4, if_pos (by omega)]
          · rw [if_neg h4, if_neg (by omega)]
        · rw [if_neg h3, if_neg h3]
          by_cases h4 : i - h < k
          · rw [if_pos h4, if_pos (by omega)]
          · rw [if_neg h4, if_neg (by omega)]
  · rw [List.getElem?_eq_none (by simp [partL_len]; omega), List.getElem?_eq_none (by rw [partL_len]; omega)]
theorem trL_len : ∀ (k : Nat) (L : List (Nat × Nat)), (trL k L).length = 2 ^ k
  | 0, _ => rfl
  | k + 1, L => by unfold trL; rw [partL_len, Nat.pow_succ]; omega
theorem at2_at {L : List (Nat × Nat)} {i : Nat} (h : i < L.length) : L[i]? = some (at2 L i) := by
  unfold at2; rw [List.getD_eq_getElem?_getD, List.getElem?_eq_getElem h]; rfl

theorem cellsN_set : ∀ (L : List (Nat × Nat)) (q u v : Nat), ((cellsN L).set (2 * q) (.int .u32 u)).set (2 * q + 1) (.int .u32 v) = cellsN (L.set q (u, v))
  | [], _, _, _ => by simp [cellsN]
  | x :: l, 0, u, v => by simp [cellsN]
  | x :: l, q + 1, u, v => by
    rw [show 2 * (q + 1) = 2 * q + 1 + 1 by omega]
    simp only [cellsN, List.set_cons_succ]
    rw [cellsN_set l q u v]
theorem cellsN_rep : ∀ n, cellsN (List.replicate n (0, 0)) = List.replicate (n * 2) (.int .u32 0)
  | 0 => rfl
  | n + 1 => by
    rw [List.replicate_succ, show (n + 1) * 2 = n * 2 + 1 + 1 by omega, List.replicate_succ, List.replicate_succ, ← cellsN_rep n]; rfl
theorem made_rep (n : Nat) : (madeCells (Value.agg #[.int .u32 0, .int .u32 0]).cells (n * 2)).toList = cellsN (List.replicate n (0, 0)) := by
  have hz : (Value.agg #[.int .u32 0, .int .u32 0]).cells = #[.int .u32 0, .int .u32 0] := by rfl
  rw [hz, cellsN_rep]
  apply List.ext_getElem?
  intro j
  by_cases hj : j < n * 2
  · have h2 : j % 2 = 0 ∨ j % 2 = 1 := by omega
    rcases h2 with h2 | h2 <;> simp [madeCells, hj, h2]
  · simp [madeCells, hj]

theorem Ow.set2 {W : World} {base b n cap : Nat} {L : List (Nat × Nat)} (h : W.ownsRow base 32 2 (.slice (some ⟨b, 0, none⟩) n cap) n (cellsN L)) (q u v : Nat) :
    ((W.setCell ⟨b, 2 * q, none⟩ (.int .u32 u)).setCell ⟨b, 2 * q + 1, none⟩ (.int .u32 v)).ownsRow base 32 2 (.slice (some ⟨b, 0, none⟩) n cap) n (cellsN (L.set q (u, v))) ∧ W.grownBy ((W.setCell ⟨b, 2 * q, none⟩ (.int .u32 u)).setCell ⟨b, 2 * q + 1, none⟩ (.int .u32 v)) (some b) := by
  obtain ⟨h1, g1⟩ := h.stored (2 * q) (.int .u32 u)
  obtain ⟨h2, g2⟩ := h1.stored (2 * q + 1) (.int .u32 v)
  rw [cellsN_set] at h2
  exact ⟨h2, grown_trans g1 g2⟩

theorem own_some {W : World} {base n : Nat} {v : Value} {xs : List Value} (h : W.ownsRow base 32 2 v n xs) (hn : 0 < n) : ∃ g cap, v = .slice (some ⟨g, 0, none⟩) n cap ∧ base ≤ g := by
  rcases h.2 with ⟨_, h0⟩ | ⟨g, cap, cur, h1, h2, _⟩
  · omega
  · exact ⟨g, cap, h1, h2⟩

end Nu
end Go.Proofs.Ytkkdimhibfpopaa
