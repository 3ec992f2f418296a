/- Slices of numbers, nil or not: products and values; NumericProducts: the walk. -/
import Derived.Test.YtkkdimhibfpopaaU4
namespace Go.Proofs.Ytkkdimhibfpopaa
open Go.ChangeShapes Go.WideShapes Go.ChangeAt Go.RowKit Go.WideMaps Go.Maps
namespace Nu

/-- v is a slice of these numbers (nil, or empty, or not). -/
def Sl (w : World) (v : Value) (L : List (Nat × Nat)) : Prop := ∃ ao cap, v = .slice ao L.length cap ∧ (L = [] ∨ ∃ b, ao = some ⟨b, 0, none⟩ ∧ Num w b L)

theorem Sl.step {W X V : World} {v : Value} {L : List (Nat × Nat)} (h : Sl W v L) (hb : Below X.heap.size X V) (e1 : X.heap = W.heap := by rfl) : Sl V v L := by
  obtain ⟨ao, cap, rfl, h⟩ := h
  refine ⟨ao, cap, rfl, ?_⟩
  rcases h with h | ⟨b, hb', hN⟩
  · exact .inl h
  · exact .inr ⟨b, hb', hN.below e1 hb⟩
theorem Sl.of_own {W : World} {base r : Nat} {v : Value} {L : List (Nat × Nat)} (h : W.ownsRow base 32 2 v r (cellsN L)) (hL : L.length = r) : Sl W v L := by
  have h0 := h
  rcases h.2 with ⟨rfl, h1⟩ | ⟨g, cap, cur, rfl, _⟩
  · exact ⟨none, 0, by rw [hL, h1], .inl (List.eq_nil_of_length_eq_zero (by omega))⟩
  · exact ⟨_, cap, by rw [hL], .inr ⟨g, rfl, Num.of_own h0⟩⟩

theorem poly_sl (v : Value) (L : List (Nat × Nat)) (x : Nat × Nat) (w : World) (h : Sl w v L) (h200 : L.length ≤ 200) :
    Calls Try.prog 28 #[v, .agg #[.int .u32 x.1, .int .u32 x.2]] w fun e w' => e = .returned (.agg #[.int .u32 (polyW L x).1, .int .u32 (polyW L x).2]) ∧ Below w.heap.size w w' := by
  obtain ⟨ao, cap, rfl, h⟩ := h
  by_cases hl : L.length = 0
  · have e : polyW L x = (0, 0) := by unfold polyW; rw [if_pos hl]
    rw [e, hl]
    exact poly_nil ao cap x.1 x.2 w
  · rcases h with h | ⟨b, rfl, hN⟩
    · rw [h] at hl; simp at hl
    · exact poly_any L.length b cap L x w rfl (by omega) h200 hN

theorem prod_sl (va vb : Value) (A B : List (Nat × Nat)) (w : World) (ha : Sl w va A) (hb : Sl w vb B) (h1 : A.length ≤ 64) (h2 : B.length ≤ 64) :
    Calls Try.prog 30 #[va, vb] w fun e w' => ∃ v, e = .returned (.tuple #[v, .int .i64 0]) ∧ Sl w' v (prodW A B) ∧ Below w.heap.size w w' := by
  obtain ⟨ao, ca, rfl, ha⟩ := ha
  obtain ⟨bo, cb, rfl, hb⟩ := hb
  by_cases hl : A.length = 0
  · have e : prodW A B = [] := by unfold prodW; rw [if_pos (.inl hl)]
    rw [e, hl]
    refine (prod_nil_l ao bo B.length ca cb w h2).mono ?_
    rintro e w' ⟨rfl, hb⟩
    exact ⟨_, rfl, ⟨none, 0, rfl, .inl rfl⟩, hb⟩
  · by_cases hm : B.length = 0
    · have e : prodW A B = [] := by unfold prodW; rw [if_pos (.inr hm)]
      rw [e, hm]
      refine (prod_nil_r ao bo A.length ca cb w (by omega) h1).mono ?_
      rintro e w' ⟨rfl, hb⟩
      exact ⟨_, rfl, ⟨none, 0, rfl, .inl rfl⟩, hb⟩
    · rcases ha with ha | ⟨ba, rfl, hNa⟩
      · rw [ha] at hl; simp at hl
      rcases hb with hb | ⟨bb, rfl, hNb⟩
      · rw [hb] at hm; simp at hm
      have e : prodW A B = outP A B A.length := by unfold prodW; rw [if_neg (by omega)]
      rw [e]
      refine (prod_any A.length B.length ba bb ca cb A B w rfl rfl (by omega) (by omega) h1 h2 hNa hNb).mono ?_
      rintro e w' ⟨g, cap, rfl, hn, hb⟩
      exact ⟨_, rfl, ⟨_, cap, by rw [outP_len], .inr ⟨g, rfl, hn⟩⟩, hb⟩

def cw (K : List (Int × Int)) (j : Nat) : Nat × Nat := (wd ((ai K j).1.tmod 10), wd ((ai K j).2.tmod 10))
theorem cut0 (K : List (Int × Int)) : cutN K 0 = [] := rfl
theorem cut1 (K : List (Int × Int)) : cutN K 1 = [cw K 0] := rfl
theorem cut2 (K : List (Int × Int)) : cutN K 2 = [cw K 0, cw K 1] := rfl
theorem cut3 (K : List (Int × Int)) : cutN K 3 = [cw K 0, cw K 1, cw K 2] := rfl
theorem RB.mono {x : Nat × Nat} {p : Int × Int} {B C : Int} (h : RB x p B) (hB : B ≤ C) : RB x p C := ⟨h.rp, by have := h.b1; omega, by have := h.b2; omega⟩
theorem RB.cw (K : List (Int × Int)) (j : Nat) : RB (Nu.cw K j) ((ai K j).1.tmod 10, (ai K j).2.tmod 10) 9 := RB.wd (by have := tmod_ten (ai K j).1; omega) (by have := tmod_ten (ai K j).2; omega) (by decide)

theorem horn_cut (K : List (Int × Int)) (r : Nat) (z : Nat × Nat) (c : Int × Int) (hr : r ≤ 3) (hz : RB z c 3) : ∃ q, RB (polyW (cutN K r) z) q 400 := by
  rcases (show r = 0 ∨ r = 1 ∨ r = 2 ∨ r = 3 by omega) with rfl | rfl | rfl | rfl
  · exact ⟨_, RB.zero.mono (by decide)⟩
  · exact ⟨_, (RB.can (RB.cw K 0)).mono (by decide)⟩
  · exact ⟨_, (RB.add (RB.cw K 0) (RB.mul hz (RB.can (RB.cw K 1)) (by decide)) (by decide)).mono (by decide)⟩
  · exact ⟨_, (RB.add (RB.cw K 0) (RB.mul hz (RB.add (RB.cw K 1) (RB.mul hz (RB.can (RB.cw K 2)) (by decide)) (by decide)) (by decide)) (by decide)).mono (by decide)⟩

theorem zero_rp : RpN (0, 0) 0 0 := RB.zero.rp

/-- The law's equation, for what its closure cuts. -/
theorem eval_cut (K M : List (Int × Int)) (r s : Nat) (z : Nat × Nat) (c : Int × Int) (hr : r ≤ 3) (hs : s ≤ 3) (hz : RB z c 3) :
    ∃ p q, RpN (polyW (prodW (cutN K r) (cutN M s)) z) p q ∧ RpN (mulW (polyW (cutN K r) z) (polyW (cutN M s) z)) p q := by
  obtain ⟨u, hu⟩ := horn_cut K r z c hr hz
  obtain ⟨v, hv⟩ := horn_cut M s z c hs hz
  have hnil : prodW (cutN K r) (cutN M s) = [] → (polyW (cutN K r) z = (0, 0) ∨ polyW (cutN M s) z = (0, 0)) → ∃ p q, RpN (polyW (prodW (cutN K r) (cutN M s)) z) p q ∧ RpN (mulW (polyW (cutN K r) z) (polyW (cutN M s) z)) p q := by
    intro h1 h2
    refine ⟨0, 0, by rw [h1]; exact zero_rp, ?_⟩
    rcases h2 with h2 | h2
    · rw [h2]
      exact rp_eq (RB.mul RB.zero hv (by decide)).rp (by simp [cm]) (by simp [cm])
    · rw [h2]
      exact rp_eq (RB.mul hu RB.zero (by decide)).rp (by simp [cm]) (by simp [cm])
  rcases (show r = 0 ∨ r = 1 ∨ r = 2 ∨ r = 3 by omega) with rfl | rfl | rfl | rfl <;> rcases (show s = 0 ∨ s = 1 ∨ s = 2 ∨ s = 3 by omega) with rfl | rfl | rfl | rfl
  · exact hnil rfl (.inl rfl)
  · exact hnil rfl (.inl rfl)
  · exact hnil rfl (.inl rfl)
  · exact hnil rfl (.inl rfl)
  · exact hnil rfl (.inr rfl)
  · rw [cut1, cut1]; exact eval_11 (RB.cw K 0) (RB.cw M 0) hz
  · rw [cut1, cut2]; exact eval_12 (RB.cw K 0) (RB.cw M 0) (RB.cw M 1) hz
  · rw [cut1, cut3]; exact eval_13 (RB.cw K 0) (RB.cw M 0) (RB.cw M 1) (RB.cw M 2) hz
  · exact hnil rfl (.inr rfl)
  · rw [cut2, cut1]; exact eval_21 (RB.cw K 0) (RB.cw K 1) (RB.cw M 0) hz
  · rw [cut2, cut2]; exact eval_22 (RB.cw K 0) (RB.cw K 1) (RB.cw M 0) (RB.cw M 1) hz
  · rw [cut2, cut3]; exact eval_23 (RB.cw K 0) (RB.cw K 1) (RB.cw M 0) (RB.cw M 1) (RB.cw M 2) hz
  · exact hnil rfl (.inr rfl)
  · rw [cut3, cut1]; exact eval_31 (RB.cw K 0) (RB.cw K 1) (RB.cw K 2) (RB.cw M 0) hz
  · rw [cut3, cut2]; exact eval_32 (RB.cw K 0) (RB.cw K 1) (RB.cw K 2) (RB.cw M 0) (RB.cw M 1) hz
  · rw [cut3, cut3]; exact eval_33 (RB.cw K 0) (RB.cw K 1) (RB.cw K 2) (RB.cw M 0) (RB.cw M 1) (RB.cw M 2) hz

end Nu
end Go.Proofs.Ytkkdimhibfpopaa
