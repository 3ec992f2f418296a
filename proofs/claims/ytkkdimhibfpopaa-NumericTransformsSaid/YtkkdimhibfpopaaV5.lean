/- Contracts: lists of the program and of the reference that are alike; slices that may be nil, on the reference's side. -/
import Derived.Test.YtkkdimhibfpopaaU5
import Derived.Test.YtkkdimhibfpopaaV4
namespace Go.Proofs.Ytkkdimhibfpopaa
open Go.ChangeShapes Go.WideShapes Go.ChangeAt Go.RowKit Go.WideMaps Go.Maps
namespace Nu

theorem Sl.of_row {W : World} {base r : Nat} {t : TypeId} {v : Value} {L : List (Nat × Nat)} (h : W.ownsRow base t 2 v r (cellsN L)) (hL : L.length = r) : Sl W v L := by
  have h0 := h
  rcases h.2 with ⟨rfl, h1⟩ | ⟨g, cap, cur, rfl, _⟩
  · exact ⟨none, 0, by rw [hL, h1], .inl (List.eq_nil_of_length_eq_zero (by omega))⟩
  · refine ⟨_, cap, by rw [hL], .inr ⟨g, rfl, ?_⟩⟩
    have hl := h0.1
    rw [cellsN_len] at hl
    intro j x hx
    have hj : j < L.length := (List.getElem?_eq_some_iff.1 hx).1
    obtain ⟨a, b⟩ := cellsN_at L j x hx
    exact ⟨(h0.cellAt (2 * j) (by omega)).trans a, (h0.cellAt (2 * j + 1) (by omega)).trans b⟩

theorem rpoly_sl (v : Value) (L : List (Nat × Nat)) (x : Nat × Nat) (w : World) (h : Sl w v L) (h200 : L.length ≤ 200) :
    Calls Try.prog 29 #[v, .agg #[.int .u32 x.1, .int .u32 x.2]] w fun e w' => e = .returned (.agg #[.int .u32 (polyW L x).1, .int .u32 (polyW L x).2]) ∧ Below w.heap.size w w' := by
  obtain ⟨ao, cap, rfl, h⟩ := h
  by_cases hl : L.length = 0
  · have e : polyW L x = (0, 0) := by unfold polyW; rw [if_pos hl]
    rw [e, hl]
    exact rpoly_nil ao cap x.1 x.2 w
  · rcases h with h | ⟨b, rfl, hN⟩
    · rw [h] at hl; simp at hl
    · exact rpoly_any L.length b cap L x w rfl (by omega) h200 hN

theorem rprod_nil (ao bo : Option Addr) (n k ca cb : Nat) (w : World) (hn : n ≤ 64) (hk : k ≤ 64) (h0 : n = 0 ∨ k = 0) : Calls Try.prog 31 #[.slice ao n ca, .slice bo k cb] w fun e w' => ∃ v, e = .returned (.tuple #[v, .int .i64 0]) ∧ Sl w' v [] ∧ Below w.heap.size w w' := by
  have i1 : ¬ (64 : Int) < n := by omega
  have i2 : ¬ (64 : Int) < k := by omega
  have hb0 : Below w.heap.size w (w.alloc (.cells #[] 38)) := (Below.refl _ _).alloc (Nat.le_refl _) _
  have HB := Lib.hid hb0
  clear hb0
  by_cases h1 : n = 0
  · subst h1
    go_enter Try.func31, Try.ntmps31
    go_wp2_with fail
    go_loopw [6, 7] (fun out v wr => out = .slice (some ⟨w.heap.size, 0, none⟩) 0 0 ∧ v = .int .i64 0 ∧ Below w.heap.size w wr) (fun _ _ _ => 0)
    case atStart => exact ⟨rfl, rfl, HB.out⟩
    case round =>
      obtain ⟨rfl, rfl, hb⟩ := hrel
      go_wp2
      go_ret2
      exact ⟨_, rfl, ⟨_, 0, rfl, .inl rfl⟩, hb⟩
  · have h2 : k = 0 := by omega
    subst h2
    have i3 : (0 : Int) < n := by omega
    clear h0 h1
    go_enter Try.func31, Try.ntmps31
    go_wp2_with fail
    go_loopw [6, 7] (fun out v wr => out = .slice (some ⟨w.heap.size, 0, none⟩) 0 0 ∧ v = .int .i64 0 ∧ Below w.heap.size w wr) (fun _ _ _ => 0)
    case atStart => exact ⟨rfl, rfl, HB.out⟩
    case round =>
      obtain ⟨rfl, rfl, hb⟩ := hrel
      go_wp2
      go_ret2
      exact ⟨_, rfl, ⟨_, 0, rfl, .inl rfl⟩, hb⟩

theorem rprod_sl (va vb : Value) (A B : List (Nat × Nat)) (w : World) (ha : Sl w va A) (hb : Sl w vb B) (h1 : A.length ≤ 64) (h2 : B.length ≤ 64) :
    Calls Try.prog 31 #[va, vb] w fun e w' => ∃ v, e = .returned (.tuple #[v, .int .i64 0]) ∧ Sl w' v (prodW A B) ∧ Below w.heap.size w w' := by
  obtain ⟨ao, ca, rfl, ha⟩ := ha
  obtain ⟨bo, cb, rfl, hb⟩ := hb
  by_cases hl : A.length = 0 ∨ B.length = 0
  · have e : prodW A B = [] := by unfold prodW; rw [if_pos hl]
    rw [e]
    exact rprod_nil ao bo A.length B.length ca cb w h1 h2 hl
  · rcases ha with ha | ⟨ba, rfl, hNa⟩
    · rw [ha] at hl; simp at hl
    rcases hb with hb | ⟨bb, rfl, hNb⟩
    · rw [hb] at hl; simp at hl
    have e : prodW A B = sums A B (A.length + B.length - 1) := by unfold prodW; rw [if_neg hl, outP_sums A B (by omega)]
    rw [e]
    refine (rprod_any A.length B.length ba bb ca cb A B w rfl rfl (by omega) (by omega) h1 h2 hNa hNb).mono ?_
    rintro e w' ⟨v, rfl, ho, hb⟩
    exact ⟨_, rfl, Sl.of_row ho (sums_len _ _ _), hb⟩

theorem prod_big (ao bo : Option Addr) (n k ca cb : Nat) (w : World) (h : 64 < n ∨ 64 < k) : Calls Try.prog 30 #[.slice ao n ca, .slice bo k cb] w fun e w' => e = .returned (.tuple #[.slice none 0 0, .int .i64 4]) ∧ Below w.heap.size w w' := by
  by_cases h1 : 64 < n
  · have i1 : (64 : Int) < n := by omega
    go_enter Try.func30, Try.ntmps30
    go_wp2
    go_ret2
    exact ⟨rfl, Below.refl _ _⟩
  · have i1 : ¬ (64 : Int) < n := by omega
    have i2 : (64 : Int) < k := by omega
    go_enter Try.func30, Try.ntmps30
    go_wp2
    go_ret2
    exact ⟨rfl, Below.refl _ _⟩
theorem rprod_big (ao bo : Option Addr) (n k ca cb : Nat) (w : World) (h : 64 < n ∨ 64 < k) : Calls Try.prog 31 #[.slice ao n ca, .slice bo k cb] w fun e w' => e = .returned (.tuple #[.slice none 0 0, .int .i64 4]) ∧ Below w.heap.size w w' := by
  by_cases h1 : 64 < n
  · have i1 : (64 : Int) < n := by omega
    go_enter Try.func31, Try.ntmps31
    go_wp2
    go_ret2
    exact ⟨rfl, Below.refl _ _⟩
  · have i1 : ¬ (64 : Int) < n := by omega
    have i2 : (64 : Int) < k := by omega
    go_enter Try.func31, Try.ntmps31
    go_wp2
    go_ret2
    exact ⟨rfl, Below.refl _ _⟩

/-- What both products answer: the list, and the error's number. -/
def prodE (A B : List (Nat × Nat)) : List (Nat × Nat) × Int := if 64 < A.length ∨ 64 < B.length then ([], 4) else (prodW A B, 0)
theorem prod_both (va vb : Value) (A B : List (Nat × Nat)) (w : World) (ha : Sl w va A) (hb : Sl w vb B) :
    (Calls Try.prog 30 #[va, vb] w fun e w' => ∃ v, e = .returned (.tuple #[v, .int .i64 (prodE A B).2]) ∧ Sl w' v (prodE A B).1 ∧ Below w.heap.size w w') ∧
    (Calls Try.prog 31 #[va, vb] w fun e w' => ∃ v, e = .returned (.tuple #[v, .int .i64 (prodE A B).2]) ∧ Sl w' v (prodE A B).1 ∧ Below w.heap.size w w') := by
  by_cases h : 64 < A.length ∨ 64 < B.length
  · have e : prodE A B = ([], 4) := by unfold prodE; rw [if_pos h]
    rw [e]
    obtain ⟨ao, ca, rfl, _⟩ := ha
    obtain ⟨bo, cb, rfl, _⟩ := hb
    constructor
    · refine (prod_big ao bo A.length B.length ca cb w h).mono ?_
      rintro e w' ⟨rfl, hb⟩
      exact ⟨_, rfl, ⟨none, 0, rfl, .inl rfl⟩, hb⟩
    · refine (rprod_big ao bo A.length B.length ca cb w h).mono ?_
      rintro e w' ⟨rfl, hb⟩
      exact ⟨_, rfl, ⟨none, 0, rfl, .inl rfl⟩, hb⟩
  · have e : prodE A B = (prodW A B, 0) := by unfold prodE; rw [if_neg h]
    rw [e]
    exact ⟨prod_sl va vb A B w ha hb (by omega) (by omega), rprod_sl va vb A B w ha hb (by omega) (by omega)⟩

set_option maxHeartbeats 2000000 in
theorem alike_any (va vb : Value) (L : List (Nat × Nat)) (w : World) (ha : Sl w va L) (hb : Sl w vb L) (h200 : L.length ≤ 200) :
    Calls Try.prog 12 #[va, vb] w fun e w' => e = .returned (.bool true) ∧ Below w.heap.size w w' := by
  obtain ⟨ao, ca, rfl, ha⟩ := ha
  obtain ⟨bo, cb, rfl, hb⟩ := hb
  obtain ⟨n, hn⟩ : ∃ n, n = L.length := ⟨_, rfl⟩
  rw [← hn] at h200 ⊢
  have i1 : (n : Int) ≤ 200 := by omega
  have HN := Lib.hid hn
  have HA := Lib.hid ha
  have HB := Lib.hid hb
  clear hn ha hb h200
  go_enter Try.func12, Try.ntmps12
  go_wp2_with fail
  go_loopw [13] (fun v wr => ∃ j : Nat, v = .int .i64 j ∧ j ≤ n ∧ Below w.heap.size w wr) (fun v _ => 300 - (intOf v).toNat)
  case atStart => exact ⟨0, rfl, Nat.zero_le _, Below.refl _ _⟩
  case round =>
    obtain ⟨j, rfl, hj, hfr⟩ := hrel
    have HF := Lib.hid hfr
    have HJ := Lib.hid hj
    clear hj hfr
    by_cases hlt : j < n
    · obtain ⟨x, hx⟩ : ∃ x, x = at2 L j := ⟨_, rfl⟩
      have hat : L[j]? = some x := by rw [hx]; exact at2_at (by rw [← HN.out]; exact hlt)
      have hne : L ≠ [] := fun e => by have := HN.out; rw [e] at this; simp at this; omega
      obtain ⟨b, rfl, hNb⟩ := HA.out.resolve_left hne
      obtain ⟨c, rfl, hNc⟩ := HB.out.resolve_left hne
      obtain ⟨x0, x1⟩ := (hNb.below rfl HF.out) j x hat
      obtain ⟨y0, y1⟩ := (hNc.below rfl HF.out) j x hat
      rw [Nat.mul_comm] at x0 x1 y0 y1
      have i3 : (j : Int) < n := by omega
      have i4 : (0 : Int) ≤ j := by omega
      have HLT := Lib.hid hlt
      clear hx hat hne hNb hNc hlt
      go_wp2_with fail
      go_quiet (fail)
      go_wp2
      go_roundw
      case rel => exact ⟨j + 1, congrArg (Value.int .i64) (by omega), by have := HLT.out; omega, HF.out.trans (below_drewN (Below.refl _ _) _)⟩
      case measure => simp [intOf]; omega
    · have hjn : j = n := by have := HJ.out; omega
      have i3 : ¬ (j : Int) < n := by omega
      clear hlt hjn
      go_wp2
      go_ret
      exact ⟨rfl, HF.out⟩

end Nu
end Go.Proofs.Ytkkdimhibfpopaa
