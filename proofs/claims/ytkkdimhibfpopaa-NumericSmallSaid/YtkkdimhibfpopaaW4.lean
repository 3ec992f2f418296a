/- Contracts: the law's small numbers, equal lists of numbers and of words. -/
import Derived.Test.YtkkdimhibfpopaaW3
import Derived.BigQuiet
namespace Go.Proofs.Ytkkdimhibfpopaa
open Go.ChangeShapes Go.WideShapes Go.ChangeAt Go.RowKit Go.WideMaps Go.Maps
namespace Nu

/-- Small integers as numbers. -/
def smallN (c : Int × Int) : Nat × Nat := (wd (c.1.tmod 1001), wd (c.2.tmod 1001))
def numL (K : Nat → Int × Int) (n : Nat) : List (Nat × Nat) := (List.range n).map fun j => smallN (K j)
theorem numL_snoc (K : Nat → Int × Int) (n : Nat) : numL K (n + 1) = numL K n ++ [smallN (K n)] := by unfold numL; rw [List.range_succ, List.map_append]; rfl
theorem numL_len (K : Nat → Int × Int) (n : Nat) : (numL K n).length = n := by unfold numL; simp
theorem numL_at (K : Nat → Int × Int) (n j : Nat) (h : j < n) : at2 (numL K n) j = smallN (K j) := by
  unfold numL at2; rw [List.getD_eq_getElem?_getD, List.getElem?_map, List.getElem?_range h]; rfl

theorem tmod_small (a : Int) : -1000 ≤ a.tmod 1001 ∧ a.tmod 1001 ≤ 1000 := by
  have h1 := Int.lt_tmod_of_pos a (show (0 : Int) < 1001 by omega)
  have h2 := Int.tmod_lt_of_pos a (show (0 : Int) < 1001 by omega)
  omega

set_option maxRecDepth 100000 in
set_option maxHeartbeats 4000000 in
theorem numbers_any (n b cap : Nat) (K : Nat → Int × Int) (w : World) (h4 : n ≤ 4) (hK : ∀ j, -32768 ≤ (K j).1 ∧ (K j).1 ≤ 32767 ∧ -32768 ≤ (K j).2 ∧ (K j).2 ≤ 32767)
    (hc : ∀ j, j < n → w.cell? ⟨b, j * 2, none⟩ = some (.int .i16 (K j).1) ∧ w.cell? ⟨b, j * 2 + 1, none⟩ = some (.int .i16 (K j).2)) (hb : b < w.heap.size) :
    Calls Try.prog 42 #[.slice (some ⟨b, 0, none⟩) n cap] w fun e w' => ∃ v, e = .returned v ∧ w'.ownsRow w.heap.size 32 2 v n (cellsN (numL K n)) ∧ Below w.heap.size w w' := by
  obtain ⟨z0, hz0, hz1, hz2, hz3⟩ := info_parts info32
  have i1 : (n : Int) ≤ 4 := by omega
  have HC := Lib.hid hc
  have HB := Lib.hid hb
  have HK := Lib.hid hK
  have H4 := Lib.hid h4
  clear hc hb hK h4
  go_enter Try.func42, Try.ntmps42
  go_wp2_with fail
  go_loopw [3, 8] (fun out v wr => ∃ j : Nat, v = .int .i64 j ∧ j ≤ n ∧ wr.ownsRow w.heap.size 32 2 out j (cellsN (numL K j)) ∧ Below w.heap.size w wr) (fun _ v _ => 100 - (intOf v).toNat)
  case atStart => exact ⟨0, rfl, Nat.zero_le _, World.ownsRow_nil _ _ _ _, Below.refl _ _⟩
  case round =>
    obtain ⟨j, rfl, hj, hown, hfr⟩ := hrel
    have HO := Lib.hid hown
    have HF := Lib.hid hfr
    have HJ := Lib.hid hj
    clear hown hfr hj
    by_cases hlt : j < n
    · obtain ⟨x, hx⟩ : ∃ x, x = K j := ⟨_, rfl⟩
      obtain ⟨x0, x1⟩ := HC.out j hlt
      have x0 := (HF.out.cell (p := ⟨b, j * 2, none⟩) HB.out).trans x0
      have x1 := (HF.out.cell (p := ⟨b, j * 2 + 1, none⟩) HB.out).trans x1
      have hkb := HK.out j
      rw [← hx] at x0 x1 hkb
      have i3 : (j : Int) < n := by omega
      have i4 : (0 : Int) ≤ j := by omega
      have HX := Lib.hid hx
      have HLT := Lib.hid hlt
      have HKB := Lib.hid hkb
      clear hx hlt hkb
      go_wp2_with fail
      have c0 := (new_cell wr #[.int .i16 x.1, .int .i16 x.2] 64 0 (.int .i16 x.1) rfl).1
      have c1 := (new_cell wr #[.int .i16 x.1, .int .i16 x.2] 64 1 (.int .i16 x.2) rfl).1
      have HF1 := Lib.hid (HF.out.alloc HF.out.size (.cells #[.int .i16 x.1, .int .i16 x.2] 64))
      have HO1 := Lib.hid (HO.out.alloc (.cells #[.int .i16 x.1, .int .i16 x.2] 64))
      obtain ⟨W, hW⟩ : ∃ W, W = wr.alloc (.cells #[.int .i16 x.1, .int .i16 x.2] 64) := ⟨_, rfl⟩
      rw [← hW] at c0 c1 HF1 HO1 ⊢
      clear hW x0 x1
      go_region_law ((first
        | (go_simp; go_at_call 40
           first
             | (refine (small_any x.1 _ HKB.out.1 HKB.out.2.1).mono ?_; rintro e w3 ⟨rfl, rfl⟩; go_simp)
             | (refine (small_any x.2 _ HKB.out.2.2.1 HKB.out.2.2.2).mono ?_; rintro e w3 ⟨rfl, rfl⟩; go_simp))
        | (go_simp; go_at_call 39; refine (of_int _ _ _).mono ?_; rintro e w3 ⟨rfl, hb3⟩
           have HO3 := Lib.hid (own_below HO1.out hb3)
           have HF3 := Lib.hid (HF1.out.grown (grown_same (below_grown hb3 rfl rfl rfl rfl none)) HF1.out.size (by simp))
           clear hb3 c0 c1
           obtain ⟨u, hu⟩ : ∃ u, u = wd (x.1.tmod 1001) := ⟨_, rfl⟩
           obtain ⟨v, hv⟩ : ∃ v, v = wd (x.2.tmod 1001) := ⟨_, rfl⟩
           rw [← hu, ← hv]
           have HU := Lib.hid hu
           have HV := Lib.hid hv
           clear hu hv
           unfold num; go_simp)
        | (refine step_append_lies _ (by rfl) _ _ _ (by rfl) w.heap.size 32 z0 (.agg #[.int .u32 0, .int .u32 0]) 2 8 Try.underlying24 hz0 hz1 hz2 hz3 rfl (by decide) _ j _ (by rfl) (HO3.out.alloc _) ⟨w3.heap.size, 0, none⟩ 1 1 [.int .u32 u, .int .u32 v] (by rfl) rfl (cell_two_new _ _ _ _) (by simp [Value.oneCell']) (by omega) (by have := H4.out; have := HLT.out; unfold maxLen; omega) (by have := H4.out; have := HLT.out; omega) (by have := HF3.out.size; simp; omega) (w3.heap.size + 1) (by simp) ?_; intro g4 cap4 w4 hown4 hgrow4 hat4 hlt4; have HO4 := Lib.hid hown4; have HG4 := Lib.hid hgrow4; clear hown4 hgrow4 hat4 hlt4)))
      all_goals
        have hF4 : Below w.heap.size w w4 := (HF3.out.alloc HF3.out.size _).grown HG4.out (by have := HF3.out.size; simp; omega) (fun k e => (HO.out.lt k e).1)
        have hO4 : w4.ownsRow w.heap.size 32 2 (.slice (some ⟨g4, 0, none⟩) (j + 1) cap4) (j + 1) (cellsN (numL K (j + 1))) := by
          rw [numL_snoc, cellsN_append, ← HX.out]
          show w4.ownsRow _ _ _ _ _ (_ ++ [.int .u32 (wd (x.1.tmod 1001)), .int .u32 (wd (x.2.tmod 1001))])
          rw [← HU.out, ← HV.out]
          exact HO4.out
        have HF5 := Lib.hid hF4
        have HO5 := Lib.hid hO4
        clear hF4 hO4
        simp only [List.getElem_toArray, List.getElem_cons_succ, List.getElem_cons_zero]
        simp only [Act.put, List.setIfInBounds_toArray, List.set_cons_zero, List.set_cons_succ]
        go_wp2
        go_roundw
        case rel => exact ⟨j + 1, congrArg (Value.int .i64) (by omega), by have := HLT.out; omega, HO5.out, HF5.out⟩
        case measure => simp [intOf]; omega
    · have hjr : j = n := by have := HJ.out; omega
      have HJR := Lib.hid hjr
      have i3 : ¬ (j : Int) < n := by omega
      clear hlt hjr
      go_wp2
      go_ret
      refine ⟨_, rfl, ?_, HF.out⟩
      have := HO.out
      rw [HJR.out] at this
      exact this

set_option maxRecDepth 100000 in
set_option maxHeartbeats 4000000 in
theorem equalFunc_yes (n a b ca cb : Nat) (A B : List (Nat × Nat)) (w : World) (hA : A.length = n) (hB : B.length = n) (h64 : n ≤ 64) (hNa : Num w a A) (hNb : Num w b B) (hE : ∀ j, j < n → ∃ p q, RpN (at2 A j) p q ∧ RpN (at2 B j) p q) :
    Calls Try.prog 64 #[.slice (some ⟨a, 0, none⟩) n ca, .slice (some ⟨b, 0, none⟩) n cb, .func (.func 41) #[] #[]] w fun e w' => e = .returned (.bool true) ∧ Below w.heap.size w w' := by
  have HLA := Lib.hid hA
  have HLB := Lib.hid hB
  have HNA := Lib.hid hNa
  have HNB := Lib.hid hNb
  have HE := Lib.hid hE
  have H64 := Lib.hid h64
  clear hA hB hNa hNb hE h64
  go_enter Try.func64, Try.ntmps64
  go_wp2_with fail
  go_loopw [17] (fun v wr => ∃ j : Nat, v = .int .i64 j ∧ j ≤ n ∧ At w wr []) (fun v _ => 100 - (intOf v).toNat)
  case atStart => exact ⟨0, rfl, Nat.zero_le _, At.first _⟩
  case round =>
    obtain ⟨j, rfl, hj, hat⟩ := hrel
    have HJ := Lib.hid hj
    by_cases hlt : j < n
    · obtain ⟨x, hx⟩ : ∃ x, x = at2 A j := ⟨_, rfl⟩
      obtain ⟨y, hy⟩ : ∃ y, y = at2 B j := ⟨_, rfl⟩
      obtain ⟨x0, x1⟩ := (HNA.out.below rfl hat.below) j x (by rw [hx]; exact at2_at (by rw [HLA.out]; exact hlt))
      have hNb1 := HNB.out.below rfl (hat.below.alloc hat.below.size (.cells #[.int .u32 x.1, .int .u32 x.2] 32))
      obtain ⟨y0, y1⟩ := hNb1 j y (by rw [hy]; exact at2_at (by rw [HLB.out]; exact hlt))
      obtain ⟨p, q, hp, hq⟩ := HE.out j hlt
      rw [← hx] at hp
      rw [← hy] at hq
      rw [Nat.mul_comm] at x0 x1 y0 y1
      have hA2 := (hat.two (.int .u32 x.1) (.int .u32 x.2) 32 _ rfl).two (.int .u32 y.1) (.int .u32 y.2) 32 (wr.heap.size + 1) (by simp)
      obtain ⟨⟨d0, g0⟩, ⟨d1, g1⟩, ⟨c0, f0⟩, ⟨c1, f1⟩, -⟩ := hA2.mem
      have HA2 := Lib.hid hA2
      have i2 : (j : Int) < n := by omega
      have i3 : (0 : Int) ≤ j := by omega
      have i4 : (n : Int) ≤ 64 := by have := H64.out; omega
      have HLT := Lib.hid hlt
      have HP := Lib.hid hp
      have HQ := Lib.hid hq
      clear hx hy hNb1 hp hq hA2 hj hlt hat
      go_wp2_with (go_at_call 41; refine (equal_yes (x := x) (y := y) HP.out HQ.out _).mono ?_; rintro e w3 ⟨rfl, hb3⟩; have HA3 := Lib.hid (HA2.out.step hb3); clear hb3 x0 x1 y0 y1 c0 c1 d0 d1 f0 f1 g0 g1)
      go_roundw
      case rel => exact ⟨j + 1, congrArg (Value.int .i64) (by omega), by have := HLT.out; omega, ⟨HA3.out.below, trivial⟩⟩
      case measure => have := HLT.out; have := H64.out; simp [intOf]; omega
    · have i2 : ¬ (j : Int) < n := by omega
      have HB := Lib.hid hat.below
      clear hlt hat hj
      go_wp2
      go_ret
      exact ⟨rfl, HB.out⟩

theorem same_yes (n a b ca cb : Nat) (A B : List (Nat × Nat)) (w : World) (hA : A.length = n) (hB : B.length = n) (h64 : n ≤ 64) (hNa : Num w a A) (hNb : Num w b B) (hE : ∀ j, j < n → ∃ p q, RpN (at2 A j) p q ∧ RpN (at2 B j) p q) :
    Calls Try.prog 43 #[.slice (some ⟨a, 0, none⟩) n ca, .slice (some ⟨b, 0, none⟩) n cb] w fun e w' => e = .returned (.bool true) ∧ Below w.heap.size w w' := by
  have H := Lib.hid (equalFunc_yes n a b ca cb A B w hA hB h64 hNa hNb hE)
  clear hA hB h64 hNa hNb hE
  go_enter Try.func43, Try.ntmps43
  go_wp2_with (go_at_call 64; refine H.out.mono ?_; rintro e w1 ⟨rfl, hb⟩; have HB := Lib.hid hb; clear hb)
  go_ret
  exact ⟨rfl, HB.out⟩

set_option maxRecDepth 100000 in
set_option maxHeartbeats 4000000 in
theorem equal32_yes (n a b ca cb : Nat) (S : List Nat) (w : World) (hS : S.length = n) (h100 : n ≤ 100) (hNa : Wrd w a S) (hNb : Wrd w b S) :
    Calls Try.prog 38 #[.slice (some ⟨a, 0, none⟩) n ca, .slice (some ⟨b, 0, none⟩) n cb] w fun e w' => e = .returned (.bool true) ∧ Below w.heap.size w w' := by
  have HS := Lib.hid hS
  have HNA := Lib.hid hNa
  have HNB := Lib.hid hNb
  have H100 := Lib.hid h100
  clear hS hNa hNb h100
  go_enter Try.func38, Try.ntmps38
  go_wp2_with fail
  go_loopw [13] (fun v wr => ∃ j : Nat, v = .int .i64 j ∧ j ≤ n ∧ Below w.heap.size w wr) (fun v _ => 150 - (intOf v).toNat)
  case atStart => exact ⟨0, rfl, Nat.zero_le _, Below.refl _ _⟩
  case round =>
    obtain ⟨j, rfl, hj, hbw⟩ := hrel
    have HJ := Lib.hid hj
    have HB := Lib.hid hbw
    clear hj hbw
    by_cases hlt : j < n
    · obtain ⟨x, hx⟩ : ∃ x, x = at1 S j := ⟨_, rfl⟩
      have x0 := (HNA.out.below rfl HB.out) j x (by rw [hx]; exact at1_at (by rw [HS.out]; exact hlt))
      have y0 := (HNB.out.below rfl HB.out) j x (by rw [hx]; exact at1_at (by rw [HS.out]; exact hlt))
      have i2 : (j : Int) < n := by omega
      have i3 : (0 : Int) ≤ j := by omega
      have i4 : (n : Int) ≤ 100 := by have := H100.out; omega
      have HLT := Lib.hid hlt
      clear hx hlt
      go_wp2_with fail
      go_quiet (fail)
      clear x0 y0
      go_wp2
      go_roundw
      case rel => exact ⟨j + 1, congrArg (Value.int .i64) (by omega), by have := HLT.out; omega, HB.out.trans (below_drewN (Below.refl _ _) _)⟩
      case measure => have := HLT.out; have := H100.out; simp [intOf]; omega
    · have i2 : ¬ (j : Int) < n := by omega
      clear hlt
      go_wp2
      go_ret
      exact ⟨rfl, HB.out⟩

end Nu
end Go.Proofs.Ytkkdimhibfpopaa
