/- Contracts: the law's closure that cuts small numbers out of an array. -/
import Derived.Test.YtkkdimhibfpopaaU2
namespace Go.Proofs.Ytkkdimhibfpopaa
open Go.ChangeShapes Go.WideShapes Go.ChangeAt Go.RowKit Go.WideMaps Go.Maps
namespace Nu

def ai (K : List (Int × Int)) (j : Nat) : Int × Int := K.getD j (0, 0)
def cutN (K : List (Int × Int)) (r : Nat) : List (Nat × Nat) := (List.range r).map fun j => (wd ((ai K j).1.tmod 10), wd ((ai K j).2.tmod 10))
theorem cutN_snoc (K : List (Int × Int)) (r : Nat) : cutN K (r + 1) = cutN K r ++ [(wd ((ai K r).1.tmod 10), wd ((ai K r).2.tmod 10))] := by unfold cutN; rw [List.range_succ, List.map_append]; rfl
theorem cutN_len (K : List (Int × Int)) (r : Nat) : (cutN K r).length = r := by unfold cutN; simp
theorem tmod_ten (a : Int) : -9 ≤ a.tmod 10 ∧ a.tmod 10 ≤ 9 := by
  have h1 := Int.lt_tmod_of_pos a (show (0 : Int) < 10 by omega)
  have h2 := Int.tmod_lt_of_pos a (show (0 : Int) < 10 by omega)
  omega

set_option maxRecDepth 100000 in
set_option maxHeartbeats 4000000 in
theorem cut_any (c0 c1 c2 c3 c4 c5 n : Int) (r : Nat) (w : World) (hb : ∀ j, -128 ≤ (ai [(c0, c1), (c2, c3), (c4, c5)] j).1 ∧ (ai [(c0, c1), (c2, c3), (c4, c5)] j).1 ≤ 127 ∧ -128 ≤ (ai [(c0, c1), (c2, c3), (c4, c5)] j).2 ∧ (ai [(c0, c1), (c2, c3), (c4, c5)] j).2 ≤ 127)
    (hr : n.tmod 4 = (r : Int)) (hr3 : r ≤ 3) :
    Calls Try.prog 45 #[.agg #[.int .i8 c0, .int .i8 c1, .int .i8 c2, .int .i8 c3, .int .i8 c4, .int .i8 c5], .int .u8 n] w fun e w' =>
      ∃ v, e = .returned v ∧ w'.ownsRow (w.heap.size + 1) 32 2 v r (cellsN (cutN [(c0, c1), (c2, c3), (c4, c5)] r)) ∧ Below w.heap.size w w' := by
  obtain ⟨W0, hW0⟩ : ∃ W0, W0 = w.alloc (.cells #[.int .i8 c0, .int .i8 c1, .int .i8 c2, .int .i8 c3, .int .i8 c4, .int .i8 c5] 77) := ⟨_, rfl⟩
  have hcell : ∀ j, j < 3 → W0.cell? ⟨w.heap.size, j * 2, none⟩ = some (.int .i8 (ai [(c0, c1), (c2, c3), (c4, c5)] j).1) ∧ W0.cell? ⟨w.heap.size, j * 2 + 1, none⟩ = some (.int .i8 (ai [(c0, c1), (c2, c3), (c4, c5)] j).2) := by
    intro j hj
    rw [hW0]
    rcases (show j = 0 ∨ j = 1 ∨ j = 2 by omega) with rfl | rfl | rfl <;> exact ⟨(new_cell w _ _ _ _ rfl).1, (new_cell w _ _ _ _ rfl).1⟩
  have hsz : W0.heap.size = w.heap.size + 1 := by rw [hW0]; simp
  have hb0 : Below w.heap.size w W0 := by rw [hW0]; exact (Below.refl _ _).alloc (Nat.le_refl _) _
  obtain ⟨K, hK⟩ : ∃ K, K = [(c0, c1), (c2, c3), (c4, c5)] := ⟨_, rfl⟩
  rw [← hK] at hcell hb ⊢
  obtain ⟨z0, hz0, hz1, hz2, hz3⟩ := info_parts info32
  have i1 : (r : Int) ≤ 3 := by omega
  have i2 : (0 : Int) ≤ r := by omega
  have HC := Lib.hid hcell
  have HSZ := Lib.hid hsz
  have HB0 := Lib.hid hb0
  have HB := Lib.hid hb
  have HW := Lib.hid hW0
  have HR3 := Lib.hid hr3
  clear hcell hsz hb0 hb hW0 hr3 hK
  go_enter Try.func45, Try.ntmps45
  go_upto_region 1 with (fail)
  rw [← HW.out]
  clear HW
  go_wp2_with fail
  go_loopw [5, 12] (fun out v wr => ∃ j : Nat, v = .int .i64 j ∧ j ≤ r ∧ wr.ownsRow (w.heap.size + 1) 32 2 out j (cellsN (cutN K j)) ∧ Below W0.heap.size W0 wr) (fun _ v _ => 100 - (intOf v).toNat)
  case atStart => exact ⟨0, rfl, Nat.zero_le _, World.ownsRow_nil _ _ _ _, Below.refl _ _⟩
  case round =>
    obtain ⟨j, rfl, hj, hown, hfr⟩ := hrel
    have HO := Lib.hid hown
    have HF := Lib.hid hfr
    have HJ := Lib.hid hj
    clear hown hfr hj
    by_cases hlt : j < r
    · obtain ⟨a, ha⟩ : ∃ a, a = (ai K j).1 := ⟨_, rfl⟩
      obtain ⟨b, hb⟩ : ∃ b, b = (ai K j).2 := ⟨_, rfl⟩
      have hab := HB.out j
      have hcl := HC.out j (by have := HR3.out; omega)
      rw [← ha, ← hb] at hab hcl
      have x0 := (HF.out.cell (p := ⟨w.heap.size, j * 2, none⟩) (by rw [HSZ.out]; exact Nat.lt_succ_self _)).trans hcl.1
      have x1 := (HF.out.cell (p := ⟨w.heap.size, j * 2 + 1, none⟩) (by rw [HSZ.out]; exact Nat.lt_succ_self _)).trans hcl.2
      obtain ⟨b1, b2, b3, b4⟩ := hab
      have ta := tmod_ten a
      have tb := tmod_ten b
      have i3 : (j : Int) < r := by omega
      have i4 : (0 : Int) ≤ j := by omega
      have e1 : IntKind.i64.wrap a = a := IntWalk.i64_in _ (by omega)
      have e2 : IntKind.i64.wrap b = b := IntWalk.i64_in _ (by omega)
      have e3 : IntKind.i64.wrap (a.tmod 10) = a.tmod 10 := IntWalk.i64_in _ (by omega)
      have e4 : IntKind.i64.wrap (b.tmod 10) = b.tmod 10 := IntWalk.i64_in _ (by omega)
      have HA := Lib.hid ha
      have HBb := Lib.hid hb
      have HLT := Lib.hid hlt
      clear ha hb hcl b1 b2 b3 b4 ta tb hlt
      go_wp2_with (first
        | (go_at_call 39; refine (of_int _ _ _).mono ?_; rintro e w1 ⟨rfl, hb1⟩
           have HO1 := Lib.hid (own_below (HO.out.alloc (.cells #[.int .i8 a, .int .i8 b] 76)) hb1)
           have HF1 := Lib.hid ((HF.out.alloc HF.out.size (.cells #[.int .i8 a, .int .i8 b] 76)).grown (below_grown hb1 rfl rfl rfl rfl none) (by have := HF.out.size; simp; omega) (by simp))
           clear hb1 x0 x1
           obtain ⟨u, hu⟩ : ∃ u, u = wd (a.tmod 10) := ⟨_, rfl⟩
           obtain ⟨v, hv⟩ : ∃ v, v = wd (b.tmod 10) := ⟨_, rfl⟩
           rw [← hu, ← hv]
           have HU := Lib.hid hu
           have HV := Lib.hid hv
           clear hu hv
           unfold num)
        | (at_builtin; refine wpList_append_lies _ rfl _ _ 24 rfl (w.heap.size + 1) 32 z0 (.agg #[.int .u32 0, .int .u32 0]) 2 8 Try.underlying24 hz0 hz1 hz2 hz3 rfl (by decide) _ j _ rfl (HO1.out.alloc (.cells #[.int .u32 u, .int .u32 v] 32)) ⟨w1.heap.size, 0, none⟩ 1 1 [.int .u32 u, .int .u32 v] rfl rfl (cell_two_new _ _ _ _) (by simp [Value.oneCell']) (by omega) (by have := HR3.out; have := HLT.out; unfold maxLen; omega) (by have := HR3.out; have := HLT.out; omega) (by have := HF1.out.size; have := HSZ.out; simp; omega) _ rfl ?_
           intro g4 cap4 w4 hown4 hgrow4 hat4 hlt4
           have HO4 := Lib.hid hown4
           have HG4 := Lib.hid hgrow4
           clear hown4 hgrow4 hat4 hlt4))
      have hF4 : Below W0.heap.size W0 w4 := (HF1.out.alloc HF1.out.size _).grown HG4.out (by have := HF1.out.size; simp; omega) (fun k e => by have := (HO.out.lt k e).1; have := HSZ.out; omega)
      have hO4 : w4.ownsRow (w.heap.size + 1) 32 2 (.slice (some ⟨g4, 0, none⟩) (j + 1) cap4) (j + 1) (cellsN (cutN K (j + 1))) := by
        rw [cutN_snoc, cellsN_append, ← HA.out, ← HBb.out, ← HU.out, ← HV.out]
        exact HO4.out
      have HF5 := Lib.hid hF4
      have HO5 := Lib.hid hO4
      clear hF4 hO4
      go_wp2
      go_roundw
      case rel => exact ⟨j + 1, congrArg (Value.int .i64) (by omega), by have := HLT.out; omega, HO5.out, HF5.out⟩
      case measure => simp [intOf]; omega
    · have hjr : j = r := by have := HJ.out; omega
      have HJR := Lib.hid hjr
      have i3 : ¬ (j : Int) < r := by omega
      clear hlt hjr
      go_wp2
      go_ret
      refine ⟨_, rfl, ?_, HB0.out.trans (HF.out.mono (by have := HSZ.out; omega))⟩
      have := HO.out
      rw [HJR.out] at this
      exact this

end Nu
end Go.Proofs.Ytkkdimhibfpopaa
