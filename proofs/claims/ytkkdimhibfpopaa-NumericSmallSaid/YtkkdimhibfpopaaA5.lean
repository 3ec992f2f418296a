/- Contracts: sums and differences of numbers. -/
import Derived.Test.YtkkdimhibfpopaaA4
import Derived.Deep.Cut
namespace Go.Proofs.Ytkkdimhibfpopaa
open Go.ChangeShapes Go.WideShapes Go.ChangeAt Go.RowKit
namespace Nu

theorem run_cadd {P : Program} (w : World) (t : TypeId) (a b c d : Nat) :
    (binOp .add t (.complex .f32 a b) (.complex .f32 c d)).run P w = .ok (.complex .f32 (raw .add a c w) (raw .add b d (w.drewN (cnt .add a c)))) ((w.drewN (cnt .add a c)).drewN (cnt .add b d)) := run_cop w (.inl rfl) t a b c d
theorem run_csub {P : Program} (w : World) (t : TypeId) (a b c d : Nat) :
    (binOp .sub t (.complex .f32 a b) (.complex .f32 c d)).run P w = .ok (.complex .f32 (raw .sub a c w) (raw .sub b d (w.drewN (cnt .sub a c)))) ((w.drewN (cnt .sub a c)).drewN (cnt .sub b d)) := run_cop w (.inr rfl) t a b c d
attribute [local go_sem] run_cadd run_csub

/-- The result's two cells, written. -/
theorem At.end2 {w W : World} {r : Nat} {x y u v : Value} {L : List (Nat × Nat × Value)} (h : At w W ((r, 0, u) :: (r, 1, v) :: L)) (hr : w.heap.size ≤ r) : ((W.setCell ⟨r, 0, none⟩ x).setCell ⟨r, 1, none⟩ y).cell? ⟨r, 0, none⟩ = some x ∧ ((W.setCell ⟨r, 0, none⟩ x).setCell ⟨r, 1, none⟩ y).cell? ⟨r, 1, none⟩ = some y ∧ Below w.heap.size w ((W.setCell ⟨r, 0, none⟩ x).setCell ⟨r, 1, none⟩ y) := by
  obtain ⟨⟨h0, _⟩, ⟨h1, _⟩, _⟩ := h.mem
  have e0 : (W.setCell ⟨r, 0, none⟩ x).cell? ⟨r, 0, none⟩ = some x := World.cell?_setCell_same _ _ _ h0
  have e1 : (W.setCell ⟨r, 0, none⟩ x).cell? ⟨r, 1, none⟩ = some v := by rw [World.cell?_setCell_other _ _ _ _ (by simp)]; exact h1
  exact ⟨by rw [World.cell?_setCell_other _ _ _ _ (by simp)]; exact e0, World.cell?_setCell_same _ _ _ e1, (h.below.setCell (p := ⟨r, 0, none⟩) hr _).setCell (p := ⟨r, 1, none⟩) hr _⟩

set_option maxHeartbeats 2000000 in
theorem add_any (a b c d : Nat) (w : World) : Calls Try.prog 13 #[.agg #[.int .u32 a, .int .u32 b], .agg #[.int .u32 c, .int .u32 d]] w fun e w' => e = .returned (.agg #[.int .u32 (fop .add a c), .int .u32 (fop .add b d)]) ∧ Below w.heap.size w w' := by
  have hA := (((At.first w).two (.int .u32 a) (.int .u32 b) 32 _ rfl).two (.int .u32 c) (.int .u32 d) 32 (w.heap.size + 1) (by simp)).two (.int .u32 0) (.int .u32 0) 32 (w.heap.size + 1 + 1) (by simp)
  obtain ⟨W0, hW0⟩ : ∃ W0, W0 = ((w.alloc (.cells #[.int .u32 a, .int .u32 b] 32)).alloc (.cells #[.int .u32 c, .int .u32 d] 32)).alloc (.cells #[.int .u32 0, .int .u32 0] 32) := ⟨_, rfl⟩
  rw [← hW0] at hA
  have HA := Lib.hid hA
  have HW := Lib.hid hW0
  clear hA hW0
  go_enter Try.func13, Try.ntmps13
  go_wp2_with fail
  rw [← HW.out]
  clear HW
  obtain ⟨⟨g0, i0⟩, ⟨g1, i1⟩, ⟨c0, f0⟩, ⟨c1, f1⟩, ⟨c2, f2⟩, ⟨c3, f3⟩, -⟩ := HA.out.mem
  go_region_with (first
    | (go_at_call 48; refine (value_any _ _ _).mono ?_; rintro e w1 ⟨rfl, hb1⟩; clear g0 i0 g1 i1 c0 f0 c1 f1 c2 f2 c3 f3; have HA := Lib.hid (HA.out.step hb1); obtain ⟨⟨g0, i0⟩, ⟨g1, i1⟩, ⟨c0, f0⟩, ⟨c1, f1⟩, ⟨c2, f2⟩, ⟨c3, f3⟩, -⟩ := HA.out.mem; clear hb1)
    | (go_at_call 47; refine (number_any _ _ _).mono ?_; rintro e w1 ⟨rfl, hb1⟩; clear g0 i0 g1 i1 c0 f0 c1 f1 c2 f2 c3 f3; have HA := Lib.hid (HA.out.step hb1); obtain ⟨⟨g0, i0⟩, ⟨g1, i1⟩, ⟨c0, f0⟩, ⟨c1, f1⟩, ⟨c2, f2⟩, ⟨c3, f3⟩, -⟩ := HA.out.mem; clear hb1; rw [canon_raw2, canon_raw2]))
  all_goals
    have HE := At.end2 (x := .int .u32 (fop .add a c)) (y := .int .u32 (fop .add b d)) HA.out (by omega)
    obtain ⟨e0, e1, hb⟩ := HE
    have HB := Lib.hid hb
    clear hb
    clear g0 i0 g1 i1 c0 f0 c1 f1 c2 f2 c3 f3
    go_wp2
    exact bodyPost_ret (v := .agg #[.int .u32 (fop .add a c), .int .u32 (fop .add b d)]) (by simp [results, Try.results13, go_sem, e0, e1]) rfl ⟨rfl, HB.out⟩

set_option maxHeartbeats 2000000 in
theorem sub_any (a b c d : Nat) (w : World) : Calls Try.prog 14 #[.agg #[.int .u32 a, .int .u32 b], .agg #[.int .u32 c, .int .u32 d]] w fun e w' => e = .returned (.agg #[.int .u32 (fop .sub a c), .int .u32 (fop .sub b d)]) ∧ Below w.heap.size w w' := by
  have hA := (((At.first w).two (.int .u32 a) (.int .u32 b) 32 _ rfl).two (.int .u32 c) (.int .u32 d) 32 (w.heap.size + 1) (by simp)).two (.int .u32 0) (.int .u32 0) 32 (w.heap.size + 1 + 1) (by simp)
  obtain ⟨W0, hW0⟩ : ∃ W0, W0 = ((w.alloc (.cells #[.int .u32 a, .int .u32 b] 32)).alloc (.cells #[.int .u32 c, .int .u32 d] 32)).alloc (.cells #[.int .u32 0, .int .u32 0] 32) := ⟨_, rfl⟩
  rw [← hW0] at hA
  have HA := Lib.hid hA
  have HW := Lib.hid hW0
  clear hA hW0
  go_enter Try.func14, Try.ntmps14
  go_wp2_with fail
  rw [← HW.out]
  clear HW
  obtain ⟨⟨g0, i0⟩, ⟨g1, i1⟩, ⟨c0, f0⟩, ⟨c1, f1⟩, ⟨c2, f2⟩, ⟨c3, f3⟩, -⟩ := HA.out.mem
  go_region_with (first
    | (go_at_call 48; refine (value_any _ _ _).mono ?_; rintro e w1 ⟨rfl, hb1⟩; clear g0 i0 g1 i1 c0 f0 c1 f1 c2 f2 c3 f3; have HA := Lib.hid (HA.out.step hb1); obtain ⟨⟨g0, i0⟩, ⟨g1, i1⟩, ⟨c0, f0⟩, ⟨c1, f1⟩, ⟨c2, f2⟩, ⟨c3, f3⟩, -⟩ := HA.out.mem; clear hb1)
    | (go_at_call 47; refine (number_any _ _ _).mono ?_; rintro e w1 ⟨rfl, hb1⟩; clear g0 i0 g1 i1 c0 f0 c1 f1 c2 f2 c3 f3; have HA := Lib.hid (HA.out.step hb1); obtain ⟨⟨g0, i0⟩, ⟨g1, i1⟩, ⟨c0, f0⟩, ⟨c1, f1⟩, ⟨c2, f2⟩, ⟨c3, f3⟩, -⟩ := HA.out.mem; clear hb1; rw [canon_raw2, canon_raw2]))
  all_goals
    have HE := At.end2 (x := .int .u32 (fop .sub a c)) (y := .int .u32 (fop .sub b d)) HA.out (by omega)
    obtain ⟨e0, e1, hb⟩ := HE
    have HB := Lib.hid hb
    clear hb
    clear g0 i0 g1 i1 c0 f0 c1 f1 c2 f2 c3 f3
    go_wp2
    exact bodyPost_ret (v := .agg #[.int .u32 (fop .sub a c), .int .u32 (fop .sub b d)]) (by simp [results, Try.results14, go_sem, e0, e1]) rfl ⟨rfl, HB.out⟩

end Nu
end Go.Proofs.Ytkkdimhibfpopaa
