/- Contracts: products, quotients, conjugates. -/
import Derived.Test.YtkkdimhibfpopaaA5
namespace Go.Proofs.Ytkkdimhibfpopaa
open Go.ChangeShapes Go.WideShapes Go.ChangeAt Go.RowKit
namespace Nu

theorem run_fadd {P : Program} (w : World) (t : TypeId) (x y : Nat) : (binOp .add t (.float .f32 x) (.float .f32 y)).run P w = .ok (.float .f32 (raw .add x y w)) (w.drewN (cnt .add x y)) := run_fop w (.inl rfl) t x y
theorem run_fsub {P : Program} (w : World) (t : TypeId) (x y : Nat) : (binOp .sub t (.float .f32 x) (.float .f32 y)).run P w = .ok (.float .f32 (raw .sub x y w)) (w.drewN (cnt .sub x y)) := run_fop w (.inr (.inl rfl)) t x y
theorem run_fmul {P : Program} (w : World) (t : TypeId) (x y : Nat) : (binOp .mul t (.float .f32 x) (.float .f32 y)).run P w = .ok (.float .f32 (raw .mul x y w)) (w.drewN (cnt .mul x y)) := run_fop w (.inr (.inr (.inl rfl))) t x y
theorem run_fquo {P : Program} (w : World) (t : TypeId) (x y : Nat) : (binOp .quo t (.float .f32 x) (.float .f32 y)).run P w = .ok (.float .f32 (raw .quo x y w)) (w.drewN (cnt .quo x y)) := run_fop w (.inr (.inr (.inr rfl))) t x y
attribute [local go_sem] run_fadd run_fsub run_fmul run_fquo

/-- Product and conjugate, quotient, on words. -/
def mulW (x y : Nat × Nat) : Nat × Nat := (fop .sub (fop .mul x.1 y.1) (fop .mul x.2 y.2), fop .add (fop .mul x.1 y.2) (fop .mul x.2 y.1))

theorem fop_raw (op o1 o2 : BinOp) (a b c d : Nat) (w1 w2 : World) : fop op (raw o1 (canon a) (canon b) w1) (raw o2 (canon c) (canon d) w2) = fop op (fop o1 a b) (fop o2 c d) := by
  rw [← fop_canon, canon_raw2, canon_raw2]

set_option maxHeartbeats 2000000 in
theorem mul_any (a b c d : Nat) (w : World) : Calls Try.prog 15 #[.agg #[.int .u32 a, .int .u32 b], .agg #[.int .u32 c, .int .u32 d]] w fun e w' => e = .returned (num (mulW (a, b) (c, d))) ∧ Below w.heap.size w w' := by
  have hA := (((At.first w).two (.int .u32 a) (.int .u32 b) 32 _ rfl).two (.int .u32 c) (.int .u32 d) 32 (w.heap.size + 1) (by simp)).two (.int .u32 0) (.int .u32 0) 32 (w.heap.size + 1 + 1) (by simp)
  obtain ⟨W0, hW0⟩ : ∃ W0, W0 = ((w.alloc (.cells #[.int .u32 a, .int .u32 b] 32)).alloc (.cells #[.int .u32 c, .int .u32 d] 32)).alloc (.cells #[.int .u32 0, .int .u32 0] 32) := ⟨_, rfl⟩
  rw [← hW0] at hA
  have HA := Lib.hid hA
  have HW := Lib.hid hW0
  clear hA hW0
  go_enter Try.func15, Try.ntmps15
  go_upto_region 1 with (fail)
  rw [← HW.out]
  clear HW
  obtain ⟨⟨g0, i0⟩, ⟨g1, i1⟩, ⟨c0, f0⟩, ⟨c1, f1⟩, ⟨c2, f2⟩, ⟨c3, f3⟩, -⟩ := HA.out.mem
  go_wp2_with (first
    | (go_at_call 11; refine (parts_any _ _ _).mono ?_; rintro e w1 ⟨rfl, hb1⟩; clear g0 i0 g1 i1 c0 f0 c1 f1 c2 f2 c3 f3; have HA := Lib.hid (HA.out.step hb1); obtain ⟨⟨g0, i0⟩, ⟨g1, i1⟩, ⟨c0, f0⟩, ⟨c1, f1⟩, ⟨c2, f2⟩, ⟨c3, f3⟩, -⟩ := HA.out.mem; clear hb1)
    | (go_at_call 18; refine (of_any _ _ _).mono ?_; rintro e w1 ⟨rfl, hb1⟩; clear g0 i0 g1 i1 c0 f0 c1 f1 c2 f2 c3 f3; have HA := Lib.hid (HA.out.step hb1); obtain ⟨⟨g0, i0⟩, ⟨g1, i1⟩, ⟨c0, f0⟩, ⟨c1, f1⟩, ⟨c2, f2⟩, ⟨c3, f3⟩, -⟩ := HA.out.mem; clear hb1; rw [canon_raw, canon_raw, fop_raw, fop_raw]))
  have HE := At.end2 (x := .int .u32 (fop .sub (fop .mul a c) (fop .mul b d))) (y := .int .u32 (fop .add (fop .mul a d) (fop .mul b c))) HA.out (by omega)
  obtain ⟨e0, e1, hb⟩ := HE
  have HB := Lib.hid hb
  clear hb g0 i0 g1 i1 c0 f0 c1 f1 c2 f2 c3 f3
  exact bodyPost_ret (v := .agg #[.int .u32 (fop .sub (fop .mul a c) (fop .mul b d)), .int .u32 (fop .add (fop .mul a d) (fop .mul b c))]) (by simp [results, Try.results15, go_sem, e0, e1]) rfl ⟨rfl, HB.out⟩

def divW (x y : Nat × Nat) : Nat × Nat :=
  (fop .quo (fop .add (fop .mul x.1 y.1) (fop .mul x.2 y.2)) (fop .add (fop .mul y.1 y.1) (fop .mul y.2 y.2)), fop .quo (fop .sub (fop .mul x.2 y.1) (fop .mul x.1 y.2)) (fop .add (fop .mul y.1 y.1) (fop .mul y.2 y.2)))

theorem canon_two (o o1 o2 : BinOp) (a b c d : Nat) (w1 w2 w3 : World) : canon (raw o (raw o1 (canon a) (canon b) w1) (raw o2 (canon c) (canon d) w2) w3) = fop o (fop o1 a b) (fop o2 c d) := by rw [canon_raw, fop_raw]
theorem fop_two (o oa ob o1 o2 o3 o4 : BinOp) (a b c d a' b' c' d' : Nat) (w1 w2 w3 v1 v2 v3 : World) :
    fop o (raw oa (raw o1 (canon a) (canon b) w1) (raw o2 (canon c) (canon d) w2) w3) (raw ob (raw o3 (canon a') (canon b') v1) (raw o4 (canon c') (canon d') v2) v3) = fop o (fop oa (fop o1 a b) (fop o2 c d)) (fop ob (fop o3 a' b') (fop o4 c' d')) := by
  rw [← fop_canon, canon_two, canon_two]

set_option maxHeartbeats 2000000 in
theorem div_any (a b c d : Nat) (w : World) : Calls Try.prog 16 #[.agg #[.int .u32 a, .int .u32 b], .agg #[.int .u32 c, .int .u32 d]] w fun e w' => e = .returned (num (divW (a, b) (c, d))) ∧ Below w.heap.size w w' := by
  have hA := (((At.first w).two (.int .u32 a) (.int .u32 b) 32 _ rfl).two (.int .u32 c) (.int .u32 d) 32 (w.heap.size + 1) (by simp)).two (.int .u32 0) (.int .u32 0) 32 (w.heap.size + 1 + 1) (by simp)
  obtain ⟨W0, hW0⟩ : ∃ W0, W0 = ((w.alloc (.cells #[.int .u32 a, .int .u32 b] 32)).alloc (.cells #[.int .u32 c, .int .u32 d] 32)).alloc (.cells #[.int .u32 0, .int .u32 0] 32) := ⟨_, rfl⟩
  rw [← hW0] at hA
  have HA := Lib.hid hA
  have HW := Lib.hid hW0
  clear hA hW0
  go_enter Try.func16, Try.ntmps16
  go_upto_region 1 with (fail)
  rw [← HW.out]
  clear HW
  obtain ⟨⟨g0, i0⟩, ⟨g1, i1⟩, ⟨c0, f0⟩, ⟨c1, f1⟩, ⟨c2, f2⟩, ⟨c3, f3⟩, -⟩ := HA.out.mem
  obtain ⟨x, hx⟩ : ∃ x, x = fop .quo (fop .add (fop .mul a c) (fop .mul b d)) (fop .add (fop .mul c c) (fop .mul d d)) := ⟨_, rfl⟩
  obtain ⟨y, hy⟩ : ∃ y, y = fop .quo (fop .sub (fop .mul b c) (fop .mul a d)) (fop .add (fop .mul c c) (fop .mul d d)) := ⟨_, rfl⟩
  have HX := Lib.hid hx
  have HY := Lib.hid hy
  clear hx hy
  go_wp2_with (first
    | (go_at_call 11; refine (parts_any _ _ _).mono ?_; rintro e w1 ⟨rfl, hb1⟩; clear g0 i0 g1 i1 c0 f0 c1 f1 c2 f2 c3 f3; have HA := Lib.hid (HA.out.step hb1); obtain ⟨⟨g0, i0⟩, ⟨g1, i1⟩, ⟨c0, f0⟩, ⟨c1, f1⟩, ⟨c2, f2⟩, ⟨c3, f3⟩, -⟩ := HA.out.mem; clear hb1)
    | (go_at_call 18; refine (of_any _ _ _).mono ?_; rintro e w1 ⟨rfl, hb1⟩; clear g0 i0 g1 i1 c0 f0 c1 f1 c2 f2 c3 f3; have HA := Lib.hid (HA.out.step hb1); obtain ⟨⟨g0, i0⟩, ⟨g1, i1⟩, ⟨c0, f0⟩, ⟨c1, f1⟩, ⟨c2, f2⟩, ⟨c3, f3⟩, -⟩ := HA.out.mem; clear hb1; rw [canon_raw, canon_raw, fop_two, fop_two, ← HX.out, ← HY.out]))
  have HE := At.end2 (x := .int .u32 x) (y := .int .u32 y) HA.out (by omega)
  obtain ⟨e0, e1, hb⟩ := HE
  have HB := Lib.hid hb
  clear hb g0 i0 g1 i1 c0 f0 c1 f1 c2 f2 c3 f3
  exact bodyPost_ret (v := .agg #[.int .u32 x, .int .u32 y]) (by simp [results, Try.results16, go_sem, e0, e1]) rfl ⟨by rw [HX.out, HY.out]; rfl, HB.out⟩

theorem run_fneg {P : Program} (w : World) (x : Nat) : (Op.unary .neg (.float .f32 x)).run P w = .ok (.float .f32 (Op.negFloat .f32 x)) w := by simp [Op.unary]
attribute [local go_sem] run_fneg
def negW (x : Nat) : Nat := canon (Op.negFloat .f32 (canon x))
def conjW (x : Nat × Nat) : Nat × Nat := (canon x.1, negW x.2)

set_option maxHeartbeats 2000000 in
theorem conj_any (a b : Nat) (w : World) : Calls Try.prog 17 #[.agg #[.int .u32 a, .int .u32 b]] w fun e w' => e = .returned (num (conjW (a, b))) ∧ Below w.heap.size w w' := by
  have hA := ((At.first w).two (.int .u32 a) (.int .u32 b) 32 _ rfl).two (.int .u32 0) (.int .u32 0) 32 (w.heap.size + 1) (by simp)
  obtain ⟨W0, hW0⟩ : ∃ W0, W0 = (w.alloc (.cells #[.int .u32 a, .int .u32 b] 32)).alloc (.cells #[.int .u32 0, .int .u32 0] 32) := ⟨_, rfl⟩
  rw [← hW0] at hA
  have HA := Lib.hid hA
  have HW := Lib.hid hW0
  clear hA hW0
  go_enter Try.func17, Try.ntmps17
  go_upto_region 1 with (fail)
  rw [← HW.out]
  clear HW
  obtain ⟨⟨g0, i0⟩, ⟨g1, i1⟩, ⟨c0, f0⟩, ⟨c1, f1⟩, -⟩ := HA.out.mem
  go_wp2_with (first
    | (go_at_call 11; refine (parts_any _ _ _).mono ?_; rintro e w1 ⟨rfl, hb1⟩; clear g0 i0 g1 i1 c0 f0 c1 f1; have HA := Lib.hid (HA.out.step hb1); obtain ⟨⟨g0, i0⟩, ⟨g1, i1⟩, ⟨c0, f0⟩, ⟨c1, f1⟩, -⟩ := HA.out.mem; clear hb1)
    | (go_at_call 18; refine (of_any _ _ _).mono ?_; rintro e w1 ⟨rfl, hb1⟩; clear g0 i0 g1 i1 c0 f0 c1 f1; have HA := Lib.hid (HA.out.step hb1); obtain ⟨⟨g0, i0⟩, ⟨g1, i1⟩, ⟨c0, f0⟩, ⟨c1, f1⟩, -⟩ := HA.out.mem; clear hb1; rw [canon_canon]))
  have HE := At.end2 (x := .int .u32 (canon a)) (y := .int .u32 (canon (Op.negFloat .f32 (canon b)))) HA.out (by omega)
  obtain ⟨e0, e1, hb⟩ := HE
  have HB := Lib.hid hb
  clear hb g0 i0 g1 i1 c0 f0 c1 f1
  exact bodyPost_ret (v := .agg #[.int .u32 (canon a), .int .u32 (canon (Op.negFloat .f32 (canon b)))]) (by simp [results, Try.results17, go_sem, e0, e1]) rfl ⟨rfl, HB.out⟩

end Nu
end Go.Proofs.Ytkkdimhibfpopaa
