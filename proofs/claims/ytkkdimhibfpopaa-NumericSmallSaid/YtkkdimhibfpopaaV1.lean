/- Contracts: the reference's operations on numbers. -/
import Derived.Test.YtkkdimhibfpopaaT1
namespace Go.Proofs.Ytkkdimhibfpopaa
open Go.ChangeShapes Go.WideShapes Go.ChangeAt Go.RowKit
namespace Nu

theorem far2 {W : World} {b o r : Nat} {v u u' : Value} (h : W.cell? ⟨b, o, none⟩ = some v) (hne : b ≠ r) : ((W.setCell ⟨r, 0, none⟩ u).setCell ⟨r, 1, none⟩ u').cell? ⟨b, o, none⟩ = some v := by
  rw [World.cell?_setCell_other _ _ _ _ (fun e => hne (congrArg Addr.block e).symm), World.cell?_setCell_other _ _ _ _ (fun e => hne (congrArg Addr.block e).symm)]; exact h

theorem rf_any (b : Nat) (w : World) : Calls Try.prog 51 #[.int .u32 b] w fun e w' => e = .returned (.float .f32 b) ∧ w' = w := by
  have hfb := frombits_run
  go_enter Try.func51, Try.ntmps51
  go_wp2
  go_ret
  exact ⟨rfl, rfl⟩

theorem rplus_any (a b : Nat) (w : World) : Calls Try.prog 50 #[.float .f32 a, .float .f32 b] w fun e w' => ∃ v, e = .returned (.float .f32 v) ∧ canon v = fop .add a b ∧ Below w.heap.size w w' := by
  have h := canon_raw .add a b w
  have H := Lib.hid h
  have hr := fun (w : World) => run_fadd (P := Try.prog) w 29 a b
  clear h
  go_enter Try.func50, Try.ntmps50
  go_wp2
  go_ret
  exact ⟨_, rfl, H.out, below_drewN (Below.refl _ _) _⟩

theorem rminus_any (a b : Nat) (w : World) : Calls Try.prog 52 #[.float .f32 a, .float .f32 b] w fun e w' => ∃ v, e = .returned (.float .f32 v) ∧ canon v = fop .sub a b ∧ Below w.heap.size w w' := by
  have h := canon_raw .sub a b w
  have H := Lib.hid h
  have hr := fun (w : World) => run_fsub (P := Try.prog) w 29 a b
  clear h
  go_enter Try.func52, Try.ntmps52
  go_wp2
  go_ret
  exact ⟨_, rfl, H.out, below_drewN (Below.refl _ _) _⟩

theorem rtimes_any (a b : Nat) (w : World) : Calls Try.prog 53 #[.float .f32 a, .float .f32 b] w fun e w' => ∃ v, e = .returned (.float .f32 v) ∧ canon v = fop .mul a b ∧ Below w.heap.size w w' := by
  have h := canon_raw .mul a b w
  have H := Lib.hid h
  have hr := fun (w : World) => run_fmul (P := Try.prog) w 29 a b
  clear h
  go_enter Try.func53, Try.ntmps53
  go_wp2
  go_ret
  exact ⟨_, rfl, H.out, below_drewN (Below.refl _ _) _⟩

set_option maxRecDepth 100000 in
set_option maxHeartbeats 2000000 in
theorem radd_any (a b c d : Nat) (w : World) : Calls Try.prog 19 #[.agg #[.int .u32 a, .int .u32 b], .agg #[.int .u32 c, .int .u32 d]] w fun e w' => e = .returned (num (addW (a, b) (c, d))) ∧ Below w.heap.size w w' := by
  have hA := (((At.first w).two (.int .u32 a) (.int .u32 b) 38 _ rfl).two (.int .u32 c) (.int .u32 d) 38 (w.heap.size + 1) (by simp)).two (.int .u32 0) (.int .u32 0) 38 (w.heap.size + 1 + 1) (by simp)
  obtain ⟨W0, hW0⟩ : ∃ W0, W0 = ((w.alloc (.cells #[.int .u32 a, .int .u32 b] 38)).alloc (.cells #[.int .u32 c, .int .u32 d] 38)).alloc (.cells #[.int .u32 0, .int .u32 0] 38) := ⟨_, rfl⟩
  rw [← hW0] at hA
  have HA := Lib.hid hA
  have HW := Lib.hid hW0
  clear hA hW0
  go_enter Try.func19, Try.ntmps19
  go_upto_region 1 with (fail)
  rw [← HW.out]
  clear HW
  obtain ⟨⟨g0, i0⟩, ⟨g1, i1⟩, ⟨c0, f0⟩, ⟨c1, f1⟩, ⟨c2, f2⟩, ⟨c3, f3⟩, -⟩ := HA.out.mem
  have k0 := And.intro c0 (And.intro c1 (And.intro c2 c3))
  go_region_held3 (fun w' => w'.cell? ⟨w.heap.size + 1, 0, none⟩ = some (.int .u32 c) ∧ w'.cell? ⟨w.heap.size + 1, 1, none⟩ = some (.int .u32 d) ∧ w'.cell? ⟨w.heap.size, 0, none⟩ = some (.int .u32 a) ∧ w'.cell? ⟨w.heap.size, 1, none⟩ = some (.int .u32 b)) (first | exact kx | exact ⟨far2 c0 (by omega), far2 c1 (by omega), far2 c2 (by omega), far2 c3 (by omega)⟩ | exact k0)
    (first
      | (go_at_call 51
         refine (rf_any _ _).mono ?_
         rintro e w1 ⟨rfl, rfl⟩
         go_simp)
      | (go_at_call 50
         refine (rplus_any _ _ _).mono ?_
         rintro e w1 ⟨v, rfl, hv, hb⟩
         have HA := Lib.hid (HA.out.step hb)
         clear g0 i0 g1 i1 c0 f0 c1 f1 c2 f2 c3 f3
         first
           | (have HV2 := Lib.hid (And.intro HV1.out hv); clear hv hb)
           | (have HV1 := Lib.hid hv; clear hv hb)
         obtain ⟨⟨g0, i0⟩, ⟨g1, i1⟩, ⟨c0, f0⟩, ⟨c1, f1⟩, ⟨c2, f2⟩, ⟨c3, f3⟩, -⟩ := HA.out.mem
         have kx := And.intro c0 (And.intro c1 (And.intro c2 c3))
         go_simp)
      | (go_at_call 24
         refine (rof_any _ _ _).mono ?_
         rintro e w1 ⟨rfl, hb⟩
         have HA := Lib.hid (HA.out.step hb)
         rw [HV2.out.1, HV2.out.2]
         clear g0 i0 g1 i1 c0 f0 c1 f1 c2 f2 c3 f3
         clear hb
         obtain ⟨⟨g0, i0⟩, ⟨g1, i1⟩, ⟨c0, f0⟩, ⟨c1, f1⟩, ⟨c2, f2⟩, ⟨c3, f3⟩, -⟩ := HA.out.mem
         have kx := And.intro c0 (And.intro c1 (And.intro c2 c3))
         go_simp))
  have HE := At.end2 (x := .int .u32 (fop .add a c)) (y := .int .u32 (fop .add b d)) HA.out (by omega)
  obtain ⟨e0, e1, hb⟩ := HE
  have HB := Lib.hid hb
  clear hb
  clear g0 i0 g1 i1 c0 f0 c1 f1 c2 f2 c3 f3
  go_wp2
  exact bodyPost_ret (v := .agg #[.int .u32 (fop .add a c), .int .u32 (fop .add b d)]) (by simp [results, Try.results19, go_sem, e0, e1]) rfl ⟨rfl, HB.out⟩

theorem rplus_at (a b : Nat) (w : World) : Calls Try.prog 50 #[.float .f32 a, .float .f32 b] w fun e w' => e = .returned (.float .f32 (raw .add a b w)) ∧ Below w.heap.size w w' := by
  have hr := fun (w : World) => run_fadd (P := Try.prog) w 29 a b
  go_enter Try.func50, Try.ntmps50
  go_wp2
  go_ret
  exact ⟨rfl, below_drewN (Below.refl _ _) _⟩

theorem rminus_at (a b : Nat) (w : World) : Calls Try.prog 52 #[.float .f32 a, .float .f32 b] w fun e w' => e = .returned (.float .f32 (raw .sub a b w)) ∧ Below w.heap.size w w' := by
  have hr := fun (w : World) => run_fsub (P := Try.prog) w 29 a b
  go_enter Try.func52, Try.ntmps52
  go_wp2
  go_ret
  exact ⟨rfl, below_drewN (Below.refl _ _) _⟩

theorem rtimes_at (a b : Nat) (w : World) : Calls Try.prog 53 #[.float .f32 a, .float .f32 b] w fun e w' => e = .returned (.float .f32 (raw .mul a b w)) ∧ Below w.heap.size w w' := by
  have hr := fun (w : World) => run_fmul (P := Try.prog) w 29 a b
  go_enter Try.func53, Try.ntmps53
  go_wp2
  go_ret
  exact ⟨rfl, below_drewN (Below.refl _ _) _⟩

theorem canon_raw3 (o o1 o2 : BinOp) (a b c d : Nat) (w1 w2 w3 : World) : canon (raw o (raw o1 a b w1) (raw o2 c d w2) w3) = fop o (fop o1 a b) (fop o2 c d) := by
  rw [canon_raw, ← fop_canon, canon_raw, canon_raw]
theorem rf_same (b : Nat) (w : World) : Calls Try.prog 51 #[.int .u32 b] w fun e w' => e = .returned (.float .f32 b) ∧ w' = w := rf_any b w

set_option maxRecDepth 100000 in
set_option maxHeartbeats 2000000 in
theorem rmul_any (a b c d : Nat) (w : World) : Calls Try.prog 21 #[.agg #[.int .u32 a, .int .u32 b], .agg #[.int .u32 c, .int .u32 d]] w fun e w' => e = .returned (num (mulW (a, b) (c, d))) ∧ Below w.heap.size w w' := by
  have hA := (((At.first w).two (.int .u32 a) (.int .u32 b) 38 _ rfl).two (.int .u32 c) (.int .u32 d) 38 (w.heap.size + 1) (by simp)).two (.int .u32 0) (.int .u32 0) 38 (w.heap.size + 1 + 1) (by simp)
  obtain ⟨W0, hW0⟩ : ∃ W0, W0 = ((w.alloc (.cells #[.int .u32 a, .int .u32 b] 38)).alloc (.cells #[.int .u32 c, .int .u32 d] 38)).alloc (.cells #[.int .u32 0, .int .u32 0] 38) := ⟨_, rfl⟩
  rw [← hW0] at hA
  have HA := Lib.hid hA
  have HW := Lib.hid hW0
  clear hA hW0
  go_enter Try.func21, Try.ntmps21
  go_upto_region 1 with (fail)
  rw [← HW.out]
  clear HW
  obtain ⟨⟨g0, i0⟩, ⟨g1, i1⟩, ⟨c0, f0⟩, ⟨c1, f1⟩, ⟨c2, f2⟩, ⟨c3, f3⟩, -⟩ := HA.out.mem
  go_quiet ((go_at_call 51; exact Calls.quiet_of_same (rf_same _ _)))
  clear g0 i0 g1 i1 c0 f0 c1 f1 c2 f2 c3 f3
  go_wp2_with (first
    | (go_at_call 53; refine (rtimes_at _ _ _).mono ?_; rintro e w1 ⟨rfl, hb⟩; have HA := Lib.hid (HA.out.step hb); clear hb)
    | (go_at_call 52; refine (rminus_at _ _ _).mono ?_; rintro e w1 ⟨rfl, hb⟩; have HA := Lib.hid (HA.out.step hb); clear hb)
    | (go_at_call 50; refine (rplus_at _ _ _).mono ?_; rintro e w1 ⟨rfl, hb⟩; have HA := Lib.hid (HA.out.step hb); clear hb)
    | (go_at_call 24; refine (rof_any _ _ _).mono ?_; rintro e w1 ⟨rfl, hb⟩; have HA := Lib.hid (HA.out.step hb); clear hb; rw [canon_raw3, canon_raw3]; obtain ⟨⟨g0, i0⟩, ⟨g1, i1⟩, ⟨c0, f0⟩, ⟨c1, f1⟩, ⟨c2, f2⟩, ⟨c3, f3⟩, -⟩ := HA.out.mem))
  have HE := At.end2 (x := .int .u32 (fop .sub (fop .mul a c) (fop .mul b d))) (y := .int .u32 (fop .add (fop .mul a d) (fop .mul b c))) HA.out (by omega)
  obtain ⟨e0, e1, hb⟩ := HE
  have HB := Lib.hid hb
  clear hb
  clear g0 i0 g1 i1 c0 f0 c1 f1 c2 f2 c3 f3
  exact bodyPost_ret (v := .agg #[.int .u32 (fop .sub (fop .mul a c) (fop .mul b d)), .int .u32 (fop .add (fop .mul a d) (fop .mul b c))]) (by simp [results, Try.results21, go_sem, e0, e1]) rfl ⟨rfl, HB.out⟩

end Nu
end Go.Proofs.Ytkkdimhibfpopaa
