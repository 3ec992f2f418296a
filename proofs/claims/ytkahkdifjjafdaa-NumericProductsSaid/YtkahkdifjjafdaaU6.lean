/- NumericProducts: the walk. -/
import Derived.Test.YtkahkdifjjafdaaU5
namespace Go.Proofs.Ytkahkdifjjafdaa
open Go.ChangeShapes Go.WideShapes Go.ChangeAt Go.RowKit Go.WideMaps Go.Maps
namespace Nu

theorem keep12 {W : World} {p q : Nat} {c0 c1 c2 c3 c4 c5 d0 d1 d2 d3 d4 d5 : Value} {x y : Nat × Nat × Value} (h : Mem W (x :: y :: (q, 0, d0) :: (q, 1, d1) :: (q, 2, d2) :: (q, 3, d3) :: (q, 4, d4) :: (q, 5, d5) :: (p, 0, c0) :: (p, 1, c1) :: (p, 2, c2) :: (p, 3, c3) :: (p, 4, c4) :: (p, 5, c5) :: [])) :
    W.cell? ⟨p, 0, none⟩ = some c0 ∧ W.cell? ⟨p, 1, none⟩ = some c1 ∧ W.cell? ⟨p, 2, none⟩ = some c2 ∧ W.cell? ⟨p, 3, none⟩ = some c3 ∧ W.cell? ⟨p, 4, none⟩ = some c4 ∧ W.cell? ⟨p, 5, none⟩ = some c5 ∧ W.cell? ⟨q, 0, none⟩ = some d0 ∧ W.cell? ⟨q, 1, none⟩ = some d1 ∧ W.cell? ⟨q, 2, none⟩ = some d2 ∧ W.cell? ⟨q, 3, none⟩ = some d3 ∧ W.cell? ⟨q, 4, none⟩ = some d4 ∧ W.cell? ⟨q, 5, none⟩ = some d5 := by
  obtain ⟨_, _, ⟨b0, _⟩, ⟨b1, _⟩, ⟨b2, _⟩, ⟨b3, _⟩, ⟨b4, _⟩, ⟨b5, _⟩, ⟨a0, _⟩, ⟨a1, _⟩, ⟨a2, _⟩, ⟨a3, _⟩, ⟨a4, _⟩, ⟨a5, _⟩, _⟩ := h
  exact ⟨a0, a1, a2, a3, a4, a5, b0, b1, b2, b3, b4, b5⟩

theorem ai_bound (c0 c1 c2 c3 c4 c5 : Int) (h : -128 ≤ c0 ∧ c0 ≤ 127 ∧ -128 ≤ c1 ∧ c1 ≤ 127 ∧ -128 ≤ c2 ∧ c2 ≤ 127 ∧ -128 ≤ c3 ∧ c3 ≤ 127 ∧ -128 ≤ c4 ∧ c4 ≤ 127 ∧ -128 ≤ c5 ∧ c5 ≤ 127) : ∀ j, -128 ≤ (ai [(c0, c1), (c2, c3), (c4, c5)] j).1 ∧ (ai [(c0, c1), (c2, c3), (c4, c5)] j).1 ≤ 127 ∧ -128 ≤ (ai [(c0, c1), (c2, c3), (c4, c5)] j).2 ∧ (ai [(c0, c1), (c2, c3), (c4, c5)] j).2 ≤ 127 := by
  intro j
  match j with
  | 0 => simp [ai]; omega
  | 1 => simp [ai]; omega
  | 2 => simp [ai]; omega
  | j + 3 => simp [ai]

theorem six_cells (w : World) (c0 c1 c2 c3 c4 c5 : Value) (t : TypeId) {W : World} {L : List (Nat × Nat × Value)} (h : At w W L) (k : Nat) (hk : W.heap.size = k) : At w (W.alloc (.cells #[c0, c1, c2, c3, c4, c5] t)) ((k, 0, c0) :: (k, 1, c1) :: (k, 2, c2) :: (k, 3, c3) :: (k, 4, c4) :: (k, 5, c5) :: L) := by
  subst hk
  exact ⟨h.below.alloc h.below.size _, new_cell W _ t 0 _ rfl, new_cell W _ t 1 _ rfl, new_cell W _ t 2 _ rfl, new_cell W _ t 3 _ rfl, new_cell W _ t 4 _ rfl, new_cell W _ t 5 _ rfl, h.mem.alloc⟩

theorem tmod_four (a : Int) : -3 ≤ a.tmod 4 ∧ a.tmod 4 ≤ 3 := by
  have h1 := Int.lt_tmod_of_pos a (show (0 : Int) < 4 by omega)
  have h2 := Int.tmod_lt_of_pos a (show (0 : Int) < 4 by omega)
  omega
theorem tmod_nat (n : Int) (h : 0 ≤ n) : ∃ r : Nat, n.tmod 4 = (r : Int) ∧ r ≤ 3 := by
  have h1 := Int.tmod_nonneg 4 h
  have h2 := tmod_four n
  exact ⟨(n.tmod 4).toNat, by omega, by omega⟩

set_option maxRecDepth 100000 in
set_option maxHeartbeats 4000000 in
theorem products_any (a0 a1 a2 a3 a4 a5 b0 b1 b2 b3 b4 b5 m n x0 x1 : Int) (w : World) (ha : -128 ≤ a0 ∧ a0 ≤ 127 ∧ -128 ≤ a1 ∧ a1 ≤ 127 ∧ -128 ≤ a2 ∧ a2 ≤ 127 ∧ -128 ≤ a3 ∧ a3 ≤ 127 ∧ -128 ≤ a4 ∧ a4 ≤ 127 ∧ -128 ≤ a5 ∧ a5 ≤ 127) (hb : -128 ≤ b0 ∧ b0 ≤ 127 ∧ -128 ≤ b1 ∧ b1 ≤ 127 ∧ -128 ≤ b2 ∧ b2 ≤ 127 ∧ -128 ≤ b3 ∧ b3 ≤ 127 ∧ -128 ≤ b4 ∧ b4 ≤ 127 ∧ -128 ≤ b5 ∧ b5 ≤ 127) (hm : 0 ≤ m) (hn : 0 ≤ n) (hx : -128 ≤ x0 ∧ x0 ≤ 127 ∧ -128 ≤ x1 ∧ x1 ≤ 127) :
    Calls Try.prog 8 #[.agg #[.int .i8 a0, .int .i8 a1, .int .i8 a2, .int .i8 a3, .int .i8 a4, .int .i8 a5], .agg #[.int .i8 b0, .int .i8 b1, .int .i8 b2, .int .i8 b3, .int .i8 b4, .int .i8 b5], .int .u8 m, .int .u8 n, .agg #[.int .i8 x0, .int .i8 x1]] w fun e w' => e = .returned (.bool true) ∧ Below w.heap.size w w' := by
  obtain ⟨r, hr, hr3⟩ := tmod_nat m hm
  obtain ⟨s, hs, hs3⟩ := tmod_nat n hn
  have hab := ai_bound a0 a1 a2 a3 a4 a5 ha
  have hbb := ai_bound b0 b1 b2 b3 b4 b5 hb
  have hA := ((six_cells w (.int .i8 b0) (.int .i8 b1) (.int .i8 b2) (.int .i8 b3) (.int .i8 b4) (.int .i8 b5) 77 (six_cells w (.int .i8 a0) (.int .i8 a1) (.int .i8 a2) (.int .i8 a3) (.int .i8 a4) (.int .i8 a5) 77 (At.first w) _ rfl) (w.heap.size + 1) (by simp)).two (.int .i8 x0) (.int .i8 x1) 76 (w.heap.size + 1 + 1) (by simp))
  obtain ⟨W0, hW0⟩ : ∃ W0, W0 = ((w.alloc (.cells #[.int .i8 a0, .int .i8 a1, .int .i8 a2, .int .i8 a3, .int .i8 a4, .int .i8 a5] 77)).alloc (.cells #[.int .i8 b0, .int .i8 b1, .int .i8 b2, .int .i8 b3, .int .i8 b4, .int .i8 b5] 77)).alloc (.cells #[.int .i8 x0, .int .i8 x1] 76) := ⟨_, rfl⟩
  rw [← hW0] at hA
  have HA := Lib.hid hA
  have HW := Lib.hid hW0
  have HR := Lib.hid (And.intro hr hr3)
  have HS := Lib.hid (And.intro hs hs3)
  have HAB := Lib.hid hab
  have HBB := Lib.hid hbb
  have e1 : IntKind.i64.wrap x0 = x0 := IntWalk.i64_in _ (by omega)
  have e2 : IntKind.i64.wrap x1 = x1 := IntWalk.i64_in _ (by omega)
  have tx := tmod_four x0
  have ty := tmod_four x1
  have e3 : IntKind.i64.wrap (x0.tmod 4) = x0.tmod 4 := IntWalk.i64_in _ (by omega)
  have e4 : IntKind.i64.wrap (x1.tmod 4) = x1.tmod 4 := IntWalk.i64_in _ (by omega)
  have HTX := Lib.hid (And.intro tx ty)
  clear hA hW0 hr hr3 hs hs3 hab hbb ha hb hm hn hx tx ty
  go_enter Try.func8, Try.ntmps8
  go_upto_region 1 with (fail)
  rw [← HW.out]
  clear HW
  go_wp2_with fail
  have k0 : W0.cell? ⟨w.heap.size, 0, none⟩ = some (.int .i8 a0) ∧ W0.cell? ⟨w.heap.size, 1, none⟩ = some (.int .i8 a1) ∧ W0.cell? ⟨w.heap.size, 2, none⟩ = some (.int .i8 a2) ∧ W0.cell? ⟨w.heap.size, 3, none⟩ = some (.int .i8 a3) ∧ W0.cell? ⟨w.heap.size, 4, none⟩ = some (.int .i8 a4) ∧ W0.cell? ⟨w.heap.size, 5, none⟩ = some (.int .i8 a5) ∧ W0.cell? ⟨w.heap.size + 1, 0, none⟩ = some (.int .i8 b0) ∧ W0.cell? ⟨w.heap.size + 1, 1, none⟩ = some (.int .i8 b1) ∧ W0.cell? ⟨w.heap.size + 1, 2, none⟩ = some (.int .i8 b2) ∧ W0.cell? ⟨w.heap.size + 1, 3, none⟩ = some (.int .i8 b3) ∧ W0.cell? ⟨w.heap.size + 1, 4, none⟩ = some (.int .i8 b4) ∧ W0.cell? ⟨w.heap.size + 1, 5, none⟩ = some (.int .i8 b5) := keep12 HA.out.mem
  go_region_held3 (fun w' => w'.cell? ⟨w.heap.size, 0, none⟩ = some (.int .i8 a0) ∧ w'.cell? ⟨w.heap.size, 1, none⟩ = some (.int .i8 a1) ∧ w'.cell? ⟨w.heap.size, 2, none⟩ = some (.int .i8 a2) ∧ w'.cell? ⟨w.heap.size, 3, none⟩ = some (.int .i8 a3) ∧ w'.cell? ⟨w.heap.size, 4, none⟩ = some (.int .i8 a4) ∧ w'.cell? ⟨w.heap.size, 5, none⟩ = some (.int .i8 a5) ∧ w'.cell? ⟨w.heap.size + 1, 0, none⟩ = some (.int .i8 b0) ∧ w'.cell? ⟨w.heap.size + 1, 1, none⟩ = some (.int .i8 b1) ∧ w'.cell? ⟨w.heap.size + 1, 2, none⟩ = some (.int .i8 b2) ∧ w'.cell? ⟨w.heap.size + 1, 3, none⟩ = some (.int .i8 b3) ∧ w'.cell? ⟨w.heap.size + 1, 4, none⟩ = some (.int .i8 b4) ∧ w'.cell? ⟨w.heap.size + 1, 5, none⟩ = some (.int .i8 b5)) (first | exact k2 | exact k1 | exact k0)
    (first | (go_at_call 45
              refine (cut_any _ _ _ _ _ _ _ ?_ _ ?_ ?_ ?_).mono ?_
              rotate_left 2
              first | exact HR.out.1 | exact HS.out.1
              first | exact HR.out.2 | exact HS.out.2
              rotate_left 1
              first | exact HAB.out | exact HBB.out
              rintro e w1 ⟨v, rfl, hr1, hb1⟩
              have HA := Lib.hid (HA.out.step hb1)
              first
                | (have HSA := Lib.hid (HSA.out.step hb1)
                   have HSB := Lib.hid (Sl.of_own hr1 (cutN_len _ _))
                   have k2 : w1.cell? ⟨w.heap.size, 0, none⟩ = some (.int .i8 a0) ∧ w1.cell? ⟨w.heap.size, 1, none⟩ = some (.int .i8 a1) ∧ w1.cell? ⟨w.heap.size, 2, none⟩ = some (.int .i8 a2) ∧ w1.cell? ⟨w.heap.size, 3, none⟩ = some (.int .i8 a3) ∧ w1.cell? ⟨w.heap.size, 4, none⟩ = some (.int .i8 a4) ∧ w1.cell? ⟨w.heap.size, 5, none⟩ = some (.int .i8 a5) ∧ w1.cell? ⟨w.heap.size + 1, 0, none⟩ = some (.int .i8 b0) ∧ w1.cell? ⟨w.heap.size + 1, 1, none⟩ = some (.int .i8 b1) ∧ w1.cell? ⟨w.heap.size + 1, 2, none⟩ = some (.int .i8 b2) ∧ w1.cell? ⟨w.heap.size + 1, 3, none⟩ = some (.int .i8 b3) ∧ w1.cell? ⟨w.heap.size + 1, 4, none⟩ = some (.int .i8 b4) ∧ w1.cell? ⟨w.heap.size + 1, 5, none⟩ = some (.int .i8 b5) := keep12 HA.out.mem
                   clear hb1 hr1)
                | (have HSA := Lib.hid (Sl.of_own hr1 (cutN_len _ _))
                   have k1 : w1.cell? ⟨w.heap.size, 0, none⟩ = some (.int .i8 a0) ∧ w1.cell? ⟨w.heap.size, 1, none⟩ = some (.int .i8 a1) ∧ w1.cell? ⟨w.heap.size, 2, none⟩ = some (.int .i8 a2) ∧ w1.cell? ⟨w.heap.size, 3, none⟩ = some (.int .i8 a3) ∧ w1.cell? ⟨w.heap.size, 4, none⟩ = some (.int .i8 a4) ∧ w1.cell? ⟨w.heap.size, 5, none⟩ = some (.int .i8 a5) ∧ w1.cell? ⟨w.heap.size + 1, 0, none⟩ = some (.int .i8 b0) ∧ w1.cell? ⟨w.heap.size + 1, 1, none⟩ = some (.int .i8 b1) ∧ w1.cell? ⟨w.heap.size + 1, 2, none⟩ = some (.int .i8 b2) ∧ w1.cell? ⟨w.heap.size + 1, 3, none⟩ = some (.int .i8 b3) ∧ w1.cell? ⟨w.heap.size + 1, 4, none⟩ = some (.int .i8 b4) ∧ w1.cell? ⟨w.heap.size + 1, 5, none⟩ = some (.int .i8 b5) := keep12 HA.out.mem
                   clear hb1 hr1)
              go_simp))
  obtain ⟨LA, hLA⟩ : ∃ L, L = cutN [(a0, a1), (a2, a3), (a4, a5)] r := ⟨_, rfl⟩
  obtain ⟨LB, hLB⟩ : ∃ L, L = cutN [(b0, b1), (b2, b3), (b4, b5)] s := ⟨_, rfl⟩
  rw [← hLA] at HSA
  rw [← hLB] at HSB
  have hla : LA.length ≤ 3 := by rw [hLA, cutN_len]; exact HR.out.2
  have hlb : LB.length ≤ 3 := by rw [hLB, cutN_len]; exact HS.out.2
  have hlr : (prodW LA LB).length ≤ 200 := by
    unfold prodW
    split
    · simp
    · rw [outP_len]; omega
  have heq := eval_cut [(a0, a1), (a2, a3), (a4, a5)] [(b0, b1), (b2, b3), (b4, b5)] r s (wd (x0.tmod 4), wd (x1.tmod 4)) (x0.tmod 4, x1.tmod 4) HR.out.2 HS.out.2 (RB.wd (by have := HTX.out; omega) (by have := HTX.out; omega) (by decide))
  rw [← hLA, ← hLB] at heq
  have HLA := Lib.hid (show LA.length ≤ 64 by omega)
  have HLB := Lib.hid (show LB.length ≤ 64 by omega)
  have HLA2 := Lib.hid (show LA.length ≤ 200 by omega)
  have HLB2 := Lib.hid (show LB.length ≤ 200 by omega)
  have HLR := Lib.hid hlr
  have HEQ := Lib.hid heq
  clear hLA hLB hla hlb hlr heq
  obtain ⟨⟨x0c, -⟩, ⟨x1c, -⟩, -⟩ := HA.out.mem
  clear k0 k1 k2
  go_upto_region 5 with (first
    | (go_at_call 39; refine (of_int _ _ _).mono ?_; rintro e w3 ⟨rfl, hb3⟩
       have HA := Lib.hid (At.mk (HA.out.step hb3).below trivial : At w w3 [])
       have HSA := Lib.hid (HSA.out.step hb3)
       have HSB := Lib.hid (HSB.out.step hb3)
       clear hb3 x0c x1c
       obtain ⟨z, hz⟩ : ∃ z, z = (wd (x0.tmod 4), wd (x1.tmod 4)) := ⟨_, rfl⟩
       rw [← hz] at HEQ ⊢
       clear hz
       have HAZ := Lib.hid (HA.out.two (.int .u32 z.1) (.int .u32 z.2) 32 _ rfl)
       have HSA := Lib.hid (HSA.out.step ((Below.refl _ w3).alloc (Nat.le_refl _) (.cells #[.int .u32 z.1, .int .u32 z.2] 32)))
       have HSB := Lib.hid (HSB.out.step ((Below.refl _ w3).alloc (Nat.le_refl _) (.cells #[.int .u32 z.1, .int .u32 z.2] 32)))
       unfold num)
    | (go_at_call 30; refine (prod_sl _ _ LA LB _ HSA.out HSB.out HLA.out HLB.out).mono ?_; rintro e w4 ⟨vr, rfl, hsr, hb4⟩
       have HAZ := Lib.hid (HAZ.out.step hb4)
       have HSA := Lib.hid (HSA.out.step hb4)
       have HSB := Lib.hid (HSB.out.step hb4)
       have HSR := Lib.hid hsr
       clear hb4 hsr))
  obtain ⟨⟨z0c, -⟩, ⟨z1c, -⟩, -⟩ := HAZ.out.mem
  have kz := And.intro z0c z1c
  obtain ⟨pe, qe, hpe⟩ := HEQ.out
  have HPE := Lib.hid hpe
  clear hpe z0c z1c
  go_region_held3 (fun w' => w'.cell? ⟨w3.heap.size, 0, none⟩ = some (.int .u32 z.1) ∧ w'.cell? ⟨w3.heap.size, 1, none⟩ = some (.int .u32 z.2)) (exact kz)
    (first
      | (go_at_call 28
         refine (poly_sl _ ?_ z _ ?_ ?_).mono ?_
         rotate_left 1
         first | exact HSR.out | exact HSA.out | exact HSB.out
         first | exact HLR.out | exact HLA2.out | exact HLB2.out
         rintro e w5 ⟨rfl, hb5⟩
         have HAZ := Lib.hid (HAZ.out.step hb5)
         have HSA := Lib.hid (HSA.out.step hb5)
         have HSB := Lib.hid (HSB.out.step hb5)
         have HSR := Lib.hid (HSR.out.step hb5)
         have kz := And.intro HAZ.out.mem.1.1 HAZ.out.mem.2.1.1
         clear hb5
         go_simp)
      | (go_at_call 15
         refine (mul_any _ _ _ _ _).mono ?_
         rintro e w5 ⟨rfl, hb5⟩
         have HAZ := Lib.hid (HAZ.out.step hb5)
         have kz := And.intro HAZ.out.mem.1.1 HAZ.out.mem.2.1.1
         clear hb5
         go_simp)
      | (go_at_call 41
         refine (equal_yes HPE.out.1 HPE.out.2 _).mono ?_
         rintro e w5 ⟨rfl, hb5⟩
         have HAZ := Lib.hid (HAZ.out.step hb5)
         have kz := And.intro HAZ.out.mem.1.1 HAZ.out.mem.2.1.1
         clear hb5
         go_simp)
      | (go_at_call 27
         refine (awake_true _).mono ?_
         rintro e w5 ⟨rfl, hb5⟩
         have HAZ := Lib.hid (HAZ.out.step hb5)
         have kz := And.intro HAZ.out.mem.1.1 HAZ.out.mem.2.1.1
         clear hb5
         go_simp))
  go_wp2
  go_ret
  exact ⟨rfl, HAZ.out.below⟩

end Nu
end Go.Proofs.Ytkahkdifjjafdaa
