/- The law's own examples ('awake'). -/
import Derived.Test.YtkkdimhibfpopaaS6
import Derived.Test.YtkkdimhibfpopaaT1
namespace Go.Proofs.Ytkkdimhibfpopaa
open Go.ChangeShapes Go.WideShapes Go.ChangeAt Go.RowKit Go.WideMaps Go.Maps
namespace Nu

/-- A fifth of a block's cells, all of them numbers: what the law lays out. -/
def exIn : List (Nat × Nat) := [(0, 0), (1065353216, 0), (0, 0), (0, 0)]
def exOut : List (Nat × Nat) := [(1065353216, 0), (0, 3212836864), (3212836864, 0), (0, 1065353216)]
theorem ex_tr : trL 2 exIn = exOut := by decide +kernel

theorem num_new (w : World) (L : List (Nat × Nat)) (cs : Array Value) (t : TypeId) (h : cs.toList = cellsN L) : Num (w.alloc (.cells cs t)) w.heap.size L := by
  intro j x hx
  obtain ⟨a, b⟩ := cellsN_at L j x hx
  rw [← h] at a b
  exact ⟨(new_cell w cs t (2 * j) _ (by simpa using a)).1, (new_cell w cs t (2 * j + 1) _ (by simpa using b)).1⟩

/-- Equal parts: what is in the program's list and in the wanted one is the same number. -/
theorem ex_same (j : Nat) (hj : j < 4) : canon (at2 exOut j).1 = (at2 exOut j).1 ∧ canon (at2 exOut j).2 = (at2 exOut j).2 ∧ (FloatKind.f32.format.order (at2 exOut j).1 (at2 exOut j).1 != some .eq) = false ∧ (FloatKind.f32.format.order (at2 exOut j).2 (at2 exOut j).2 != some .eq) = false := by
  rcases (show j = 0 ∨ j = 1 ∨ j = 2 ∨ j = 3 by omega) with rfl | rfl | rfl | rfl <;> decide +kernel

/-- What a walk that makes memory knows: the frame of the call, and lists of numbers. -/
structure Aw (w W : World) (NL : List (Nat × List (Nat × Nat))) : Prop where
  below : Below w.heap.size w W
  num : ∀ p ∈ NL, Num W p.1 p.2
theorem Aw.step {w W X V : World} {NL : List (Nat × List (Nat × Nat))} (h : Aw w W NL) (hv : Below X.heap.size X V) (e1 : X.heap = W.heap := by rfl) (e2 : X.os = W.os := by rfl) (e3 : X.tape = W.tape := by rfl) (e4 : X.output = W.output := by rfl) : Aw w V NL :=
  ⟨h.below.grown (below_grown hv e1 e2 e3 e4 none) h.below.size (by simp), fun p hp => (h.num p hp).grown (below_grown hv e1 e2 e3 e4 none) (by simp)⟩
theorem Aw.alloc {w W : World} {NL : List (Nat × List (Nat × Nat))} (h : Aw w W NL) (o : Obj) : Aw w (W.alloc o) NL := h.step ((Below.refl _ W).alloc (Nat.le_refl _) o)
theorem Aw.add {w W : World} {NL : List (Nat × List (Nat × Nat))} (h : Aw w W NL) {b : Nat} {L : List (Nat × Nat)} (hN : Num W b L) : Aw w W ((b, L) :: NL) :=
  ⟨h.below, fun p hp => by rcases List.mem_cons.1 hp with rfl | hp; exact hN; exact h.num p hp⟩
theorem Aw.first (w : World) : Aw w w [] := ⟨Below.refl _ _, fun _ h => absurd h (by simp)⟩

set_option maxHeartbeats 4000000 in
theorem awake_true (w : World) : Calls Try.prog 27 #[] w fun e w' => e = .returned (.bool true) ∧ Below w.heap.size w w' := by
  have HC := Lib.hid (show canon 0 = 0 ∧ canon 1065353216 = 1065353216 ∧ canon 3212836864 = 3212836864 from ⟨by decide, by decide, by decide⟩)
  have HD := Lib.hid (show wd 0 = 0 ∧ wd 1 = 1065353216 ∧ wd 2 = 1073741824 ∧ wd 3 = 1077936128 ∧ wd 4 = 1082130432 ∧ wd 5 = 1084227584 ∧ wd (-1) = 3212836864 from ⟨by decide, by decide, by decide, by decide, by decide, by decide, by decide⟩)
  have HL := Lib.hid (show ((0 : Nat) : Int) = 0 ∧ ((1065353216 : Nat) : Int) = 1065353216 ∧ ((3212836864 : Nat) : Int) = 3212836864 from ⟨rfl, rfl, rfl⟩)
  have HA := Lib.hid (Aw.first w)
  go_enter Try.func27, Try.ntmps27
  go_upto_region 2 with (first
    | (go_at_call 39; refine (of_int _ _ _).mono ?_; rintro e w1 ⟨rfl, hb1⟩; have HA := Lib.hid (HA.out.step hb1); clear hb1; simp only [num, HD.out.1, HD.out.2.1, HL.out.1, HL.out.2.1])
    | (go_at_call 34
       have hN := num_new w1 exIn #[.int .u32 0, .int .u32 0, .int .u32 1065353216, .int .u32 0, .int .u32 0, .int .u32 0, .int .u32 0, .int .u32 0] 32 (by rfl)
       refine (transform_fwd 2 4 4 w1.heap.size exIn _ (by omega) rfl rfl hN).mono ?_
       rintro e w2 ⟨G, capG, rfl, hn, hg, hb2⟩
       rw [ex_tr] at hn
       have HA := Lib.hid (((HA.out.alloc (.cells #[.int .u32 0, .int .u32 0, .int .u32 1065353216, .int .u32 0, .int .u32 0, .int .u32 0, .int .u32 0, .int .u32 0] 32)).step hb2).add hn)
       clear hN hn hg hb2))
  go_upto_region 5 with (go_at_call 24; refine (rof_any _ _ _).mono ?_; rintro e w3 ⟨rfl, hb1⟩; have HA := Lib.hid (HA.out.step hb1); clear hb1; simp only [HC.out.1, HC.out.2.1, HC.out.2.2, HL.out.1, HL.out.2.1, HL.out.2.2])
  have hN := num_new w3 exOut #[.int .u32 1065353216, .int .u32 0, .int .u32 0, .int .u32 3212836864, .int .u32 3212836864, .int .u32 0, .int .u32 0, .int .u32 1065353216] 38 (by rfl)
  have HA := Lib.hid ((HA.out.alloc (.cells #[.int .u32 1065353216, .int .u32 0, .int .u32 0, .int .u32 3212836864, .int .u32 3212836864, .int .u32 0, .int .u32 0, .int .u32 1065353216] 38)).add hN)
  clear hN
  obtain ⟨W, hW⟩ : ∃ W, W = w3.alloc (.cells #[.int .u32 1065353216, .int .u32 0, .int .u32 0, .int .u32 3212836864, .int .u32 3212836864, .int .u32 0, .int .u32 0, .int .u32 1065353216] 38) := ⟨_, rfl⟩
  obtain ⟨R, hR⟩ : ∃ R, R = w3.heap.size := ⟨_, rfl⟩
  rw [← hW, ← hR] at HA
  rw [← hW, ← hR]
  clear hW hR
  go_wp2_with fail
  go_loopw [32] (fun v wr => ∃ j : Nat, v = .int .i64 j ∧ j ≤ 4 ∧ Aw w wr [(R, exOut), (G, exOut)]) (fun v _ => 100 - (intOf v).toNat)
  case atStart => exact ⟨0, rfl, by omega, HA.out⟩
  case round =>
    obtain ⟨j, rfl, hj, ha⟩ := hrel
    have HA := Lib.hid ha
    have HJ := Lib.hid hj
    clear hj ha
    by_cases hlt : j < 4
    · obtain ⟨e1, e2, e3, e4⟩ := ex_same j hlt
      have hat : exOut[j]? = some (at2 exOut j) := at2_at (by simpa [exOut] using hlt)
      obtain ⟨x, hx⟩ : ∃ x, x = at2 exOut j := ⟨_, rfl⟩
      rw [← hx] at e1 e2 e3 e4 hat
      obtain ⟨c0, c1⟩ := HA.out.num (G, exOut) (by simp) j x hat
      obtain ⟨r0, r1⟩ := HA.out.num (R, exOut) (by simp) j x hat
      dsimp only at c0 c1 r0 r1
      rw [Nat.mul_comm] at c0 c1 r0 r1
      have HE := Lib.hid (And.intro e1 e2)
      have i1 : (j : Int) < 4 := by omega
      have i2 : (0 : Int) ≤ j := by omega
      have HXX := Lib.hid hx
      have hat' := Lib.hid hat
      clear e1 e2 hx hat
      go_wp2_with (go_at_call 11; refine (parts_any _ _ _).mono ?_; rintro e w4 ⟨rfl, hb4⟩; have HA := Lib.hid (HA.out.step hb4); clear hb4 c0 c1 r0 r1; rw [HE.out.1, HE.out.2])
      obtain ⟨r0, r1⟩ := HA.out.num (R, exOut) (by simp) j x hat'.out
      dsimp only at r0 r1
      rw [Nat.mul_comm] at r0 r1
      have hfb := frombits_run
      go_quiet (fail)
      clear r0 r1
      go_wp2
      go_roundw
      case rel => exact ⟨j + 1, congrArg (Value.int .i64) (by omega), by omega, HA.out.step (below_drewN (Below.refl _ _) _)⟩
      case measure => simp [intOf]; omega
    · have hj4 : j = 4 := by have := HJ.out; omega
      clear hlt
      subst hj4
      have HM := Lib.hid (show mulW (1065353216, 1073741824) (1077936128, 3212836864) = (1084227584, 1084227584) by decide +kernel)
      have HL2 := Lib.hid (show ((1073741824 : Nat) : Int) = 1073741824 ∧ ((1077936128 : Nat) : Int) = 1077936128 ∧ ((1082130432 : Nat) : Int) = 1082130432 ∧ ((1084227584 : Nat) : Int) = 1084227584 from ⟨rfl, rfl, rfl, rfl⟩)
      have htb := tobits_run
      go_wp2_with (first
        | (go_at_call 39; refine (of_int _ _ _).mono ?_; rintro e w1 ⟨rfl, hb1⟩; have HA := Lib.hid (HA.out.step hb1); clear hb1; simp only [num, HD.out.2.1, HD.out.2.2.1, HD.out.2.2.2.1, HD.out.2.2.2.2.1, HD.out.2.2.2.2.2.1, HD.out.2.2.2.2.2.2, HL.out.2.1, HL.out.2.2, HL2.out.1, HL2.out.2.1, HL2.out.2.2.1, HL2.out.2.2.2])
        | (go_at_call 15; refine (mul_any 1065353216 1073741824 1077936128 3212836864 _).mono ?_; rintro e w1 ⟨rfl, hb1⟩; have HA := Lib.hid (HA.out.step hb1); clear hb1; rw [HM.out]; simp only [num, HL2.out.2.2.2])
        | (go_at_call 25; refine (abs_five _).mono ?_; rintro e w1 ⟨rfl, hb1⟩; have HA := Lib.hid (HA.out.step hb1); clear hb1))
      go_ret
      exact ⟨rfl, HA.out.below⟩

end Nu
end Go.Proofs.Ytkkdimhibfpopaa
