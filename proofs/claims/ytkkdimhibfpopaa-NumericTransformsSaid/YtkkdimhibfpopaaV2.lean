/- Contracts: the reference's value of a polynomial. -/
import Derived.Test.YtkkdimhibfpopaaU1
import Derived.Test.YtkkdimhibfpopaaV1
namespace Go.Proofs.Ytkkdimhibfpopaa
open Go.ChangeShapes Go.WideShapes Go.ChangeAt Go.RowKit Go.WideMaps Go.Maps
namespace Nu

def rp (L : List (Nat × Nat)) (x : Nat × Nat) : Nat → Nat × Nat
  | 0 => (0, 0)
  | t + 1 => hornW L x t
theorem polyW_rp (L : List (Nat × Nat)) (x : Nat × Nat) : polyW L x = rp L x L.length := by
  unfold polyW
  cases h : L.length with
  | zero => rfl
  | succ n => rw [if_neg (by omega)]; rfl

set_option maxHeartbeats 1000000 in
theorem rpoly_nil (ao : Option Addr) (cap x y : Nat) (w : World) : Calls Try.prog 29 #[.slice ao 0 cap, .agg #[.int .u32 x, .int .u32 y]] w fun e w' => e = .returned (num (0, 0)) ∧ Below w.heap.size w w' := by
  have hA := (((At.first w).two (.int .u32 x) (.int .u32 y) 38 _ rfl).two (.int .u32 0) (.int .u32 0) 38 (w.heap.size + 1) (by simp)).two (.int .u32 0) (.int .u32 0) 38 (w.heap.size + 1 + 1) (by simp)
  obtain ⟨W0, hW0⟩ : ∃ W0, W0 = ((w.alloc (.cells #[.int .u32 x, .int .u32 y] 38)).alloc (.cells #[.int .u32 0, .int .u32 0] 38)).alloc (.cells #[.int .u32 0, .int .u32 0] 38) := ⟨_, rfl⟩
  rw [← hW0] at hA
  have HA := Lib.hid hA
  have HW := Lib.hid hW0
  clear hA hW0
  go_enter Try.func29, Try.ntmps29
  go_upto_region 2 with (fail)
  rw [← HW.out]
  clear HW
  go_wp2_with fail
  go_loopw [6] (fun v wr => v = .int .i64 (-1) ∧ At w wr [(w.heap.size + 1 + 1, 0, .int .u32 0), (w.heap.size + 1 + 1, 1, .int .u32 0), (w.heap.size + 1, 0, .int .u32 0), (w.heap.size + 1, 1, .int .u32 0)]) (fun v _ => 0)
  case atStart => exact ⟨rfl, ⟨HA.out.below, HA.out.mem.1, HA.out.mem.2.1, HA.out.mem.2.2.1, HA.out.mem.2.2.2.1, trivial⟩⟩
  case round =>
    obtain ⟨rfl, ha⟩ := hrel
    have HA := Lib.hid ha
    clear ha
    obtain ⟨⟨s0, g0⟩, ⟨s1, g1⟩, ⟨z0, y0⟩, ⟨z1, y1⟩, -⟩ := HA.out.mem
    go_wp2
    have hE := HA.out.swap2.put2 (u' := .int .u32 0) (v' := .int .u32 0) (by omega) (by intro z hz; simp at hz; rcases hz with rfl | rfl <;> (dsimp only; omega))
    obtain ⟨⟨e0, -⟩, ⟨e1, -⟩, -⟩ := hE.mem
    have HB := Lib.hid hE.below
    clear hE s0 g0 s1 g1 z0 y0 z1 y1
    exact bodyPost_ret (v := .agg #[.int .u32 0, .int .u32 0]) (by simp [results, Try.results29, go_sem, e0, e1]) rfl ⟨rfl, HB.out⟩

set_option maxRecDepth 100000 in
set_option maxHeartbeats 4000000 in
theorem rpoly_any (n b cap : Nat) (L : List (Nat × Nat)) (x : Nat × Nat) (w : World) (hL : L.length = n) (hn : 1 ≤ n) (h200 : n ≤ 200) (hN : Num w b L) :
    Calls Try.prog 29 #[.slice (some ⟨b, 0, none⟩) n cap, .agg #[.int .u32 x.1, .int .u32 x.2]] w fun e w' => e = .returned (num (polyW L x)) ∧ Below w.heap.size w w' := by
  have hA := (((At.first w).two (.int .u32 x.1) (.int .u32 x.2) 38 _ rfl).two (.int .u32 0) (.int .u32 0) 38 (w.heap.size + 1) (by simp)).two (.int .u32 0) (.int .u32 0) 38 (w.heap.size + 1 + 1) (by simp)
  obtain ⟨W0, hW0⟩ : ∃ W0, W0 = ((w.alloc (.cells #[.int .u32 x.1, .int .u32 x.2] 38)).alloc (.cells #[.int .u32 0, .int .u32 0] 38)).alloc (.cells #[.int .u32 0, .int .u32 0] 38) := ⟨_, rfl⟩
  rw [← hW0] at hA
  have hbw : b < w.heap.size := hN.lt (fun e => by rw [e] at hL; simp at hL; omega)
  have HA := Lib.hid hA
  have HW := Lib.hid hW0
  have HN := Lib.hid hN
  have HL := Lib.hid hL
  have HBW := Lib.hid hbw
  have hn' := Lib.hid hn
  have h2' := Lib.hid h200
  have i1 : IntKind.i64.wrap ((n : Int) - 1) = (n : Int) - 1 := IntWalk.i64_in _ (by omega)
  clear hA hW0 hN hL hbw hn h200
  go_enter Try.func29, Try.ntmps29
  go_upto_region 2 with (fail)
  rw [← HW.out]
  clear HW
  go_wp2_with fail
  go_loopw [6] (fun v wr => ∃ t : Nat, v = .int .i64 ((n : Int) - 1 - t) ∧ t ≤ n ∧ At w wr [(w.heap.size + 1 + 1, 0, .int .u32 (rp L x t).1), (w.heap.size + 1 + 1, 1, .int .u32 (rp L x t).2), (w.heap.size + 1, 0, .int .u32 0), (w.heap.size + 1, 1, .int .u32 0), (w.heap.size, 0, .int .u32 x.1), (w.heap.size, 1, .int .u32 x.2)]) (fun v _ => (intOf v + 3).toNat)
  case atStart => exact ⟨0, by simp, Nat.zero_le _, HA.out⟩
  case round =>
    obtain ⟨t, rfl, ht, ha⟩ := hrel
    have HA := Lib.hid ha
    have HT := Lib.hid ht
    clear ha ht
    obtain ⟨s, hs⟩ : ∃ s, s = rp L x t := ⟨_, rfl⟩
    rw [← hs] at HA
    have Hs := Lib.hid hs
    clear hs
    by_cases hlt : t < n
    · obtain ⟨q2, hq2⟩ : ∃ q2, q2 = n - 1 - t := ⟨_, rfl⟩
      have e : (n : Int) - 1 - t = (q2 : Int) := by omega
      rw [e]
      obtain ⟨u, hu⟩ : ∃ u, u = at2 L q2 := ⟨_, rfl⟩
      have hat : L[q2]? = some u := by rw [hu]; exact at2_at (by rw [HL.out]; omega)
      have i3 : (q2 : Int) < n := by omega
      have i4 : (0 : Int) ≤ q2 := by omega
      have i6 : IntKind.i64.wrap ((q2 : Int) - 1) = (q2 : Int) - 1 := IntWalk.i64_in _ (by have := h2'.out; omega)
      have HU := Lib.hid hat
      have Hu := Lib.hid hu
      have Hq2 := Lib.hid hq2
      have HE := Lib.hid e
      have HLT := Lib.hid hlt
      by_cases ht0 : t = 0
      · have i7 : (q2 : Int) = (n : Int) - 1 := by omega
        have i8 : ((q2 : Int) == (n : Int) - 1) = true := by simp; omega
        have HT0 := Lib.hid ht0
        have I7 := Lib.hid i7
        clear hat hu hq2 e hlt ht0 i7
        go_wp2_with fail
        obtain ⟨⟨s0, g0⟩, ⟨s1, g1⟩, ⟨z0, y0⟩, ⟨z1, y1⟩, ⟨c0, f0⟩, ⟨c1, f1⟩, -⟩ := HA.out.mem; obtain ⟨l0, l1⟩ := (HN.out.below rfl HA.out.below) q2 u HU.out; rw [Nat.mul_comm] at l0 l1
        have k0 := And.intro l0 l1
        go_region_held3 (fun w' => w'.cell? ⟨b, q2 * 2, none⟩ = some (.int .u32 u.1) ∧ w'.cell? ⟨b, q2 * 2 + 1, none⟩ = some (.int .u32 u.2)) (first | exact kx | exact ⟨far2 l0 (by have := HBW.out; omega), far2 l1 (by have := HBW.out; omega)⟩ | exact k0)
          (first
            | (go_at_call 51
               refine (rf_any _ _).mono ?_
               rintro e w1 ⟨rfl, rfl⟩
               go_simp)
            | (go_at_call 24
               refine (rof_any _ _ _).mono ?_
               rintro e w3 ⟨rfl, hb1⟩
               clear s0 g0 s1 g1 z0 y0 z1 y1 c0 f0 c1 f1 l0 l1
               have HA := Lib.hid (HA.out.step hb1)
               obtain ⟨⟨s0, g0⟩, ⟨s1, g1⟩, ⟨z0, y0⟩, ⟨z1, y1⟩, ⟨c0, f0⟩, ⟨c1, f1⟩, -⟩ := HA.out.mem; obtain ⟨l0, l1⟩ := (HN.out.below rfl HA.out.below) q2 u HU.out; rw [Nat.mul_comm] at l0 l1
               have kx := And.intro l0 l1
               clear hb1
               go_simp))
        have hh : rp L x (t + 1) = (canon u.1, canon u.2) := by
          rw [HT0.out]
          show can2 (at2 L (L.length - 1)) = _
          rw [HL.out, Hu.out, Hq2.out, HT0.out]
          rfl
        have hA := HA.out.put2 (u' := .int .u32 (rp L x (t + 1)).1) (v' := .int .u32 (rp L x (t + 1)).2) (by omega) (by intro z hz; simp at hz; rcases hz with rfl | rfl | rfl | rfl <;> (dsimp only; omega))
        rw [hh] at hA
        have HA2 := Lib.hid hA
        have HH := Lib.hid hh
        clear hA hh
        clear s0 g0 s1 g1 z0 y0 z1 y1 c0 f0 c1 f1 l0 l1
        go_wp2
        go_roundw
        case rel => exact ⟨t + 1, congrArg (Value.int .i64) (by have := HE.out; omega), by have := HLT.out; omega, by rw [HH.out]; exact HA2.out⟩
        case measure => simp [intOf]; omega
      · have i7 : ¬ (q2 : Int) = (n : Int) - 1 := by omega
        have i8 : ((q2 : Int) == (n : Int) - 1) = false := by simp; omega
        obtain ⟨t', ht'⟩ : ∃ t', t = t' + 1 := ⟨t - 1, by omega⟩
        have HT0 := Lib.hid ht'
        clear hat hu hq2 e hlt ht0 i7 ht'
        go_wp2_with fail
        obtain ⟨⟨s0, g0⟩, ⟨s1, g1⟩, ⟨z0, y0⟩, ⟨z1, y1⟩, ⟨c0, f0⟩, ⟨c1, f1⟩, -⟩ := HA.out.mem; obtain ⟨l0, l1⟩ := (HN.out.below rfl HA.out.below) q2 u HU.out; rw [Nat.mul_comm] at l0 l1
        go_region_with (first
          | (go_at_call 21; refine (rmul_any x.1 x.2 s.1 s.2 _).mono ?_; rintro e w3 ⟨rfl, hb1⟩; clear s0 g0 s1 g1 z0 y0 z1 y1 c0 f0 c1 f1 l0 l1; have HA := Lib.hid (HA.out.step hb1); obtain ⟨⟨s0, g0⟩, ⟨s1, g1⟩, ⟨z0, y0⟩, ⟨z1, y1⟩, ⟨c0, f0⟩, ⟨c1, f1⟩, -⟩ := HA.out.mem; obtain ⟨l0, l1⟩ := (HN.out.below rfl HA.out.below) q2 u HU.out; rw [Nat.mul_comm] at l0 l1; clear hb1; obtain ⟨m, hm⟩ : ∃ m, m = mulW (x.1, x.2) (s.1, s.2) := ⟨_, rfl⟩; rw [← hm]; have HM := Lib.hid hm; clear hm; unfold num)
          | (go_at_call 19; refine (radd_any u.1 u.2 m.1 m.2 _).mono ?_; rintro e w3 ⟨rfl, hb1⟩; clear s0 g0 s1 g1 z0 y0 z1 y1 c0 f0 c1 f1 l0 l1; have HA := Lib.hid (HA.out.step hb1); obtain ⟨⟨s0, g0⟩, ⟨s1, g1⟩, ⟨z0, y0⟩, ⟨z1, y1⟩, ⟨c0, f0⟩, ⟨c1, f1⟩, -⟩ := HA.out.mem; obtain ⟨l0, l1⟩ := (HN.out.below rfl HA.out.below) q2 u HU.out; rw [Nat.mul_comm] at l0 l1; clear hb1; obtain ⟨a, ha⟩ : ∃ a, a = addW (u.1, u.2) (m.1, m.2) := ⟨_, rfl⟩; rw [← ha]; have HAA := Lib.hid ha; clear ha; unfold num))
        all_goals
          have hh : rp L x (t + 1) = a := by
            rw [HT0.out]
            show addW (at2 L (L.length - 2 - t')) (mulW x (hornW L x t')) = _
            have h1 : hornW L x t' = s := by rw [Hs.out, HT0.out]; rfl
            rw [HL.out, show n - 2 - t' = q2 by have := Hq2.out; have := HT0.out; omega, ← Hu.out, h1, ← show m = mulW x s from HM.out]
            exact HAA.out.symm
          have hA := HA.out.put2 (u' := .int .u32 a.1) (v' := .int .u32 a.2) (by omega) (by intro z hz; simp at hz; rcases hz with rfl | rfl | rfl | rfl <;> (dsimp only; omega))
          have HA2 := Lib.hid hA
          have HH := Lib.hid hh
          clear hA hh
          clear s0 g0 s1 g1 z0 y0 z1 y1 c0 f0 c1 f1 l0 l1
          go_wp2
          go_roundw
          case rel => exact ⟨t + 1, congrArg (Value.int .i64) (by have := HE.out; omega), by have := HLT.out; omega, by rw [HH.out]; exact HA2.out⟩
          case measure => simp [intOf]; omega
    · have htn : t = n := by have := HT.out; omega
      have e : (n : Int) - 1 - t = -1 := by omega
      rw [e]
      have HTN := Lib.hid htn
      clear hlt htn e
      obtain ⟨⟨s0, g0⟩, ⟨s1, g1⟩, ⟨z0, y0⟩, ⟨z1, y1⟩, -⟩ := HA.out.mem
      go_wp2
      have hE := HA.out.swap2.put2 (u' := .int .u32 s.1) (v' := .int .u32 s.2) (by omega) (by intro z hz; simp at hz; rcases hz with rfl | rfl | rfl | rfl <;> (dsimp only; omega))
      obtain ⟨⟨e0, -⟩, ⟨e1, -⟩, -⟩ := hE.mem
      have HB := Lib.hid hE.below
      clear hE s0 g0 s1 g1 z0 y0 z1 y1
      exact bodyPost_ret (v := .agg #[.int .u32 s.1, .int .u32 s.2]) (by simp [results, Try.results29, go_sem, e0, e1]) rfl ⟨by
        rw [polyW_rp, HL.out, ← HTN.out, ← Hs.out]; rfl, HB.out⟩

end Nu
end Go.Proofs.Ytkkdimhibfpopaa
