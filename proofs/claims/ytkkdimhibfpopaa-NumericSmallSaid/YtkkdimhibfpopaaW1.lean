/- Contracts: each, for the conjugate and for the closure of the inverse transform. -/
import Derived.Test.YtkkdimhibfpopaaU2
namespace Go.Proofs.Ytkkdimhibfpopaa
open Go.ChangeShapes Go.WideShapes Go.ChangeAt Go.RowKit Go.WideMaps Go.Maps
namespace Nu

/-- What stands behind i turns. -/
def mapP (G : Nat × Nat → Nat × Nat) (L : List (Nat × Nat)) (i : Nat) : List (Nat × Nat) := (List.range L.length).map fun j => if j < i then G (at2 L j) else (0, 0)
theorem mapP_len (G : Nat × Nat → Nat × Nat) (L : List (Nat × Nat)) (i : Nat) : (mapP G L i).length = L.length := by unfold mapP; simp
theorem mapP_at (G : Nat × Nat → Nat × Nat) (L : List (Nat × Nat)) (i j : Nat) (h : j < L.length) : (mapP G L i)[j]? = some (if j < i then G (at2 L j) else (0, 0)) := by
  unfold mapP; rw [List.getElem?_map, List.getElem?_range h]; rfl
theorem mapP_zero (G : Nat × Nat → Nat × Nat) (L : List (Nat × Nat)) : mapP G L 0 = List.replicate L.length (0, 0) := by
  apply List.ext_getElem?
  intro j
  by_cases h : j < L.length
  · rw [mapP_at _ _ _ _ h]; simp [h]
  · rw [List.getElem?_eq_none (by rw [mapP_len]; omega), List.getElem?_eq_none (by simp; omega)]
theorem mapP_step (G : Nat × Nat → Nat × Nat) (L : List (Nat × Nat)) (i : Nat) (hi : i < L.length) : (mapP G L i).set i (G (at2 L i)) = mapP G L (i + 1) := by
  apply List.ext_getElem?
  intro j
  by_cases h : j < L.length
  · rw [List.getElem?_set, mapP_at _ _ _ _ h, mapP_at _ _ _ _ h, mapP_len]
    by_cases e : i = j
    · subst e; rw [if_pos rfl, if_pos hi, if_pos (by omega)]
    · rw [if_neg e]
      by_cases h2 : j < i
      · rw [if_pos h2, if_pos (by omega)]
      · rw [if_neg h2, if_neg (by omega)]
  · rw [List.getElem?_eq_none (by rw [List.length_set, mapP_len]; omega), List.getElem?_eq_none (by rw [mapP_len]; omega)]
theorem mapP_all (G : Nat × Nat → Nat × Nat) (L : List (Nat × Nat)) : mapP G L L.length = L.map G := by
  apply List.ext_getElem?
  intro j
  by_cases h : j < L.length
  · rw [mapP_at _ _ _ _ h, if_pos h, List.getElem?_map, at2_at h]; rfl
  · rw [List.getElem?_eq_none (by rw [mapP_len]; omega), List.getElem?_eq_none (by simp; omega)]

theorem run_fquo' {P : Program} (w : World) (t : TypeId) (x y : Nat) : (binOp .quo t (.float .f32 x) (.float .f32 y)).run P w = .ok (.float .f32 (raw .quo x y w)) (w.drewN (cnt .quo x y)) := run_fop w (.inr (.inr (.inr rfl))) t x y
attribute [local go_sem] run_fquo'

/-- The number of an inverse transform: the conjugate's parts divided by the number of points. -/
def invW (fl : Nat) (x : Nat × Nat) : Nat × Nat := (fop .quo (conjW x).1 fl, fop .quo (conjW x).2 fl)

theorem canon_quo (a fl : Nat) (w : World) : canon (raw .quo (canon a) fl w) = fop .quo a fl := by rw [canon_raw, fop_left]

set_option maxHeartbeats 2000000 in
theorem inv1_any (a b bn fl : Nat) (w : World) (hc : w.cell? ⟨bn, 0, none⟩ = some (.float .f32 fl)) :
    Calls Try.prog 62 #[.agg #[.int .u32 a, .int .u32 b], .pointer (some ⟨bn, 0, none⟩)] w fun e w' => e = .returned (num (invW fl (a, b))) ∧ Below w.heap.size w w' := by
  have hA := ((At.first w).two (.int .u32 a) (.int .u32 b) 32 _ rfl).two (.int .u32 0) (.int .u32 0) 32 (w.heap.size + 1) (by simp)
  have hlt := cell_lt hc
  obtain ⟨W0, hW0⟩ : ∃ W0, W0 = (w.alloc (.cells #[.int .u32 a, .int .u32 b] 32)).alloc (.cells #[.int .u32 0, .int .u32 0] 32) := ⟨_, rfl⟩
  rw [← hW0] at hA
  have HA := Lib.hid hA
  have HW := Lib.hid hW0
  have HC := Lib.hid hc
  have HLT := Lib.hid hlt
  clear hA hW0 hc hlt
  obtain ⟨c, hcj⟩ : ∃ c, c = conjW (a, b) := ⟨_, rfl⟩
  have HCJ := Lib.hid hcj
  clear hcj
  go_enter Try.func62, Try.ntmps62
  go_upto_region 1 with (fail)
  rw [← HW.out]
  clear HW
  obtain ⟨⟨g0, i0⟩, ⟨g1, i1⟩, ⟨c0, f0⟩, ⟨c1, f1⟩, -⟩ := HA.out.mem
  have cn := (HA.out.below.cell (p := ⟨bn, 0, none⟩) HLT.out).trans HC.out
  go_wp2_with (first
    | (go_at_call 17; refine (conj_any _ _ _).mono ?_; rintro e w1 ⟨rfl, hb1⟩; clear g0 i0 g1 i1 c0 f0 c1 f1 cn; have HA := Lib.hid (HA.out.step hb1); obtain ⟨⟨g0, i0⟩, ⟨g1, i1⟩, ⟨c0, f0⟩, ⟨c1, f1⟩, -⟩ := HA.out.mem; have cn := (HA.out.below.cell (p := ⟨bn, 0, none⟩) HLT.out).trans HC.out; clear hb1; rw [← HCJ.out]; unfold num)
    | (go_at_call 11; refine (parts_any _ _ _).mono ?_; rintro e w2 ⟨rfl, hb1⟩; clear g0 i0 g1 i1 c0 f0 c1 f1 cn; have HA := Lib.hid (HA.out.step hb1); obtain ⟨⟨g0, i0⟩, ⟨g1, i1⟩, ⟨c0, f0⟩, ⟨c1, f1⟩, -⟩ := HA.out.mem; have cn := (HA.out.below.cell (p := ⟨bn, 0, none⟩) HLT.out).trans HC.out; clear hb1)
    | (go_at_call 18; refine (of_any _ _ _).mono ?_; rintro e w3 ⟨rfl, hb1⟩; clear g0 i0 g1 i1 c0 f0 c1 f1 cn; have HA := Lib.hid (HA.out.step hb1); obtain ⟨⟨g0, i0⟩, ⟨g1, i1⟩, ⟨c0, f0⟩, ⟨c1, f1⟩, -⟩ := HA.out.mem; clear hb1; rw [canon_quo, canon_quo]))
  have HE := At.end2 (x := .int .u32 (fop .quo c.1 fl)) (y := .int .u32 (fop .quo c.2 fl)) HA.out (by omega)
  obtain ⟨e0, e1, hb⟩ := HE
  have HB := Lib.hid hb
  clear hb g0 i0 g1 i1 c0 f0 c1 f1
  exact bodyPost_ret (v := .agg #[.int .u32 (fop .quo c.1 fl), .int .u32 (fop .quo c.2 fl)]) (by simp [results, Try.results62, go_sem, e0, e1]) rfl ⟨by rw [HCJ.out]; rfl, HB.out⟩

set_option maxRecDepth 100000 in
set_option maxHeartbeats 4000000 in
theorem each_conj (n b cap : Nat) (L : List (Nat × Nat)) (w : World) (hL : L.length = n) (h64 : n ≤ 64) (hN : Num w b L) :
    Calls Try.prog 61 #[.slice (some ⟨b, 0, none⟩) n cap, .func (.func 17) #[] #[]] w fun e w' => ∃ g, e = .returned (.slice (some ⟨g, 0, none⟩) n n) ∧ Num w' g (L.map conjW) ∧ w.heap.size ≤ g ∧ Below w.heap.size w w' := by
  have HL := Lib.hid hL
  have H64 := Lib.hid h64
  have HN := Lib.hid hN
  obtain ⟨z0, hz0, hz1, hz2, hz3⟩ := info_parts info32
  obtain ⟨o, ho⟩ : ∃ o, o = w.heap.size := ⟨_, rfl⟩
  have HO := Lib.hid ho
  clear ho hL hN
  go_enter Try.func61, Try.ntmps61
  go_wp2_with (at_make; refine wpList_make_full _ rfl _ _ 24 rfl w.heap.size 32 z0 (.agg #[.int .u32 0, .int .u32 0]) 2 Try.underlying24 hz0 hz1 hz2 .i64 .i64 _ _ n rfl rfl rfl rfl (by rw [hz3]; have := H64.out; omega) (by have := H64.out; unfold maxLen; omega) (Nat.le_refl _) ?_
               intro w1 hown hg
               rw [← HO.out] at hown ⊢
               rw [made_rep] at hown
               have hown2 : w1.ownsRow o 32 2 (.slice (some ⟨o, 0, none⟩) n n) n (cellsN (mapP conjW L 0)) := by
                 rw [mapP_zero, HL.out]; exact hown
               have hP : Pr w w1 o n (mapP conjW L 0) [] := ⟨⟨below_of hg, trivial⟩, hown2⟩
               have HP := Lib.hid hP
               clear hown hg hown2 hP)
  go_loopw [13] (fun v wr => ∃ i : Nat, v = .int .i64 i ∧ i ≤ n ∧ Pr w wr o n (mapP conjW L i) []) (fun v _ => 100 - (intOf v).toNat)
  case atStart => exact ⟨0, rfl, Nat.zero_le _, HP.out⟩
  case round =>
    obtain ⟨i, rfl, hi, hp⟩ := hrel
    have HP := Lib.hid hp
    have HI := Lib.hid hi
    clear hi hp
    by_cases hlt : i < n
    · obtain ⟨x, hx⟩ : ∃ x, x = at2 L i := ⟨_, rfl⟩
      obtain ⟨x0, x1⟩ := (HN.out.below rfl HP.out.at_.below) i x (by rw [hx]; exact at2_at (by rw [HL.out]; exact hlt))
      rw [Nat.mul_comm] at x0 x1
      have i2 : (i : Int) < n := by omega
      have i3 : (0 : Int) ≤ i := by omega
      have hBo : o < wr.heap.size := (HP.out.own.lt o rfl).2
      have hP1 := HP.out.two (.int .u32 x.1) (.int .u32 x.2) 32 _ rfl
      have HP1 := Lib.hid hP1
      have HX := Lib.hid hx
      have HLT := Lib.hid hlt
      have HBo := Lib.hid hBo
      clear hx hlt hP1 hBo
      go_wp2_with (go_at_call 17
                   refine (conj_any x.1 x.2 _).mono ?_
                   rintro e w3 ⟨rfl, hb3⟩
                   have HP3 := Lib.hid (HP1.out.step hb3)
                   clear hb3 x0 x1
                   obtain ⟨m, hm⟩ : ∃ m, m = conjW (x.1, x.2) := ⟨_, rfl⟩
                   rw [← hm]
                   have HM := Lib.hid hm
                   clear hm
                   unfold num
                   have o0 := HP3.out.cell0 i HLT.out
                   have o1 := HP3.out.cell1 i HLT.out
                   have r0 := HP3.out.own.frozenAt (i * 2)
                   have r1 := HP3.out.own.frozenAt (i * 2 + 1))
      have hP := (HP3.out.put (by rw [HO.out]; exact Nat.le_refl _) (by have := HBo.out; intro z hz; simp at hz; rcases hz with rfl | rfl <;> (dsimp only; omega)) i m.1 m.2).drop2
      have hh : (mapP conjW L i).set i (m.1, m.2) = mapP conjW L (i + 1) := by
        rw [← mapP_step _ _ _ (by rw [HL.out]; exact HLT.out), ← HX.out, HM.out]
      rw [hh] at hP
      have HP2 := Lib.hid hP
      clear hP hh o0 o1 r0 r1
      go_roundw
      case rel => exact ⟨i + 1, congrArg (Value.int .i64) (by omega), by have := HLT.out; omega, HP2.out⟩
      case measure => have := HI.out; have := H64.out; simp [intOf]; omega
    · have hil : i = n := by have := HI.out; omega
      have HIL := Lib.hid hil
      have i2 : ¬ (i : Int) < n := by omega
      clear hil hlt
      go_wp2
      go_ret
      have hN2 := Num.of_own HP.out.own
      rw [HIL.out, ← HL.out, mapP_all] at hN2
      exact ⟨o, rfl, hN2, by rw [HO.out]; exact Nat.le_refl _, HP.out.at_.below⟩

set_option maxRecDepth 100000 in
set_option maxHeartbeats 4000000 in
theorem each_inv (n b cap : Nat) (L : List (Nat × Nat)) (w : World) (hL : L.length = n) (h64 : n ≤ 64) (hN : Num w b L) (bn fl : Nat) (hc : w.cell? ⟨bn, 0, none⟩ = some (.float .f32 fl)) :
    Calls Try.prog 61 #[.slice (some ⟨b, 0, none⟩) n cap, .func (.func 62) #[] #[.pointer (some ⟨bn, 0, none⟩)]] w fun e w' => ∃ g, e = .returned (.slice (some ⟨g, 0, none⟩) n n) ∧ Num w' g (L.map (invW fl)) ∧ w.heap.size ≤ g ∧ Below w.heap.size w w' := by
  have HL := Lib.hid hL
  have H64 := Lib.hid h64
  have HN := Lib.hid hN
  have HCN := Lib.hid hc
  have HLN := Lib.hid (cell_lt hc)
  obtain ⟨z0, hz0, hz1, hz2, hz3⟩ := info_parts info32
  obtain ⟨o, ho⟩ : ∃ o, o = w.heap.size := ⟨_, rfl⟩
  have HO := Lib.hid ho
  clear ho hL hN hc
  go_enter Try.func61, Try.ntmps61
  go_wp2_with (at_make; refine wpList_make_full _ rfl _ _ 24 rfl w.heap.size 32 z0 (.agg #[.int .u32 0, .int .u32 0]) 2 Try.underlying24 hz0 hz1 hz2 .i64 .i64 _ _ n rfl rfl rfl rfl (by rw [hz3]; have := H64.out; omega) (by have := H64.out; unfold maxLen; omega) (Nat.le_refl _) ?_
               intro w1 hown hg
               rw [← HO.out] at hown ⊢
               rw [made_rep] at hown
               have hown2 : w1.ownsRow o 32 2 (.slice (some ⟨o, 0, none⟩) n n) n (cellsN (mapP (invW fl) L 0)) := by
                 rw [mapP_zero, HL.out]; exact hown
               have hP : Pr w w1 o n (mapP (invW fl) L 0) [] := ⟨⟨below_of hg, trivial⟩, hown2⟩
               have HP := Lib.hid hP
               clear hown hg hown2 hP)
  go_loopw [13] (fun v wr => ∃ i : Nat, v = .int .i64 i ∧ i ≤ n ∧ Pr w wr o n (mapP (invW fl) L i) []) (fun v _ => 100 - (intOf v).toNat)
  case atStart => exact ⟨0, rfl, Nat.zero_le _, HP.out⟩
  case round =>
    obtain ⟨i, rfl, hi, hp⟩ := hrel
    have HP := Lib.hid hp
    have HI := Lib.hid hi
    clear hi hp
    by_cases hlt : i < n
    · obtain ⟨x, hx⟩ : ∃ x, x = at2 L i := ⟨_, rfl⟩
      obtain ⟨x0, x1⟩ := (HN.out.below rfl HP.out.at_.below) i x (by rw [hx]; exact at2_at (by rw [HL.out]; exact hlt))
      rw [Nat.mul_comm] at x0 x1
      have i2 : (i : Int) < n := by omega
      have i3 : (0 : Int) ≤ i := by omega
      have hBo : o < wr.heap.size := (HP.out.own.lt o rfl).2
      have hP1 := HP.out.two (.int .u32 x.1) (.int .u32 x.2) 32 _ rfl
      have HP1 := Lib.hid hP1
      have HX := Lib.hid hx
      have HLT := Lib.hid hlt
      have HBo := Lib.hid hBo
      clear hx hlt hP1 hBo
      go_wp2_with (go_at_call 62
                   refine (inv1_any x.1 x.2 bn fl _ ((HP1.out.at_.below.cell (p := ⟨bn, 0, none⟩) HLN.out).trans HCN.out)).mono ?_
                   rintro e w3 ⟨rfl, hb3⟩
                   have HP3 := Lib.hid (HP1.out.step hb3)
                   clear hb3 x0 x1
                   obtain ⟨m, hm⟩ : ∃ m, m = (invW fl) (x.1, x.2) := ⟨_, rfl⟩
                   rw [← hm]
                   have HM := Lib.hid hm
                   clear hm
                   unfold num
                   have o0 := HP3.out.cell0 i HLT.out
                   have o1 := HP3.out.cell1 i HLT.out
                   have r0 := HP3.out.own.frozenAt (i * 2)
                   have r1 := HP3.out.own.frozenAt (i * 2 + 1))
      have hP := (HP3.out.put (by rw [HO.out]; exact Nat.le_refl _) (by have := HBo.out; intro z hz; simp at hz; rcases hz with rfl | rfl <;> (dsimp only; omega)) i m.1 m.2).drop2
      have hh : (mapP (invW fl) L i).set i (m.1, m.2) = mapP (invW fl) L (i + 1) := by
        rw [← mapP_step _ _ _ (by rw [HL.out]; exact HLT.out), ← HX.out, HM.out]
      rw [hh] at hP
      have HP2 := Lib.hid hP
      clear hP hh o0 o1 r0 r1
      go_roundw
      case rel => exact ⟨i + 1, congrArg (Value.int .i64) (by omega), by have := HLT.out; omega, HP2.out⟩
      case measure => have := HI.out; have := H64.out; simp [intOf]; omega
    · have hil : i = n := by have := HI.out; omega
      have HIL := Lib.hid hil
      have i2 : ¬ (i : Int) < n := by omega
      clear hil hlt
      go_wp2
      go_ret
      have hN2 := Num.of_own HP.out.own
      rw [HIL.out, ← HL.out, mapP_all] at hN2
      exact ⟨o, rfl, hN2, by rw [HO.out]; exact Nat.le_refl _, HP.out.at_.below⟩

end Nu
end Go.Proofs.Ytkkdimhibfpopaa
