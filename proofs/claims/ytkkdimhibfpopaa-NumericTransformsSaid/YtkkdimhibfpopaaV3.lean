/- Contracts: the reference's product of two polynomials. -/
import Derived.Test.YtkkdimhibfpopaaU2
import Derived.Test.YtkkdimhibfpopaaV2
namespace Go.Proofs.Ytkkdimhibfpopaa
open Go.ChangeShapes Go.WideShapes Go.ChangeAt Go.RowKit Go.WideMaps Go.Maps
namespace Nu

def sumW (a b : List (Nat × Nat)) (k : Nat) : Nat → Nat × Nat
  | 0 => (0, 0)
  | i + 1 => if i ≤ k ∧ k - i < b.length then addW (sumW a b k i) (mulW (at2 a i) (at2 b (k - i))) else sumW a b k i
def sums (a b : List (Nat × Nat)) (n : Nat) : List (Nat × Nat) := (List.range n).map fun k => sumW a b k a.length
theorem sums_snoc (a b : List (Nat × Nat)) (n : Nat) : sums a b (n + 1) = sums a b n ++ [sumW a b n a.length] := by unfold sums; rw [List.range_succ, List.map_append]; rfl
theorem sums_len (a b : List (Nat × Nat)) (n : Nat) : (sums a b n).length = n := by unfold sums; simp

theorem at2_set (P : List (Nat × Nat)) (q k : Nat) (x : Nat × Nat) (hq : q < P.length) : at2 (P.set q x) k = if k = q then x else at2 P k := by
  unfold at2
  rw [List.getD_eq_getElem?_getD, List.getD_eq_getElem?_getD, List.getElem?_set]
  by_cases h : q = k
  · subst h; simp [hq]
  · rw [if_neg h, if_neg (fun e => h e.symm)]
theorem inn_at (a b : List (Nat × Nat)) (i : Nat) (P : List (Nat × Nat)) (k : Nat) : ∀ j, i + j ≤ P.length → at2 (inn a b i P j) k = if i ≤ k ∧ k < i + j then addW (at2 P k) (mulW (at2 a i) (at2 b (k - i))) else at2 P k
  | 0, _ => by rw [if_neg (by omega)]; rfl
  | j + 1, h => by
    show at2 ((inn a b i P j).set (i + j) (addW (at2 (inn a b i P j) (i + j)) (mulW (at2 a i) (at2 b j)))) k = _
    rw [at2_set _ _ _ _ (by rw [inn_len]; omega)]
    by_cases hk : k = i + j
    · rw [if_pos hk, if_pos (by omega), inn_at a b i P (i + j) j (by omega), if_neg (by omega), hk, show i + j - i = j by omega]
    · rw [if_neg hk, inn_at a b i P k j (by omega)]
      by_cases h2 : i ≤ k ∧ k < i + j
      · rw [if_pos h2, if_pos (by omega)]
      · rw [if_neg h2, if_neg (by omega)]
theorem outP_at (a b : List (Nat × Nat)) (k : Nat) (hk : k < a.length + b.length - 1) (hb : 1 ≤ b.length) : ∀ i, i ≤ a.length → at2 (outP a b i) k = sumW a b k i
  | 0, _ => by
    show at2 (List.replicate (a.length + b.length - 1) (0, 0)) k = (0, 0)
    unfold at2
    rw [List.getD_eq_getElem?_getD, List.getElem?_replicate, if_pos hk]
    rfl
  | i + 1, hi => by
    show at2 (inn a b i (outP a b i) b.length) k = if i ≤ k ∧ k - i < b.length then addW (sumW a b k i) (mulW (at2 a i) (at2 b (k - i))) else sumW a b k i
    rw [inn_at a b i (outP a b i) k b.length (by rw [outP_len]; omega), outP_at a b k hk hb i (by omega)]
    by_cases h2 : i ≤ k ∧ k < i + b.length
    · rw [if_pos h2, if_pos (by omega)]
    · rw [if_neg h2, if_neg (by omega)]
theorem outP_sums (a b : List (Nat × Nat)) (hb : 1 ≤ b.length) : outP a b a.length = sums a b (a.length + b.length - 1) := by
  apply List.ext_getElem?
  intro k
  by_cases hk : k < a.length + b.length - 1
  · rw [at2_at (by rw [outP_len]; exact hk), outP_at a b k hk hb a.length (Nat.le_refl _)]
    unfold sums
    rw [List.getElem?_map, List.getElem?_range hk]; rfl
  · rw [List.getElem?_eq_none (by rw [outP_len]; omega), List.getElem?_eq_none (by rw [sums_len]; omega)]

theorem info38 : (Try.prog.info? 38).map (fun i => (i.zero, i.size, i.bytes)) = some (some (.agg #[.int .u32 0, .int .u32 0]), 2, 8) := by kernel_rfl

set_option maxRecDepth 100000 in
set_option maxHeartbeats 4000000 in
theorem rprod_any (la lb ba bb ca cb : Nat) (a b : List (Nat × Nat)) (w : World) (hla : a.length = la) (hlb : b.length = lb) (h1 : 1 ≤ la) (h2 : 1 ≤ lb) (h3 : la ≤ 64) (h4 : lb ≤ 64) (hNa : Num w ba a) (hNb : Num w bb b) :
    Calls Try.prog 31 #[.slice (some ⟨ba, 0, none⟩) la ca, .slice (some ⟨bb, 0, none⟩) lb cb] w fun e w' => ∃ v, e = .returned (.tuple #[v, .int .i64 0]) ∧ w'.ownsRow w.heap.size 38 2 v (la + lb - 1) (cellsN (sums a b (la + lb - 1))) ∧ Below w.heap.size w w' := by
  obtain ⟨N, hN⟩ : ∃ N, N = la + lb - 1 := ⟨_, rfl⟩
  rw [← hN]
  have i1 : ¬ (64 : Int) < la := by omega
  have i2 : ¬ (64 : Int) < lb := by omega
  have i3 : (0 : Int) < la := by omega
  have i4 : (0 : Int) < lb := by omega
  have i5 : IntKind.i64.wrap ((la : Int) + lb) = (la : Int) + lb := IntWalk.i64_in _ (by omega)
  have i6 : IntKind.i64.wrap ((la : Int) + lb - 1) = (N : Int) := by rw [show (la : Int) + lb - 1 = (N : Int) by omega]; exact IntWalk.i64_in _ (by omega)
  have i7 : (N : Int) ≤ 127 := by omega
  have i8 : (la : Int) ≤ 64 := by omega
  have i9 : (lb : Int) ≤ 64 := by omega
  have H38 := Lib.hid hN
  have HLA := Lib.hid hla
  have HLB := Lib.hid hlb
  have H12 := Lib.hid (And.intro h1 h2)
  have H34 := Lib.hid (And.intro h3 h4)
  have HNA := Lib.hid hNa
  have HNB := Lib.hid hNb
  clear hN hla hlb h1 h2 h3 h4 hNa hNb
  obtain ⟨z0, hz0, hz1, hz2, hz3⟩ := info_parts info38
  have hb0 : Below w.heap.size w (w.alloc (.cells #[] 38)) := (Below.refl _ _).alloc (Nat.le_refl _) _
  have ho0 : (w.alloc (.cells #[] 38)).ownsRow w.heap.size 38 2 (.slice (some ⟨w.heap.size, 0, none⟩) 0 0) 0 (cellsN (sums a b 0)) := World.ownsRow_lit w #[] 0 (Nat.le_refl _) (by unfold maxLen; omega) rfl
  have HB0 := Lib.hid hb0
  have HO0 := Lib.hid ho0
  clear hb0 ho0
  go_enter Try.func31, Try.ntmps31
  go_wp2_with fail
  go_loopw [6, 7] (fun out v wr => ∃ k : Nat, v = .int .i64 k ∧ k ≤ N ∧ wr.ownsRow w.heap.size 38 2 out k (cellsN (sums a b k)) ∧ Below w.heap.size w wr) (fun _ v _ => 200 - (intOf v).toNat)
  case atStart => exact ⟨0, rfl, Nat.zero_le _, HO0.out, HB0.out⟩
  case round =>
    obtain ⟨k, rfl, hk, ho, hb⟩ := hrel
    have HK := Lib.hid hk
    have HO := Lib.hid ho
    have HB := Lib.hid hb
    clear hk ho hb
    by_cases hkt : k < N
    · have k2 : (k : Int) < N := by omega
      have k3 : (0 : Int) ≤ k := by omega
      have HKT := Lib.hid hkt
      clear hkt
      go_wp2_with fail
      have hA := (At.mk HB.out trivial : At w wr []).two (.int .u32 0) (.int .u32 0) 38 _ rfl
      have hO := HO.out.alloc (.cells #[.int .u32 0, .int .u32 0] 38)
      have hob : ∀ g, u6.ownBlock = some g → g < wr.heap.size := fun g e => (HO.out.lt g e).2
      have hbs : w.heap.size ≤ wr.heap.size := HB.out.size
      obtain ⟨Bs, hBs⟩ : ∃ x, x = wr.heap.size := ⟨_, rfl⟩
      obtain ⟨W, hW⟩ : ∃ x, x = wr.alloc (.cells #[.int .u32 0, .int .u32 0] 38) := ⟨_, rfl⟩
      rw [← hBs] at hA hob hbs ⊢
      rw [← hW] at hA hO ⊢
      clear hW hBs
      have HA := Lib.hid hA
      have HO := Lib.hid hO
      have HOB := Lib.hid hob
      have HBS := Lib.hid hbs
      clear hA hO hob hbs
      go_loopw [9] (fun v wr => ∃ i : Nat, v = .int .i64 i ∧ i ≤ la ∧ wr.ownsRow w.heap.size 38 2 u6 k (cellsN (sums a b k)) ∧ At w wr [(Bs, 0, .int .u32 (sumW a b k i).1), (Bs, 1, .int .u32 (sumW a b k i).2)]) (fun v _ => 200 - (intOf v).toNat)
      case atStart => exact ⟨0, rfl, Nat.zero_le _, HO.out, HA.out⟩
      case round =>
        obtain ⟨i, rfl, hi, ho, ha⟩ := hrel
        have HI := Lib.hid hi
        have HO := Lib.hid ho
        have HA := Lib.hid ha
        clear hi ho ha
        obtain ⟨s, hs⟩ : ∃ s, s = sumW a b k i := ⟨_, rfl⟩
        rw [← hs] at HA
        have Hs := Lib.hid hs
        clear hs
        by_cases hit : i < la
        · have j2 : (i : Int) < la := by omega
          have j3 : (0 : Int) ≤ i := by omega
          have HIT := Lib.hid hit
          by_cases hik : i ≤ k
          · obtain ⟨q, hq⟩ : ∃ q, q = k - i := ⟨_, rfl⟩
            have j6 : IntKind.i64.wrap ((k : Int) - i) = (q : Int) := by rw [show (k : Int) - i = (q : Int) by omega]; exact IntWalk.i64_in _ (by omega)
            have j7 : (0 : Int) ≤ q := by omega
            by_cases hql : q < lb
            · have j8 : (q : Int) < lb := by omega
              obtain ⟨u, hu⟩ : ∃ u, u = at2 a i := ⟨_, rfl⟩
              obtain ⟨v, hv⟩ : ∃ v, v = at2 b q := ⟨_, rfl⟩
              have HU := Lib.hid (show a[i]? = some u by rw [hu]; exact at2_at (by rw [HLA.out]; exact hit))
              have HV := Lib.hid (show b[q]? = some v by rw [hv]; exact at2_at (by rw [HLB.out]; exact hql))
              have HC := Lib.hid (show sumW a b k (i + 1) = addW s (mulW u v) by
                show (if i ≤ k ∧ k - i < b.length then addW (sumW a b k i) (mulW (at2 a i) (at2 b (k - i))) else sumW a b k i) = _
                rw [if_pos ⟨hik, by rw [HLB.out, ← hq]; exact hql⟩, ← hq, ← hu, ← hv, Hs.out])
              clear hu hv hik hql hq hit
              go_wp2_with fail
              obtain ⟨⟨s0, g0⟩, ⟨s1, g1⟩, -⟩ := HA.out.mem; obtain ⟨x0, x1⟩ := (HNA.out.below rfl HA.out.below) i u HU.out; obtain ⟨y0, y1⟩ := (HNB.out.below rfl HA.out.below) q v HV.out; rw [Nat.mul_comm] at x0 x1 y0 y1
              go_region_with (first
                | (go_at_call 21; refine (rmul_any u.1 u.2 v.1 v.2 _).mono ?_; rintro e w3 ⟨rfl, hb1⟩; clear s0 g0 s1 g1 x0 x1 y0 y1; have HO := Lib.hid (own_below HO.out hb1); have HA := Lib.hid (HA.out.step hb1); obtain ⟨⟨s0, g0⟩, ⟨s1, g1⟩, -⟩ := HA.out.mem; obtain ⟨x0, x1⟩ := (HNA.out.below rfl HA.out.below) i u HU.out; obtain ⟨y0, y1⟩ := (HNB.out.below rfl HA.out.below) q v HV.out; rw [Nat.mul_comm] at x0 x1 y0 y1; clear hb1; obtain ⟨m, hm⟩ : ∃ m, m = mulW (u.1, u.2) (v.1, v.2) := ⟨_, rfl⟩; rw [← hm]; have HM := Lib.hid hm; clear hm; unfold num)
                | (go_at_call 19; refine (radd_any s.1 s.2 m.1 m.2 _).mono ?_; rintro e w3 ⟨rfl, hb1⟩; clear s0 g0 s1 g1 x0 x1 y0 y1; have HO := Lib.hid (own_below HO.out hb1); have HA := Lib.hid (HA.out.step hb1); obtain ⟨⟨s0, g0⟩, ⟨s1, g1⟩, -⟩ := HA.out.mem; obtain ⟨x0, x1⟩ := (HNA.out.below rfl HA.out.below) i u HU.out; obtain ⟨y0, y1⟩ := (HNB.out.below rfl HA.out.below) q v HV.out; rw [Nat.mul_comm] at x0 x1 y0 y1; clear hb1; obtain ⟨d, hd⟩ : ∃ a, a = addW (s.1, s.2) (m.1, m.2) := ⟨_, rfl⟩; rw [← hd]; have HD := Lib.hid hd; clear hd; unfold num))
              all_goals
                have hh : sumW a b k (i + 1) = d := by
                  rw [HC.out, ← show m = mulW u v from HM.out]
                  exact HD.out.symm
                have hA := HA.out.put2 (u' := .int .u32 d.1) (v' := .int .u32 d.2) HBS.out (by intro z hz; simp at hz)
                have hO := HO.out.kept (grown_set2 _ Bs 0 1 (.int .u32 d.1) (.int .u32 d.2)) (.inr (fun e => by have := HOB.out Bs e; omega))
                have HA2 := Lib.hid hA
                have HO2 := Lib.hid hO
                have HH := Lib.hid hh
                clear hA hh hO
                clear s0 g0 s1 g1 x0 x1 y0 y1
                go_wp2
                go_roundw
                case rel => exact ⟨i + 1, congrArg (Value.int .i64) (by omega), by have := HIT.out; omega, HO2.out, by rw [HH.out]; exact HA2.out⟩
                case measure => simp [intOf]; omega
            · have j8 : ¬ (q : Int) < lb := by omega
              have HC := Lib.hid (show sumW a b k (i + 1) = s by
                show (if i ≤ k ∧ k - i < b.length then addW (sumW a b k i) (mulW (at2 a i) (at2 b (k - i))) else sumW a b k i) = _
                rw [if_neg (by rw [HLB.out, ← hq]; omega), Hs.out])
              clear hik hql hq hit
              go_wp2
              go_roundw
              case rel => exact ⟨i + 1, congrArg (Value.int .i64) (by omega), by have := HIT.out; omega, HO.out, by rw [HC.out]; exact HA.out⟩
              case measure => simp [intOf]; omega
          · have j6 : IntKind.i64.wrap ((k : Int) - i) = (k : Int) - i := IntWalk.i64_in _ (by omega)
            have j7 : ¬ (0 : Int) ≤ (k : Int) - i := by omega
            have j8 : ¬ (i : Int) ≤ k := by omega
            have HC := Lib.hid (show sumW a b k (i + 1) = s by
              show (if i ≤ k ∧ k - i < b.length then addW (sumW a b k i) (mulW (at2 a i) (at2 b (k - i))) else sumW a b k i) = _
              rw [if_neg (by omega), Hs.out])
            clear hik hit
            go_wp2
            go_roundw
            case rel => exact ⟨i + 1, congrArg (Value.int .i64) (by omega), by have := HIT.out; omega, HO.out, by rw [HC.out]; exact HA.out⟩
            case measure => simp [intOf]; omega
        · have hil : i = la := by have := HI.out; omega
          have j2 : ¬ (i : Int) < la := by omega
          have HSL := Lib.hid (show sumW a b k a.length = s by rw [HLA.out, ← hil]; exact Hs.out.symm)
          clear hil hit
          obtain ⟨⟨s0, -⟩, ⟨s1, -⟩, -⟩ := HA.out.mem
          go_wp2_with (at_builtin; refine wpList_append_lies _ rfl _ _ 27 rfl w.heap.size 38 z0 (.agg #[.int .u32 0, .int .u32 0]) 2 8 Try.underlying27 hz0 hz1 hz2 hz3 rfl (by decide) _ k _ rfl (HO.out.alloc (.cells #[.int .u32 s.1, .int .u32 s.2] 38)) ⟨wr.heap.size, 0, none⟩ 1 1 [.int .u32 s.1, .int .u32 s.2] rfl rfl (cell_two_new _ _ _ _) (by simp [Value.oneCell']) (by omega) (by have := H34.out; have := H38.out; have := HKT.out; unfold maxLen; omega) (by have := H34.out; have := H38.out; have := HKT.out; omega) (by have := HA.out.below.size; simp; omega) _ rfl ?_
                       intro g4 cap4 w4 hown4 hgrow4 hat4 hlt4
                       have HO4 := Lib.hid hown4
                       have HG4 := Lib.hid hgrow4
                       clear hown4 hgrow4 hat4 hlt4 s0 s1)
          have hF4 : Below w.heap.size w w4 := (HA.out.below.alloc HA.out.below.size _).grown HG4.out (by have := HA.out.below.size; simp; omega) (fun k e => (HO.out.lt k e).1)
          have hO4 : w4.ownsRow w.heap.size 38 2 (.slice (some ⟨g4, 0, none⟩) (k + 1) cap4) (k + 1) (cellsN (sums a b (k + 1))) := by
            rw [sums_snoc, cellsN_append, HSL.out]
            exact HO4.out
          have HF5 := Lib.hid hF4
          have HO5 := Lib.hid hO4
          clear hF4 hO4
          go_wp2
          go_roundw
          case rel => exact ⟨k + 1, congrArg (Value.int .i64) (by omega), by have := HKT.out; omega, HO5.out, HF5.out⟩
          case measure => simp [intOf]; omega
    · have hkn : k = N := by have := HK.out; omega
      have HKN := Lib.hid hkn
      have k2 : ¬ (k : Int) < N := by omega
      clear hkt hkn
      go_wp2
      go_ret2
      refine ⟨_, rfl, ?_, HB.out⟩
      have := HO.out
      rw [HKN.out] at this
      exact this

end Nu
end Go.Proofs.Ytkkdimhibfpopaa
