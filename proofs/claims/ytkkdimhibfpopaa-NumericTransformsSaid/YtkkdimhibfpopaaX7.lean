/- Contracts: the powers of some samples, wherever they lie; the reference's. -/
import Derived.Test.YtkkdimhibfpopaaX6
namespace Go.Proofs.Ytkkdimhibfpopaa
open Go.ChangeShapes Go.WideShapes Go.ChangeAt Go.RowKit Go.WideMaps Go.Maps
namespace Nu

attribute [local go_sem] run_fadd' run_fmul'

/-- Block b holds these words from off on. -/
def WrdO (W : World) (b off : Nat) (S : List Nat) : Prop := ∀ (j x : Nat), S[j]? = some x → W.cell? ⟨b, off + j, none⟩ = some (.int .u32 x)
theorem WrdO.below {W X V : World} {b off : Nat} {S : List Nat} (h : WrdO W b off S) (hX : X.heap = W.heap) (hb : Below X.heap.size X V) : WrdO V b off S := fun j x hx => by
  have h1 := h j x hx
  have l1 : b < X.heap.size := by rw [hX]; exact cell_lt h1
  have e1 : V.heap[b]? = W.heap[b]? := by rw [hb.block b l1, hX]
  exact (World.cell?_of_block (w := W) e1).trans h1

def rlP (S : List Nat) (j : Nat) : List (Nat × Nat) := (List.range j).map fun i => (at1 S i, 0)
theorem rlP_snoc (S : List Nat) (j : Nat) : rlP S (j + 1) = rlP S j ++ [(at1 S j, 0)] := by unfold rlP; rw [List.range_succ, List.map_append]; rfl
theorem rlP_all (S : List Nat) : rlP S S.length = rl S := by
  apply List.ext_getElem?
  intro j
  by_cases h : j < S.length
  · unfold rlP rl
    rw [List.getElem?_map, List.getElem?_range h, List.getElem?_map, at1_at h]; rfl
  · unfold rlP
    rw [List.getElem?_eq_none (by simp; omega), List.getElem?_eq_none (by rw [rl_len]; omega)]

set_option maxRecDepth 100000 in
set_option maxHeartbeats 4000000 in
theorem spectrum_at (k n cap b off : Nat) (S : List Nat) (w : World) (hk : k ≤ 6) (hn : n = 2 ^ k) (hS : S.length = n) (hW : WrdO w b off S) :
    Calls Try.prog 36 #[.slice (some ⟨b, off, none⟩) n cap] w fun e w' => ∃ v, e = .returned (.tuple #[v, .int .i64 0]) ∧ w'.ownsRow w.heap.size 22 1 v (n / 2 + 1) ((specT (trL k (rl S)) (n / 2 + 1)).map u32v) ∧ Below w.heap.size w w' := by
  have h64 : n ≤ 64 := by rw [hn]; exact Nat.le_trans (Nat.pow_le_pow_right (by omega) hk) (by decide)
  have h1 : 1 ≤ n := by rw [hn]; exact Nat.two_pow_pos k
  have Hn := Lib.hid hn
  have HS := Lib.hid hS
  have HWR := Lib.hid hW
  have H64 := Lib.hid h64
  have H1 := Lib.hid h1
  obtain ⟨z0, hz0, hz1, hz2, hz3⟩ := info_parts info32
  obtain ⟨y0, hy0, hy1, hy2, hy3⟩ := info_parts info22
  obtain ⟨o, ho⟩ : ∃ o, o = w.heap.size := ⟨_, rfl⟩
  have HO := Lib.hid ho
  clear hn hS hW ho h1 h64
  have hmm := @run_makeMap Try.prog
  go_enter Try.func36, Try.ntmps36
  go_wp2_with (first
    | (go_at_call 57; refine (isSize_two k n hk Hn.out _).mono ?_; rintro e w' ⟨rfl, rfl⟩)
    | (at_make; refine wpList_make_full _ rfl _ _ 24 rfl w.heap.size 32 z0 (.agg #[.int .u32 0, .int .u32 0]) 2 Try.underlying24 hz0 hz1 hz2 .i64 .i64 _ _ n rfl rfl rfl rfl (by rw [hz3]; have := H64.out; omega) (by have := H64.out; unfold maxLen; omega) (Nat.le_refl _) ?_
       intro w1 hown hg
       rw [← HO.out] at hown ⊢
       rw [made_rep] at hown
       have hown2 : w1.ownsRow o 32 2 (.slice (some ⟨o, 0, none⟩) n n) n (cellsN (mapP id (rl S) 0)) := by
         rw [mapP_zero, rl_len, HS.out]; exact hown
       have hP : Pr w w1 o n (mapP id (rl S) 0) [] := ⟨⟨below_of hg, trivial⟩, hown2⟩
       have HP := Lib.hid hP
       clear hown hg hown2 hP))
  go_loopw [21] (fun v wr => ∃ i : Nat, v = .int .i64 i ∧ i ≤ n ∧ Pr w wr o n (mapP id (rl S) i) []) (fun v _ => 100 - (intOf v).toNat)
  case atStart => exact ⟨0, rfl, Nat.zero_le _, HP.out⟩
  case round =>
    obtain ⟨i, rfl, hi, hp⟩ := hrel
    have HP := Lib.hid hp
    have HI := Lib.hid hi
    clear hi hp
    by_cases hlt : i < n
    · obtain ⟨x, hx⟩ : ∃ x, x = at1 S i := ⟨_, rfl⟩
      have x0 := (HWR.out.below rfl HP.out.at_.below) i x (by rw [hx]; exact at1_at (by rw [HS.out]; exact hlt))
      have i2 : (i : Int) < n := by omega
      have i3 : (0 : Int) ≤ i := by omega
      have i4 : (n : Int) ≤ 64 := by have := H64.out; omega
      have o0 := HP.out.cell0 i hlt
      have r0 := HP.out.own.frozenAt (i * 2)
      have HX := Lib.hid hx
      have HLT := Lib.hid hlt
      clear hx hlt
      go_wp2_with fail
      have hP := HP.out.put1 (by rw [HO.out]; exact Nat.le_refl _) (by intro z hz; simp at hz) i x HLT.out
      have hh : (mapP id (rl S) i).set i (x, (at2 (mapP id (rl S) i) i).2) = mapP id (rl S) (i + 1) := by
        have hl : i < (rl S).length := by rw [rl_len, HS.out]; exact HLT.out
        rw [← mapP_step _ _ _ hl, rl_at (by rw [HS.out]; exact HLT.out), ← HX.out]
        have e0 : at2 (mapP id (rl S) i) i = (0, 0) := by
          unfold at2
          rw [List.getD_eq_getElem?_getD, mapP_at _ _ _ _ hl, if_neg (by omega)]
          rfl
        rw [e0]
        rfl
      rw [hh] at hP
      have HP2 := Lib.hid hP
      clear hP hh o0 r0 x0
      go_roundw
      case rel => exact ⟨i + 1, congrArg (Value.int .i64) (by omega), by have := HLT.out; omega, HP2.out⟩
      case measure => have := HI.out; have := H64.out; simp [intOf]; omega
    · have hil : i = n := by have := HI.out; omega
      have HIL := Lib.hid hil
      have i2 : ¬ (i : Int) < n := by omega
      clear hil hlt
      have hNum : Num wr o (rl S) := by
        have hN2 := Num.of_own HP.out.own
        rw [HIL.out, ← HS.out, ← rl_len, mapP_all, List.map_id] at hN2
        exact hN2
      have hBo : o < wr.heap.size := (HP.out.own.lt o rfl).2
      have hT : Tm (wr.alloc (.map #[] 0)) wr.heap.size 0 (fun _ => True) := ⟨_, World.ownsMap_made wr _ _ _, ⟨[], rfl⟩, fun k _ => .inl rfl⟩
      have hNum2 : Num (wr.alloc (.map #[] 0)) o (rl S) := hNum.grown (World.grownBy_alloc wr (.map #[] 0) none) (by simp)
      have hBw := HP.out.at_.below
      have HNU := Lib.hid hNum2
      have HBo := Lib.hid hBo
      have HT := Lib.hid hT
      have HBW := Lib.hid hBw
      obtain ⟨h, hh⟩ : ∃ h, h = n / 2 := ⟨_, rfl⟩
      obtain ⟨p, hp⟩ : ∃ p, p = h + 1 := ⟨_, rfl⟩
      have q1 : (n : Int).tdiv 2 = (h : Int) := by rw [Int.tdiv_eq_ediv_of_nonneg (by omega)]; omega
      have q2 : (n : Int) / 2 = (h : Int) := by omega
      have q3 : (0 : Int) ≤ (h : Int) := by omega
      have q4 : (h : Int) ≤ 32 := by have := H64.out; omega
      have q5 : (h : Int) + 1 = (p : Int) := by omega
      have q6 : IntKind.i64.wrap (p : Int) = (p : Int) := IntWalk.i64_in _ (by omega)
      have HH := Lib.hid hh
      have HPP := Lib.hid hp
      have hpn : p ≤ n := by have := H1.out; rcases (show n = 1 ∨ 2 ≤ n by omega) with h1 | h1 <;> omega
      have HPN := Lib.hid hpn
      clear hNum hNum2 hBo hT hBw hh hp hpn
      go_wp2_with (go_at_call 60
                   refine (tr_any k hk n n o wr.heap.size 0 (rl S) _ Hn.out (by rw [rl_len]; exact HS.out) HNU.out (by have := HBo.out; omega) HT.out (by have : 2 ^ k ≤ 2 ^ 6 := Nat.pow_le_pow_right (by omega) hk; omega)).mono ?_
                   rintro e w2 ⟨g2, cap2, ⟨rfl, hc2⟩, hn2, hg2, ht2, hgr2⟩
                   have HN2 := Lib.hid hn2
                   have HGR2 := Lib.hid (grown_trans (World.grownBy_alloc wr (.map #[] 0) (some wr.heap.size)) hgr2)
                   have hpc : (p : Int) ≤ cap2 := by have := HPN.out; omega
                   have hp0 : (0 : Int) ≤ p := by omega
                   clear hn2 hg2 ht2 hgr2 hc2)
      obtain ⟨T, hT⟩ : ∃ T, T = trL k (rl S) := ⟨_, rfl⟩
      have hTl : T.length = n := by rw [hT, trL_len, Hn.out]
      rw [← hT] at HN2
      have hbw2 : Below w.heap.size w w2 := HBW.out.grown HGR2.out HBW.out.size (fun k e => by cases e; exact HBW.out.size)
      have HB2 := Lib.hid hbw2
      have HTT := Lib.hid hT
      have HTL := Lib.hid hTl
      clear hT hTl hbw2 q1 q2 q3 q4 q5 q6 hmm
      go_loopw [7, 42] (fun out v wr' => ∃ j : Nat, v = .int .i64 j ∧ j ≤ p ∧ wr'.ownsRow w2.heap.size 22 1 out j ((specT T j).map u32v) ∧ Below w2.heap.size w2 wr') (fun _ v _ => 100 - (intOf v).toNat)
      case atStart => exact ⟨0, rfl, Nat.zero_le _, World.ownsRow_nil _ _ _ _, Below.refl _ _⟩
      case round =>
        obtain ⟨j, rfl, hj, hown, hfr⟩ := hrel
        have HOW := Lib.hid hown
        have HF := Lib.hid hfr
        have HJ := Lib.hid hj
        clear hown hfr hj
        by_cases hlt : j < p
        · obtain ⟨x, hx⟩ : ∃ x, x = at2 T j := ⟨_, rfl⟩
          obtain ⟨x0, x1⟩ := (HN2.out.below rfl HF.out) j x (by rw [hx]; exact at2_at (by rw [HTL.out]; have := HPN.out; omega))
          rw [Nat.mul_comm] at x0 x1
          have i2 : (j : Int) < p := by omega
          have i3 : (0 : Int) ≤ j := by omega
          have i4 : (p : Int) ≤ 64 := by have := HPN.out; have := H64.out; omega
          have c0 := (new_cell wr #[.int .u32 x.1, .int .u32 x.2] 32 0 (.int .u32 x.1) rfl).1
          have HF1 := Lib.hid (HF.out.alloc HF.out.size (.cells #[.int .u32 x.1, .int .u32 x.2] 32))
          have HO1 := Lib.hid (HOW.out.alloc (.cells #[.int .u32 x.1, .int .u32 x.2] 32))
          have HX := Lib.hid hx
          have HLT := Lib.hid hlt
          clear hx hlt c0
          go_wp2_with (first
            | (go_at_call 11; refine (parts_any _ _ _).mono ?_; rintro e w3 ⟨rfl, hb3⟩
               have HF3 := Lib.hid (HF1.out.grown (grown_same (below_grown hb3 rfl rfl rfl rfl none)) HF1.out.size (by simp))
               have HO3 := Lib.hid (own_below HO1.out hb3)
               clear hb3 x0 x1)
            | (go_at_call 49; refine (bits_any _ _).mono ?_; rintro e w4 ⟨rfl, hw⟩
               have hb4 : Below w3.heap.size w3 w4 := by rw [← hw]; exact below_drewN (Below.refl _ _) _
               have HF4 := Lib.hid (HF3.out.grown (grown_same (below_grown hb4 rfl rfl rfl rfl none)) HF3.out.size (by simp))
               have HO4 := Lib.hid (own_below HO3.out hb4)
               rw [canon_sq]
               obtain ⟨u, hu⟩ : ∃ u, u = sqW (x.1, x.2) := ⟨_, rfl⟩
               rw [← hu]
               have HU := Lib.hid hu
               clear hu hw hb4)
            | (at_builtin; refine wpList_append_lies _ rfl _ _ 54 rfl w2.heap.size 22 y0 (.int .u32 0) 1 4 Try.underlying54 hy0 hy1 hy2 hy3 rfl (by decide) _ j _ rfl (HO4.out.alloc (.cells #[.int .u32 u] 22)) ⟨w4.heap.size, 0, none⟩ 1 1 [.int .u32 u] rfl rfl (cell_one_new _ _ _) (by simp [Value.oneCell']) (by omega) (by have := HPN.out; have := H64.out; have := HLT.out; unfold maxLen; omega) (by have := HPN.out; have := H64.out; have := HLT.out; omega) (by have := HF4.out.size; simp; omega) _ rfl ?_
               intro g5 cap5 w5 hown5 hgrow5 hat5 hlt5
               have HO5 := Lib.hid hown5
               have HG5 := Lib.hid hgrow5
               clear hown5 hgrow5 hat5 hlt5))
          have hF5 : Below w2.heap.size w2 w5 := (HF4.out.alloc HF4.out.size _).grown HG5.out (by have := HF4.out.size; simp; omega) (fun k e => (HOW.out.lt k e).1)
          have hO5 : w5.ownsRow w2.heap.size 22 1 (.slice (some ⟨g5, 0, none⟩) (j + 1) cap5) (j + 1) ((specT T (j + 1)).map u32v) := by
            rw [specT_snoc, List.map_append, ← HX.out]
            show w5.ownsRow _ _ _ _ _ (_ ++ [.int .u32 (sqW (x.1, x.2))])
            rw [← HU.out]
            exact HO5.out
          have HF6 := Lib.hid hF5
          have HO6 := Lib.hid hO5
          clear hF5 hO5
          go_wp2
          go_roundw
          case rel => exact ⟨j + 1, congrArg (Value.int .i64) (by omega), by have := HLT.out; omega, HO6.out, HF6.out⟩
          case measure => have := HLT.out; have := HPN.out; have := H64.out; simp [intOf]; omega
        · have hjp : j = p := by have := HJ.out; omega
          have HJP := Lib.hid hjp
          have i2 : ¬ (j : Int) < p := by omega
          clear hlt hjp
          go_wp2
          go_ret2
          refine ⟨_, rfl, ?_, HB2.out.grown (below_grown HF.out rfl rfl rfl rfl none) HB2.out.size (by simp)⟩
          have := own_base HOW.out HB2.out.size
          rw [HJP.out, HPP.out, HH.out, HTT.out] at this
          exact this

set_option maxRecDepth 100000 in
set_option maxHeartbeats 4000000 in
theorem rspectrum_no (ao : Option Addr) (n cap : Nat) (S : List Nat) (w : World) (h : ¬ Pt n) (h70 : n ≤ 70) (hS : S.length = n) (hW : n = 0 ∨ ∃ b off, ao = some ⟨b, off, none⟩ ∧ WrdO w b off S) :
    Calls Try.prog 37 #[.slice ao n cap] w fun e w' => e = .returned (.tuple #[.slice none 0 0, .int .i64 4]) ∧ Below w.heap.size w w' := by
  have HS := Lib.hid hS
  have HW := Lib.hid hW
  have H70 := Lib.hid h70
  have HP := Lib.hid h
  have i0 : (n : Int) ≤ 70 := by omega
  clear hS hW h70 h
  obtain ⟨z0, hz0, hz1, hz2, hz3⟩ := info_parts info38
  have HLIT := Lib.hid (R1.lit w)
  go_enter Try.func37, Try.ntmps37
  go_wp2_with fail
  go_loopw [4, 5] (fun u v wr => ∃ j : Nat, v = .int .i64 j ∧ j ≤ n ∧ R1 w wr u j (rlP S j)) (fun _ v _ => 100 - (intOf v).toNat)
  case atStart => exact ⟨0, rfl, Nat.zero_le _, HLIT.out⟩
  case round =>
    rename World => W1
    obtain ⟨j, rfl, hj, hr⟩ := hrel
    have HR := Lib.hid hr
    have HJ := Lib.hid hj
    clear hj hr
    by_cases hlt : j < n
    · obtain ⟨x, hx⟩ : ∃ x, x = at1 S j := ⟨_, rfl⟩
      obtain ⟨b, off, rfl, hWR⟩ := HW.out.resolve_left (by omega)
      have x0 := (hWR.below rfl HR.out.below) j x (by rw [hx]; exact at1_at (by rw [HS.out]; exact hlt))
      have i2 : (j : Int) < n := by omega
      have i3 : (0 : Int) ≤ j := by omega
      have HX := Lib.hid hx
      have HLT := Lib.hid hlt
      have l10 : ((0 : Nat) : Int) = 0 := rfl
      have HL10 := Lib.hid l10
      clear hx hlt hWR l10
      go_wp2_with (first
        | (at_builtin; refine wpList_append_lies _ rfl _ _ 27 rfl w.heap.size 38 z0 (.agg #[.int .u32 0, .int .u32 0]) 2 8 Try.underlying27 hz0 hz1 hz2 hz3 rfl (by decide) _ j _ rfl (HR.out.own.alloc (.cells #[.int .u32 x, .int .u32 0] 38)) ⟨W1.heap.size, 0, none⟩ 1 1 [.int .u32 x, .int .u32 0] rfl rfl (cell_two_new _ _ _ _) (by simp [Value.oneCell']) (by omega) (by have := H70.out; have := HLT.out; unfold maxLen; omega) (by have := H70.out; have := HLT.out; omega) (by have := HR.out.below.size; simp; omega) _ rfl ?_
           intro g5 cap5 w5 hown5 hgrow5 hat5 hlt5
           have HR5 := Lib.hid ((HR.out.alloc (.cells #[.int .u32 x, .int .u32 0] 38)).app (L' := rlP S (j + 1)) (by rw [rlP_snoc, cellsN_append, ← HX.out]; exact hown5) hgrow5)
           clear hown5 hgrow5 hat5 hlt5 x0))
      go_roundw
      case rel => exact ⟨j + 1, congrArg (Value.int .i64) (by omega), by have := HLT.out; omega, HR5.out⟩
      case measure => have := HLT.out; have := H70.out; simp [intOf]; omega
    · have hjn : j = n := by have := HJ.out; omega
      have i2 : ¬ (j : Int) < n := by omega
      have hl := HR.out
      rw [hjn] at hl
      obtain ⟨ao2, cap2, hu⟩ : ∃ ao2 cap2, u4 = .slice ao2 n cap2 := by
        rcases hl.own.2 with ⟨h1, h2⟩ | ⟨g, cap, cur, h1, _⟩
        · exact ⟨none, 0, by rw [h1, h2]⟩
        · exact ⟨_, _, h1⟩
      subst hu
      have HB := Lib.hid hl.below
      clear hl hjn hlt HR HJ
      go_wp2_with (go_at_call 35
                   refine (rtransform_no ao2 n cap2 false HP.out _).mono ?_
                   rintro e w6 ⟨rfl, hb6⟩
                   have HB6 := Lib.hid hb6
                   clear hb6)
      go_ret2
      have b1 := HB.out
      exact ⟨rfl, b1.grown (below_grown HB6.out rfl rfl rfl rfl none) b1.size (by simp)⟩

set_option maxRecDepth 100000 in
set_option maxHeartbeats 8000000 in
theorem rspectrum_at (k n cap b off : Nat) (S : List Nat) (w : World) (hk : k ≤ 6) (hn : n = 2 ^ k) (hS : S.length = n) (hW : WrdO w b off S) :
    Calls Try.prog 37 #[.slice (some ⟨b, off, none⟩) n cap] w fun e w' => ∃ v, e = .returned (.tuple #[v, .int .i64 0]) ∧ w'.ownsRow w.heap.size 22 1 v (n / 2 + 1) ((specT (trL k (rl S)) (n / 2 + 1)).map u32v) ∧ Below w.heap.size w w' := by
  have h64 : n ≤ 64 := by rw [hn]; exact Nat.le_trans (Nat.pow_le_pow_right (by omega) hk) (by decide)
  have h1 : 1 ≤ n := by rw [hn]; exact Nat.two_pow_pos k
  have Hn := Lib.hid hn
  have HS := Lib.hid hS
  have HWR := Lib.hid hW
  have H70 := Lib.hid (show n ≤ 64 from h64)
  have H1 := Lib.hid h1
  have i0 : (n : Int) ≤ 64 := by omega
  clear hn hS hW h64 h1
  obtain ⟨z0, hz0, hz1, hz2, hz3⟩ := info_parts info38
  obtain ⟨y0, hy0, hy1, hy2, hy3⟩ := info_parts info22
  have HLIT := Lib.hid (R1.lit w)
  go_enter Try.func37, Try.ntmps37
  go_wp2_with fail
  go_loopw [4, 5] (fun u v wr => ∃ j : Nat, v = .int .i64 j ∧ j ≤ n ∧ R1 w wr u j (rlP S j)) (fun _ v _ => 100 - (intOf v).toNat)
  case atStart => exact ⟨0, rfl, Nat.zero_le _, HLIT.out⟩
  case round =>
    rename World => W1
    obtain ⟨j, rfl, hj, hr⟩ := hrel
    have HR := Lib.hid hr
    have HJ := Lib.hid hj
    clear hj hr
    by_cases hlt : j < n
    · obtain ⟨x, hx⟩ : ∃ x, x = at1 S j := ⟨_, rfl⟩
      have hWR := HWR.out
      have x0 := (hWR.below rfl HR.out.below) j x (by rw [hx]; exact at1_at (by rw [HS.out]; exact hlt))
      have i2 : (j : Int) < n := by omega
      have i3 : (0 : Int) ≤ j := by omega
      have HX := Lib.hid hx
      have HLT := Lib.hid hlt
      have l10 : ((0 : Nat) : Int) = 0 := rfl
      have HL10 := Lib.hid l10
      clear hx hlt hWR l10
      go_wp2_with (first
        | (at_builtin; refine wpList_append_lies _ rfl _ _ 27 rfl w.heap.size 38 z0 (.agg #[.int .u32 0, .int .u32 0]) 2 8 Try.underlying27 hz0 hz1 hz2 hz3 rfl (by decide) _ j _ rfl (HR.out.own.alloc (.cells #[.int .u32 x, .int .u32 0] 38)) ⟨W1.heap.size, 0, none⟩ 1 1 [.int .u32 x, .int .u32 0] rfl rfl (cell_two_new _ _ _ _) (by simp [Value.oneCell']) (by omega) (by have := H70.out; have := HLT.out; unfold maxLen; omega) (by have := H70.out; have := HLT.out; omega) (by have := HR.out.below.size; simp; omega) _ rfl ?_
           intro g5 cap5 w5 hown5 hgrow5 hat5 hlt5
           have HR5 := Lib.hid ((HR.out.alloc (.cells #[.int .u32 x, .int .u32 0] 38)).app (L' := rlP S (j + 1)) (by rw [rlP_snoc, cellsN_append, ← HX.out]; exact hown5) hgrow5)
           clear hown5 hgrow5 hat5 hlt5 x0))
      go_roundw
      case rel => exact ⟨j + 1, congrArg (Value.int .i64) (by omega), by have := HLT.out; omega, HR5.out⟩
      case measure => have := HLT.out; have := H70.out; simp [intOf]; omega
    · have hjn : j = n := by have := HJ.out; omega
      have i2 : ¬ (j : Int) < n := by omega
      have hl := HR.out
      rw [hjn] at hl
      obtain ⟨gM, capM, rfl, -⟩ := own_someT hl.own H1.out
      have hNM := Num.of_row hl.own
      rw [← HS.out, rlP_all] at hNM
      have HNM := Lib.hid hNM
      have HB := Lib.hid hl.below
      clear hl hNM hjn hlt HR HJ
      go_upto_region 9 with (first
        | (go_at_call 35
           refine (rtransform_fwd k n capM gM (rl S) _ hk Hn.out (by rw [rl_len]; exact HS.out) HNM.out).mono ?_
           rintro e w2 ⟨gT, capT, rfl, hn2, -, hb2⟩
           have HN2 := Lib.hid hn2
           have HBB2 := Lib.hid hb2
           clear hn2 hb2))
      obtain ⟨T, hT⟩ : ∃ T, T = trL k (rl S) := ⟨_, rfl⟩
      have hTl : T.length = n := by rw [hT, trL_len, Hn.out]
      have hn2 := HN2.out
      rw [← hT] at hn2
      have HN2 := Lib.hid hn2
      have HTT := Lib.hid hT
      have HTL := Lib.hid hTl
      have hb1 := HB.out
      have HB2 := Lib.hid (show Below w.heap.size w w2 from hb1.grown (below_grown HBB2.out rfl rfl rfl rfl none) hb1.size (by simp))
      clear hn2 hT hTl hb1
      obtain ⟨h, hh⟩ : ∃ h, h = n / 2 := ⟨_, rfl⟩
      have q1 : (n : Int).tdiv 2 = (h : Int) := by rw [Int.tdiv_eq_ediv_of_nonneg (by omega)]; omega
      have q2 : (n : Int) / 2 = (h : Int) := by omega
      have q3 : (0 : Int) ≤ (h : Int) := by omega
      have q4 : (h : Int) ≤ 32 := by omega
      have HH := Lib.hid hh
      have hhn : h < n := by have := H1.out; omega
      have HHN := Lib.hid hhn
      have HLIT2 : Hid ((w2.alloc (.cells #[] 22)).ownsRow w2.heap.size 22 1 (.slice (some ⟨w2.heap.size, 0, none⟩) 0 0) 0 ((specT T 0).map u32v)) := World.ownsRow_lit w2 #[] 0 (Nat.le_refl _) (by unfold maxLen; omega) rfl
      have HLB2 : Hid (Below w2.heap.size w2 (w2.alloc (.cells #[] 22))) := (Below.refl _ _).alloc (Nat.le_refl _) _
      clear hh hhn
      go_wp2_with fail
      go_loopw [8, 9] (fun out v wr' => ∃ j : Nat, v = .int .i64 j ∧ j ≤ h + 1 ∧ wr'.ownsRow w2.heap.size 22 1 out j ((specT T j).map u32v) ∧ Below w2.heap.size w2 wr') (fun _ v _ => 100 - (intOf v).toNat)
      case atStart => exact ⟨0, rfl, Nat.zero_le _, HLIT2.out, HLB2.out⟩
      case round =>
        rename World => W3
        obtain ⟨j, rfl, hj, hown, hfr⟩ := hrel
        have HOW := Lib.hid hown
        have HF := Lib.hid hfr
        have HJ := Lib.hid hj
        clear hown hfr hj
        by_cases hlt : j ≤ h
        · obtain ⟨x, hx⟩ : ∃ x, x = at2 T j := ⟨_, rfl⟩
          obtain ⟨x0, x1⟩ := (HN2.out.below rfl HF.out) j x (by rw [hx]; exact at2_at (by rw [HTL.out]; have := HHN.out; omega))
          rw [Nat.mul_comm] at x0 x1
          have i2 : (j : Int) ≤ h := by omega
          have i3 : (0 : Int) ≤ j := by omega
          have i4 : (j : Int) < n := by have := HHN.out; omega
          have HX := Lib.hid hx
          have HLT := Lib.hid hlt
          clear hx hlt
          go_upto_region 14 with fail
          go_quiet ((go_at_call 51; exact Calls.quiet_of_same (rf_same _ _)))
          clear x0 x1
          go_wp2_with (first
            | (go_at_call 53; refine (rtimes_at _ _ _).mono ?_; rintro e w3 ⟨rfl, hb3⟩
               first
                 | (have HF3 := Lib.hid (HF3.out.grown (grown_same (below_grown hb3 rfl rfl rfl rfl none)) HF3.out.size (by simp))
                    have HO3 := Lib.hid (own_below HO3.out hb3)
                    clear hb3)
                 | (have HF3 := Lib.hid (HF.out.grown (grown_same (below_grown hb3 rfl rfl rfl rfl none)) HF.out.size (by simp))
                    have HO3 := Lib.hid (own_below HOW.out hb3)
                    clear hb3))
            | (go_at_call 50; refine (rplus_at _ _ _).mono ?_; rintro e w4 ⟨rfl, hb3⟩
               have HF3 := Lib.hid (HF3.out.grown (grown_same (below_grown hb3 rfl rfl rfl rfl none)) HF3.out.size (by simp))
               have HO3 := Lib.hid (own_below HO3.out hb3)
               clear hb3)
            | (go_at_call 54; refine (rbits_any _ _).mono ?_; rintro e w5 ⟨rfl, hw⟩
               rw [canon_raw3]
               obtain ⟨u, hu⟩ : ∃ u, u = fop .add (fop .mul x.1 x.1) (fop .mul x.2 x.2) := ⟨_, rfl⟩
               rw [← hu]
               have HU := Lib.hid hu
               have HF4 := Lib.hid (show Below w2.heap.size w2 w5 by rw [← hw]; exact HF3.out)
               have HO4 : Hid (w5.ownsRow _ _ _ _ _ _) := (by rw [← hw]; exact HO3.out)
               clear hu hw)
            | (at_builtin; refine wpList_append_lies _ rfl _ _ 54 rfl w2.heap.size 22 y0 (.int .u32 0) 1 4 Try.underlying54 hy0 hy1 hy2 hy3 rfl (by decide) _ j _ rfl (HO4.out.alloc (.cells #[.int .u32 u] 22)) ⟨w5.heap.size, 0, none⟩ 1 1 [.int .u32 u] rfl rfl (cell_one_new _ _ _) (by simp [Value.oneCell']) (by omega) (by have := HHN.out; have := H70.out; have := HLT.out; unfold maxLen; omega) (by have := HHN.out; have := H70.out; have := HLT.out; omega) (by have := HF4.out.size; simp; omega) _ rfl ?_
               intro g6 cap6 w6 hown6 hgrow6 hat6 hlt6
               have HO6 := Lib.hid hown6
               have HG6 := Lib.hid hgrow6
               clear hown6 hgrow6 hat6 hlt6))
          have hF7 : Below w2.heap.size w2 w6 := (HF4.out.alloc HF4.out.size _).grown HG6.out (by have := HF4.out.size; simp; omega) (fun k e => (HOW.out.lt k e).1)
          have hO7 : w6.ownsRow w2.heap.size 22 1 (.slice (some ⟨g6, 0, none⟩) (j + 1) cap6) (j + 1) ((specT T (j + 1)).map u32v) := by
            rw [specT_snoc, List.map_append, ← HX.out]
            show w6.ownsRow _ _ _ _ _ (_ ++ [.int .u32 (fop .add (fop .mul x.1 x.1) (fop .mul x.2 x.2))])
            rw [← HU.out]
            exact HO6.out
          have HF7 := Lib.hid hF7
          have HO7 := Lib.hid hO7
          clear hF7 hO7
          go_wp2
          go_roundw
          case rel => exact ⟨j + 1, congrArg (Value.int .i64) (by omega), by have := HLT.out; omega, HO7.out, HF7.out⟩
          case measure => have := HLT.out; have := HHN.out; have := H70.out; simp [intOf]; omega
        · have hjp : j = n / 2 + 1 := by have := HJ.out; have := HH.out; omega
          have HJP := Lib.hid hjp
          have i2 : ¬ (j : Int) ≤ h := by omega
          clear hlt hjp
          go_wp2
          go_ret2
          refine ⟨_, rfl, ?_, HB2.out.grown (below_grown HF.out rfl rfl rfl rfl none) HB2.out.size (by simp)⟩
          have := own_base HOW.out HB2.out.size
          rw [HJP.out, HTT.out] at this
          exact this

end Nu
end Go.Proofs.Ytkkdimhibfpopaa
