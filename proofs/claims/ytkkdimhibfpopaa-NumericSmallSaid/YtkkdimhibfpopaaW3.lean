/- Contracts: the spectrum of some samples. -/
import Derived.Test.YtkkdimhibfpopaaW2
namespace Go.Proofs.Ytkkdimhibfpopaa
open Go.ChangeShapes Go.WideShapes Go.ChangeAt Go.RowKit Go.WideMaps Go.Maps
namespace Nu

theorem run_fadd' {P : Program} (w : World) (t : TypeId) (x y : Nat) : (binOp .add t (.float .f32 x) (.float .f32 y)).run P w = .ok (.float .f32 (raw .add x y w)) (w.drewN (cnt .add x y)) := run_fop w (.inl rfl) t x y
theorem run_fmul' {P : Program} (w : World) (t : TypeId) (x y : Nat) : (binOp .mul t (.float .f32 x) (.float .f32 y)).run P w = .ok (.float .f32 (raw .mul x y w)) (w.drewN (cnt .mul x y)) := run_fop w (.inr (.inr (.inl rfl))) t x y
attribute [local go_sem] run_fadd' run_fmul'

theorem cellsN_set1 : ∀ (L : List (Nat × Nat)) (q u : Nat), q < L.length → (cellsN L).set (2 * q) (.int .u32 u) = cellsN (L.set q (u, (at2 L q).2))
  | [], _, _, h => by simp at h
  | x :: l, 0, u, _ => by simp [cellsN, at2]
  | x :: l, q + 1, u, h => by
    rw [show 2 * (q + 1) = 2 * q + 1 + 1 by omega]
    simp only [cellsN, List.set_cons_succ]
    rw [cellsN_set1 l q u (by simpa using h)]
    rfl

theorem Pr.put1 {w W : World} {o N : Nat} {P : List (Nat × Nat)} {C : List (Nat × Nat × Value)} (h : Pr w W o N P C) (ho : w.heap.size ≤ o) (hC : ∀ x ∈ C, x.1 ≠ o) (q : Nat) (u : Nat) (hq : q < N) :
    Pr w (W.setCell ⟨o, q * 2, none⟩ (.int .u32 u)) o N (P.set q (u, (at2 P q).2)) C := by
  refine ⟨⟨h.at_.below.setCell (p := ⟨o, q * 2, none⟩) ho _, h.at_.mem.put hC⟩, ?_⟩
  have hl := h.own.1
  rw [cellsN_len] at hl
  obtain ⟨h1, _⟩ := h.own.stored (q * 2) (.int .u32 u)
  rw [Nat.mul_comm q 2, cellsN_set1 P q u (by omega)] at h1
  rw [Nat.mul_comm q 2]
  exact h1

/-- A word as a value. -/
def u32v (x : Nat) : Value := .int .u32 (x : Int)
/-- Block b holds these words. -/
def Wrd (W : World) (b : Nat) (S : List Nat) : Prop := ∀ (j x : Nat), S[j]? = some x → W.cell? ⟨b, j, none⟩ = some (.int .u32 x)
theorem Wrd.below {W X V : World} {b : Nat} {S : List Nat} (h : Wrd W b S) (hX : X.heap = W.heap) (hb : Below X.heap.size X V) : Wrd V b S := fun j x hx => by
  have h1 := h j x hx
  have l1 : b < X.heap.size := by rw [hX]; exact cell_lt h1
  have e1 : V.heap[b]? = W.heap[b]? := by rw [hb.block b l1, hX]
  exact (World.cell?_of_block (w := W) e1).trans h1
theorem Wrd.of_own {W : World} {base g n cap : Nat} {t : TypeId} {S : List Nat} (h : W.ownsRow base t 1 (.slice (some ⟨g, 0, none⟩) n cap) n (S.map u32v)) : Wrd W g S := by
  intro j x hx
  have hl := h.1
  rw [List.length_map] at hl
  have hj : j < S.length := (List.getElem?_eq_some_iff.1 hx).1
  rw [h.cellAt j (by omega), List.getElem?_map, hx]
  rfl

/-- Samples as numbers; the power of a number; the powers of the first half of a transform. -/
def rl (S : List Nat) : List (Nat × Nat) := S.map fun b => (b, 0)
def sqW (x : Nat × Nat) : Nat := fop .add (fop .mul x.1 x.1) (fop .mul x.2 x.2)
def specT (T : List (Nat × Nat)) (j : Nat) : List Nat := (List.range j).map fun i => sqW (at2 T i)
theorem specT_snoc (T : List (Nat × Nat)) (j : Nat) : specT T (j + 1) = specT T j ++ [sqW (at2 T j)] := by unfold specT; rw [List.range_succ, List.map_append]; rfl
theorem specT_len (T : List (Nat × Nat)) (j : Nat) : (specT T j).length = j := by unfold specT; simp
theorem rl_len (S : List Nat) : (rl S).length = S.length := by unfold rl; simp
def at1 (S : List Nat) (i : Nat) : Nat := S.getD i 0
theorem at1_at {S : List Nat} {i : Nat} (h : i < S.length) : S[i]? = some (at1 S i) := by
  unfold at1; rw [List.getD_eq_getElem?_getD, List.getElem?_eq_getElem h]; rfl
theorem rl_at {S : List Nat} {i : Nat} (h : i < S.length) : at2 (rl S) i = (at1 S i, 0) := by
  unfold rl at2; rw [List.getD_eq_getElem?_getD, List.getElem?_map, at1_at h]; rfl

theorem info22 : (Try.prog.info? 22).map (fun i => (i.zero, i.size, i.bytes)) = some (some (.int .u32 0), 1, 4) := by kernel_rfl

theorem canon_sq (a b : Nat) (w1 w2 w3 : World) : canon (raw .add (raw .mul (canon a) (canon a) w1) (raw .mul (canon b) (canon b) w2) w3) = sqW (a, b) := by rw [canon_raw, fop_raw]; rfl

set_option maxRecDepth 100000 in
set_option maxHeartbeats 4000000 in
theorem spectrum_any (k n cap b : Nat) (S : List Nat) (w : World) (hk : k ≤ 6) (hn : n = 2 ^ k) (hS : S.length = n) (hW : Wrd w b S) :
    Calls Try.prog 36 #[.slice (some ⟨b, 0, none⟩) n cap] w fun e w' => ∃ v, e = .returned (.tuple #[v, .int .i64 0]) ∧ w'.ownsRow w.heap.size 22 1 v (n / 2 + 1) ((specT (trL k (rl S)) (n / 2 + 1)).map u32v) ∧ Below w.heap.size w w' := by
  have h64 : n ≤ 64 := by rw [hn]; exact Nat.le_trans (Nat.pow_le_pow_right (by omega) hk) (by decide)
  have h1 : 1 ≤ n := by rw [hn]; exact Nat.two_pow_pos k
  have Hn := Lib.hid hn
  have HS := Lib.hid hS
  have HWR := Lib.hid hW
  have H64 := Lib.hid h64
  have H1 := Lib.hid h1
  obtain ⟨z0, hz0, hz1, hz2, hz3⟩ := info_parts info32
  obtain ⟨y0, hy0, hy1, hy2, hy3⟩ := info_parts info22
  obtain ⟨o, ho⟩ : ∃ o, o = w.heap.size := ⟨_, rfl⟩
  have HO := Lib.hid ho
  clear hn hS hW ho h1 h64
  have hmm := @run_makeMap Try.prog
  go_enter Try.func36, Try.ntmps36
  go_wp2_with (first
    | (go_at_call 57; refine (isSize_two k n hk Hn.out _).mono ?_; rintro e w' ⟨rfl, rfl⟩)
    | (at_make; refine wpList_make_full _ rfl _ _ 24 rfl w.heap.size 32 z0 (.agg #[.int .u32 0, .int .u32 0]) 2 Try.underlying24 hz0 hz1 hz2 .i64 .i64 _ _ n rfl rfl rfl rfl (by rw [hz3]; have := H64.out; omega) (by have := H64.out; unfold maxLen; omega) (Nat.le_refl _) ?_
       intro w1 hown hg
       rw [← HO.out] at hown ⊢
       rw [made_rep] at hown
       have hown2 : w1.ownsRow o 32 2 (.slice (some ⟨o, 0, none⟩) n n) n (cellsN (mapP id (rl S) 0)) := by
         rw [mapP_zero, rl_len, HS.out]; exact hown
       have hP : Pr w w1 o n (mapP id (rl S) 0) [] := ⟨⟨below_of hg, trivial⟩, hown2⟩
       have HP := Lib.hid hP
       clear hown hg hown2 hP))
  go_loopw [21] (fun v wr => ∃ i : Nat, v = .int .i64 i ∧ i ≤ n ∧ Pr w wr o n (mapP id (rl S) i) []) (fun v _ => 100 - (intOf v).toNat)
  case atStart => exact ⟨0, rfl, Nat.zero_le _, HP.out⟩
  case round =>
    obtain ⟨i, rfl, hi, hp⟩ := hrel
    have HP := Lib.hid hp
    have HI := Lib.hid hi
    clear hi hp
    by_cases hlt : i < n
    · obtain ⟨x, hx⟩ : ∃ x, x = at1 S i := ⟨_, rfl⟩
      have x0 := (HWR.out.below rfl HP.out.at_.below) i x (by rw [hx]; exact at1_at (by rw [HS.out]; exact hlt))
      have i2 : (i : Int) < n := by omega
      have i3 : (0 : Int) ≤ i := by omega
      have i4 : (n : Int) ≤ 64 := by have := H64.out; omega
      have o0 := HP.out.cell0 i hlt
      have r0 := HP.out.own.frozenAt (i * 2)
      have HX := Lib.hid hx
      have HLT := Lib.hid hlt
      clear hx hlt
      go_wp2_with fail
      have hP := HP.out.put1 (by rw [HO.out]; exact Nat.le_refl _) (by intro z hz; simp at hz) i x HLT.out
      have hh : (mapP id (rl S) i).set i (x, (at2 (mapP id (rl S) i) i).2) = mapP id (rl S) (i + 1) := by
        have hl : i < (rl S).length := by rw [rl_len, HS.out]; exact HLT.out
        rw [← mapP_step _ _ _ hl, rl_at (by rw [HS.out]; exact HLT.out), ← HX.out]
        have e0 : at2 (mapP id (rl S) i) i = (0, 0) := by
          unfold at2
          rw [List.getD_eq_getElem?_getD, mapP_at _ _ _ _ hl, if_neg (by omega)]
          rfl
        rw [e0]
        rfl
      rw [hh] at hP
      have HP2 := Lib.hid hP
      clear hP hh o0 r0 x0
      go_roundw
      case rel => exact ⟨i + 1, congrArg (Value.int .i64) (by omega), by have := HLT.out; omega, HP2.out⟩
      case measure => have := HI.out; have := H64.out; simp [intOf]; omega
    · have hil : i = n := by have := HI.out; omega
      have HIL := Lib.hid hil
      have i2 : ¬ (i : Int) < n := by omega
      clear hil hlt
      have hNum : Num wr o (rl S) := by
        have hN2 := Num.of_own HP.out.own
        rw [HIL.out, ← HS.out, ← rl_len, mapP_all, List.map_id] at hN2
        exact hN2
      have hBo : o < wr.heap.size := (HP.out.own.lt o rfl).2
      have hT : Tm (wr.alloc (.map #[] 0)) wr.heap.size 0 (fun _ => True) := ⟨_, World.ownsMap_made wr _ _ _, ⟨[], rfl⟩, fun k _ => .inl rfl⟩
      have hNum2 : Num (wr.alloc (.map #[] 0)) o (rl S) := hNum.grown (World.grownBy_alloc wr (.map #[] 0) none) (by simp)
      have hBw := HP.out.at_.below
      have HNU := Lib.hid hNum2
      have HBo := Lib.hid hBo
      have HT := Lib.hid hT
      have HBW := Lib.hid hBw
      obtain ⟨h, hh⟩ : ∃ h, h = n / 2 := ⟨_, rfl⟩
      obtain ⟨p, hp⟩ : ∃ p, p = h + 1 := ⟨_, rfl⟩
      have q1 : (n : Int).tdiv 2 = (h : Int) := by rw [Int.tdiv_eq_ediv_of_nonneg (by omega)]; omega
      have q2 : (n : Int) / 2 = (h : Int) := by omega
      have q3 : (0 : Int) ≤ (h : Int) := by omega
      have q4 : (h : Int) ≤ 32 := by have := H64.out; omega
      have q5 : (h : Int) + 1 = (p : Int) := by omega
      have q6 : IntKind.i64.wrap (p : Int) = (p : Int) := IntWalk.i64_in _ (by omega)
      have HH := Lib.hid hh
      have HPP := Lib.hid hp
      have hpn : p ≤ n := by have := H1.out; rcases (show n = 1 ∨ 2 ≤ n by omega) with h1 | h1 <;> omega
      have HPN := Lib.hid hpn
      clear hNum hNum2 hBo hT hBw hh hp hpn
      go_wp2_with (go_at_call 60
                   refine (tr_any k hk n n o wr.heap.size 0 (rl S) _ Hn.out (by rw [rl_len]; exact HS.out) HNU.out (by have := HBo.out; omega) HT.out (by have : 2 ^ k ≤ 2 ^ 6 := Nat.pow_le_pow_right (by omega) hk; omega)).mono ?_
                   rintro e w2 ⟨g2, cap2, ⟨rfl, hc2⟩, hn2, hg2, ht2, hgr2⟩
                   have HN2 := Lib.hid hn2
                   have HGR2 := Lib.hid (grown_trans (World.grownBy_alloc wr (.map #[] 0) (some wr.heap.size)) hgr2)
                   have hpc : (p : Int) ≤ cap2 := by have := HPN.out; omega
                   have hp0 : (0 : Int) ≤ p := by omega
                   clear hn2 hg2 ht2 hgr2 hc2)
      obtain ⟨T, hT⟩ : ∃ T, T = trL k (rl S) := ⟨_, rfl⟩
      have hTl : T.length = n := by rw [hT, trL_len, Hn.out]
      rw [← hT] at HN2
      have hbw2 : Below w.heap.size w w2 := HBW.out.grown HGR2.out HBW.out.size (fun k e => by cases e; exact HBW.out.size)
      have HB2 := Lib.hid hbw2
      have HTT := Lib.hid hT
      have HTL := Lib.hid hTl
      clear hT hTl hbw2 q1 q2 q3 q4 q5 q6 hmm
      go_loopw [7, 42] (fun out v wr' => ∃ j : Nat, v = .int .i64 j ∧ j ≤ p ∧ wr'.ownsRow w2.heap.size 22 1 out j ((specT T j).map u32v) ∧ Below w2.heap.size w2 wr') (fun _ v _ => 100 - (intOf v).toNat)
      case atStart => exact ⟨0, rfl, Nat.zero_le _, World.ownsRow_nil _ _ _ _, Below.refl _ _⟩
      case round =>
        obtain ⟨j, rfl, hj, hown, hfr⟩ := hrel
        have HOW := Lib.hid hown
        have HF := Lib.hid hfr
        have HJ := Lib.hid hj
        clear hown hfr hj
        by_cases hlt : j < p
        · obtain ⟨x, hx⟩ : ∃ x, x = at2 T j := ⟨_, rfl⟩
          obtain ⟨x0, x1⟩ := (HN2.out.below rfl HF.out) j x (by rw [hx]; exact at2_at (by rw [HTL.out]; have := HPN.out; omega))
          rw [Nat.mul_comm] at x0 x1
          have i2 : (j : Int) < p := by omega
          have i3 : (0 : Int) ≤ j := by omega
          have i4 : (p : Int) ≤ 64 := by have := HPN.out; have := H64.out; omega
          have c0 := (new_cell wr #[.int .u32 x.1, .int .u32 x.2] 32 0 (.int .u32 x.1) rfl).1
          have HF1 := Lib.hid (HF.out.alloc HF.out.size (.cells #[.int .u32 x.1, .int .u32 x.2] 32))
          have HO1 := Lib.hid (HOW.out.alloc (.cells #[.int .u32 x.1, .int .u32 x.2] 32))
          have HX := Lib.hid hx
          have HLT := Lib.hid hlt
          clear hx hlt c0
          go_wp2_with (first
            | (go_at_call 11; refine (parts_any _ _ _).mono ?_; rintro e w3 ⟨rfl, hb3⟩
               have HF3 := Lib.hid (HF1.out.grown (grown_same (below_grown hb3 rfl rfl rfl rfl none)) HF1.out.size (by simp))
               have HO3 := Lib.hid (own_below HO1.out hb3)
               clear hb3 x0 x1)
            | (go_at_call 49; refine (bits_any _ _).mono ?_; rintro e w4 ⟨rfl, hw⟩
               have hb4 : Below w3.heap.size w3 w4 := by rw [← hw]; exact below_drewN (Below.refl _ _) _
               have HF4 := Lib.hid (HF3.out.grown (grown_same (below_grown hb4 rfl rfl rfl rfl none)) HF3.out.size (by simp))
               have HO4 := Lib.hid (own_below HO3.out hb4)
               rw [canon_sq]
               obtain ⟨u, hu⟩ : ∃ u, u = sqW (x.1, x.2) := ⟨_, rfl⟩
               rw [← hu]
               have HU := Lib.hid hu
               clear hu hw hb4)
            | (at_builtin; refine wpList_append_lies _ rfl _ _ 54 rfl w2.heap.size 22 y0 (.int .u32 0) 1 4 Try.underlying54 hy0 hy1 hy2 hy3 rfl (by decide) _ j _ rfl (HO4.out.alloc (.cells #[.int .u32 u] 22)) ⟨w4.heap.size, 0, none⟩ 1 1 [.int .u32 u] rfl rfl (cell_one_new _ _ _) (by simp [Value.oneCell']) (by omega) (by have := HPN.out; have := H64.out; have := HLT.out; unfold maxLen; omega) (by have := HPN.out; have := H64.out; have := HLT.out; omega) (by have := HF4.out.size; simp; omega) _ rfl ?_
               intro g5 cap5 w5 hown5 hgrow5 hat5 hlt5
               have HO5 := Lib.hid hown5
               have HG5 := Lib.hid hgrow5
               clear hown5 hgrow5 hat5 hlt5))
          have hF5 : Below w2.heap.size w2 w5 := (HF4.out.alloc HF4.out.size _).grown HG5.out (by have := HF4.out.size; simp; omega) (fun k e => (HOW.out.lt k e).1)
          have hO5 : w5.ownsRow w2.heap.size 22 1 (.slice (some ⟨g5, 0, none⟩) (j + 1) cap5) (j + 1) ((specT T (j + 1)).map u32v) := by
            rw [specT_snoc, List.map_append, ← HX.out]
            show w5.ownsRow _ _ _ _ _ (_ ++ [.int .u32 (sqW (x.1, x.2))])
            rw [← HU.out]
            exact HO5.out
          have HF6 := Lib.hid hF5
          have HO6 := Lib.hid hO5
          clear hF5 hO5
          go_wp2
          go_roundw
          case rel => exact ⟨j + 1, congrArg (Value.int .i64) (by omega), by have := HLT.out; omega, HO6.out, HF6.out⟩
          case measure => have := HLT.out; have := HPN.out; have := H64.out; simp [intOf]; omega
        · have hjp : j = p := by have := HJ.out; omega
          have HJP := Lib.hid hjp
          have i2 : ¬ (j : Int) < p := by omega
          clear hlt hjp
          go_wp2
          go_ret2
          refine ⟨_, rfl, ?_, HB2.out.grown (below_grown HF.out rfl rfl rfl rfl none) HB2.out.size (by simp)⟩
          have := own_base HOW.out HB2.out.size
          rw [HJP.out, HPP.out, HH.out, HTT.out] at this
          exact this

end Nu
end Go.Proofs.Ytkkdimhibfpopaa
