/- NumericTransforms: what both sides answer; the walk. -/
import Derived.Test.YtkkdimhibfpopaaX7
import Derived.Test.YtkkdimhibfpopaaW4
namespace Go.Proofs.Ytkkdimhibfpopaa
open Go.ChangeShapes Go.WideShapes Go.ChangeAt Go.RowKit Go.WideMaps Go.Maps
namespace Nu

/-- v is a slice of words, wherever it lies; .. at its block's beginning. -/
def ArgW (w : World) (v : Value) (S : List Nat) : Prop := ∃ ao cap, v = .slice ao S.length cap ∧ (S = [] ∨ ∃ b off, ao = some ⟨b, off, none⟩ ∧ b < w.heap.size ∧ WrdO w b off S)
theorem ArgW.step {W X V : World} {v : Value} {S : List Nat} (h : ArgW W v S) (hb : Below X.heap.size X V) (e1 : X.heap = W.heap := by rfl) : ArgW V v S := by
  obtain ⟨ao, cap, rfl, h⟩ := h
  refine ⟨ao, cap, rfl, ?_⟩
  rcases h with h | ⟨b, o, hb', hl, hN⟩
  · exact .inl h
  · have hs := hb.size
    rw [e1] at hs
    exact .inr ⟨b, o, hb', by omega, hN.below e1 hb⟩
def Sw (w : World) (v : Value) (S : List Nat) : Prop := ∃ ao cap, v = .slice ao S.length cap ∧ (S = [] ∨ ∃ b, ao = some ⟨b, 0, none⟩ ∧ Wrd w b S)
theorem Sw.step {W X V : World} {v : Value} {S : List Nat} (h : Sw W v S) (hb : Below X.heap.size X V) (e1 : X.heap = W.heap := by rfl) : Sw V v S := by
  obtain ⟨ao, cap, rfl, h⟩ := h
  refine ⟨ao, cap, rfl, ?_⟩
  rcases h with h | ⟨b, hb', hN⟩
  · exact .inl h
  · exact .inr ⟨b, hb', hN.below e1 hb⟩
theorem Sl.some {w : World} {g n cap : Nat} {L : List (Nat × Nat)} (h : Num w g L) (hL : L.length = n) : Sl w (.slice (some ⟨g, 0, none⟩) n cap) L := ⟨_, cap, by rw [hL], .inr ⟨g, rfl, h⟩⟩
theorem Sl.nil (w : World) : Sl w (.slice none 0 0) [] := ⟨none, 0, rfl, .inl rfl⟩
theorem Sw.nil (w : World) : Sw w (.slice none 0 0) [] := ⟨none, 0, rfl, .inl rfl⟩
theorem Sw.of_own {w : World} {base n : Nat} {v : Value} {S : List Nat} (h : w.ownsRow base 22 1 v n (S.map u32v)) (hn : 0 < n) (hS : S.length = n) : Sw w v S := by
  obtain ⟨g, cap, rfl, -⟩ := own_someT h hn
  exact ⟨_, cap, by rw [hS], .inr ⟨g, rfl, Wrd.of_own h⟩⟩

/-- Both sides' factors. -/
theorem tw_both (n : Int) : ∃ (L : List (Nat × Nat)) (c : Int), L.length ≤ 64 ∧
    (∀ w, Calls Try.prog 32 #[.int .i64 n] w fun e w' => ∃ v, e = .returned (.tuple #[v, .int .i64 c]) ∧ Sl w' v L ∧ Below w.heap.size w w') ∧
    (∀ w, Calls Try.prog 33 #[.int .i64 n] w fun e w' => ∃ v, e = .returned (.tuple #[v, .int .i64 c]) ∧ Sl w' v L ∧ Below w.heap.size w w') := by
  by_cases h : Pt n
  · obtain ⟨m, rfl⟩ : ∃ m : Nat, n = m := ⟨n.toNat, by unfold Pt at h; omega⟩
    obtain ⟨k, hk, hm⟩ := h.two
    have hl : (facL (firstW k) m).length = m := facL_len _ _
    refine ⟨facL (firstW k) m, 0, by rw [hl]; unfold Pt at h; omega, fun w => ?_, fun w => ?_⟩
    · refine (twiddles_two k m hk hm w).mono ?_
      rintro e w' ⟨g, cap, rfl, hn, -, hb⟩
      exact ⟨_, rfl, Sl.some hn hl, hb⟩
    · refine (rtwiddles_two k m hk hm w).mono ?_
      rintro e w' ⟨g, cap, rfl, hn, -, hb⟩
      exact ⟨_, rfl, Sl.some hn hl, hb⟩
  · refine ⟨[], 4, by simp, fun w => ?_, fun w => ?_⟩
    · refine (twiddles_no n h w).mono ?_
      rintro e w' ⟨rfl, hb⟩
      exact ⟨_, rfl, Sl.nil _, hb⟩
    · refine (rtwiddles_no n h w).mono ?_
      rintro e w' ⟨rfl, hb⟩
      exact ⟨_, rfl, Sl.nil _, hb⟩

/-- Both sides' transforms. -/
theorem tr_both (L : List (Nat × Nat)) (bv : Bool) : ∃ (M : List (Nat × Nat)) (c : Int), M.length ≤ 64 ∧
    (∀ v w, Sl w v L → Calls Try.prog 34 #[v, .bool bv] w fun e w' => ∃ u, e = .returned (.tuple #[u, .int .i64 c]) ∧ Sl w' u M ∧ Below w.heap.size w w') ∧
    (∀ v w, Sl w v L → Calls Try.prog 35 #[v, .bool bv] w fun e w' => ∃ u, e = .returned (.tuple #[u, .int .i64 c]) ∧ Sl w' u M ∧ Below w.heap.size w w') := by
  by_cases h : Pt L.length
  · obtain ⟨k, hk, hm⟩ := h.two
    have hne : L ≠ [] := fun e => by rw [e] at hm; simp at hm; have := Nat.two_pow_pos k; omega
    have h64 : L.length ≤ 64 := by unfold Pt at h; omega
    cases bv
    · have hl : (trL k L).length = L.length := by rw [trL_len, hm]
      refine ⟨trL k L, 0, by omega, fun v w hv => ?_, fun v w hv => ?_⟩
      · obtain ⟨ao, cap, rfl, hv⟩ := hv
        obtain ⟨b, rfl, hN⟩ := hv.resolve_left hne
        refine (transform_fwd k L.length cap b L w hk hm rfl hN).mono ?_
        rintro e w' ⟨g, cap', rfl, hn, -, hb⟩
        exact ⟨_, rfl, Sl.some hn hl, hb⟩
      · obtain ⟨ao, cap, rfl, hv⟩ := hv
        obtain ⟨b, rfl, hN⟩ := hv.resolve_left hne
        refine (rtransform_fwd k L.length cap b L w hk hm rfl hN).mono ?_
        rintro e w' ⟨g, cap', rfl, hn, -, hb⟩
        exact ⟨_, rfl, Sl.some hn hl, hb⟩
    · have hl : (invL k L).length = L.length := by unfold invL; rw [List.length_map, trL_len, hm]
      refine ⟨invL k L, 0, by omega, fun v w hv => ?_, fun v w hv => ?_⟩
      · obtain ⟨ao, cap, rfl, hv⟩ := hv
        obtain ⟨b, rfl, hN⟩ := hv.resolve_left hne
        refine (transform_inv k L.length cap b L w hk hm rfl hN).mono ?_
        rintro e w' ⟨g, cap', rfl, hn, -, hb⟩
        exact ⟨_, rfl, Sl.some hn hl, hb⟩
      · obtain ⟨ao, cap, rfl, hv⟩ := hv
        obtain ⟨b, rfl, hN⟩ := hv.resolve_left hne
        refine (rtransform_inv k L.length cap b L w hk hm rfl hN).mono ?_
        rintro e w' ⟨g, cap', rfl, hn, -, hb⟩
        exact ⟨_, rfl, Sl.some hn hl, hb⟩
  · refine ⟨[], 4, by simp, fun v w hv => ?_, fun v w hv => ?_⟩
    · obtain ⟨ao, cap, rfl, _⟩ := hv
      refine (transform_no ao L.length cap bv h w).mono ?_
      rintro e w' ⟨rfl, hb⟩
      exact ⟨_, rfl, Sl.nil _, hb⟩
    · obtain ⟨ao, cap, rfl, _⟩ := hv
      refine (rtransform_no ao L.length cap bv h w).mono ?_
      rintro e w' ⟨rfl, hb⟩
      exact ⟨_, rfl, Sl.nil _, hb⟩

/-- Both sides' powers. -/
theorem sp_both (S : List Nat) (h70 : S.length ≤ 70) : ∃ (T : List Nat) (c : Int), T.length ≤ 64 ∧
    (∀ v w, ArgW w v S → Calls Try.prog 36 #[v] w fun e w' => ∃ u, e = .returned (.tuple #[u, .int .i64 c]) ∧ Sw w' u T ∧ Below w.heap.size w w') ∧
    (∀ v w, ArgW w v S → Calls Try.prog 37 #[v] w fun e w' => ∃ u, e = .returned (.tuple #[u, .int .i64 c]) ∧ Sw w' u T ∧ Below w.heap.size w w') := by
  by_cases h : Pt S.length
  · obtain ⟨k, hk, hm⟩ := h.two
    have hne : S ≠ [] := fun e => by rw [e] at hm; simp at hm; have := Nat.two_pow_pos k; omega
    have h64 : S.length ≤ 64 := by unfold Pt at h; omega
    have hl : (specT (trL k (rl S)) (S.length / 2 + 1)).length = S.length / 2 + 1 := specT_len _ _
    refine ⟨specT (trL k (rl S)) (S.length / 2 + 1), 0, by omega, fun v w hv => ?_, fun v w hv => ?_⟩
    · obtain ⟨ao, cap, rfl, hv⟩ := hv
      obtain ⟨b, off, rfl, _, hN⟩ := hv.resolve_left hne
      refine (spectrum_at k S.length cap b off S w hk hm rfl hN).mono ?_
      rintro e w' ⟨u, rfl, ho, hb⟩
      exact ⟨_, rfl, Sw.of_own ho (by omega) hl, hb⟩
    · obtain ⟨ao, cap, rfl, hv⟩ := hv
      obtain ⟨b, off, rfl, _, hN⟩ := hv.resolve_left hne
      refine (rspectrum_at k S.length cap b off S w hk hm rfl hN).mono ?_
      rintro e w' ⟨u, rfl, ho, hb⟩
      exact ⟨_, rfl, Sw.of_own ho (by omega) hl, hb⟩
  · refine ⟨[], 4, by simp, fun v w hv => ?_, fun v w hv => ?_⟩
    · obtain ⟨ao, cap, rfl, _⟩ := hv
      refine (spectrum_no ao S.length cap h w).mono ?_
      rintro e w' ⟨rfl, hb⟩
      exact ⟨_, rfl, Sw.nil _, hb⟩
    · obtain ⟨ao, cap, rfl, hv⟩ := hv
      refine (rspectrum_no ao S.length cap S w h h70 rfl ?_).mono ?_
      · rcases hv with hv | ⟨b, off, e, _, hN⟩
        · exact .inl (by rw [hv]; rfl)
        · exact .inr ⟨b, off, e, hN⟩
      · rintro e w' ⟨rfl, hb⟩
        exact ⟨_, rfl, Sw.nil _, hb⟩

set_option maxRecDepth 100000 in
set_option maxHeartbeats 4000000 in
theorem equal32_sl (va vb : Value) (S : List Nat) (w : World) (h100 : S.length ≤ 100) (ha : Sw w va S) (hb : Sw w vb S) :
    Calls Try.prog 38 #[va, vb] w fun e w' => e = .returned (.bool true) ∧ Below w.heap.size w w' := by
  obtain ⟨ao, ca, rfl, ha⟩ := ha
  obtain ⟨bo, cb, rfl, hb⟩ := hb
  by_cases he : S = []
  · subst he
    go_enter Try.func38, Try.ntmps38
    go_wp2_with fail
    go_loopw [13] (fun v wr => v = .int .i64 0 ∧ Below w.heap.size w wr) (fun v _ => 0)
    case atStart => exact ⟨rfl, Below.refl _ _⟩
    case round =>
      obtain ⟨rfl, hbw⟩ := hrel
      have HB := Lib.hid hbw
      clear hbw
      go_wp2
      go_ret
      exact ⟨rfl, HB.out⟩
  · obtain ⟨a, rfl, hNa⟩ := ha.resolve_left he
    obtain ⟨b, rfl, hNb⟩ := hb.resolve_left he
    exact equal32_yes S.length a b ca cb S w rfl h100 hNa hNb

set_option maxRecDepth 100000 in
set_option maxHeartbeats 8000000 in
theorem transforms_any (n : Int) (v1 v2 : Value) (L : List (Nat × Nat)) (S : List Nat) (bv : Bool) (w : World) (h1 : ArgN w v1 L) (h2 : ArgW w v2 S) :
    Calls Try.prog 5 #[.int .i64 n, v1, v2, .bool bv] w fun e w' => e = .returned (.bool true) ∧ Below w.heap.size w w' := by
  have hl1 := h1
  have hl2 := h2
  obtain ⟨ao, ca, e1, -⟩ := hl1
  obtain ⟨bo, cb, e2, -⟩ := hl2
  obtain ⟨p, hp⟩ : ∃ p, p = L.length := ⟨_, rfl⟩
  obtain ⟨q, hq⟩ : ∃ q, q = S.length := ⟨_, rfl⟩
  rw [← hp] at e1
  rw [← hq] at e2
  subst e1 e2
  by_cases hbig : 70 < p
  · have i1 : (70 : Int) < p := by omega
    go_enter Try.func5, Try.ntmps5
    go_wp2_with (go_at_call 27; refine (awake_true _).mono ?_; rintro e w1 ⟨rfl, hb⟩; have HB := Lib.hid hb; clear hb)
    go_ret
    exact ⟨rfl, HB.out⟩
  · by_cases hbig2 : 70 < q
    · have i1 : ¬ (70 : Int) < p := by omega
      have i2 : (70 : Int) < q := by omega
      go_enter Try.func5, Try.ntmps5
      go_wp2_with (go_at_call 27; refine (awake_true _).mono ?_; rintro e w1 ⟨rfl, hb⟩; have HB := Lib.hid hb; clear hb)
      go_ret
      exact ⟨rfl, HB.out⟩
    · have i1 : ¬ (70 : Int) < p := by omega
      have i2 : ¬ (70 : Int) < q := by omega
      obtain ⟨TW, tc, t64, tp, tr⟩ := tw_both n
      obtain ⟨M, mc, m64, mp, mr⟩ := tr_both L bv
      obtain ⟨T, sc, s64, sp, sr⟩ := sp_both S (by omega)
      have HTP := Lib.hid tp
      have HTR := Lib.hid tr
      have HMP := Lib.hid mp
      have HMR := Lib.hid mr
      have HSP := Lib.hid sp
      have HSR := Lib.hid sr
      have HT64 := Lib.hid (show TW.length ≤ 200 by omega)
      have HM64 := Lib.hid (show M.length ≤ 200 by omega)
      have HS64 := Lib.hid (show T.length ≤ 100 by omega)
      have HL70 := Lib.hid (show L.length ≤ 200 by omega)
      have H1 := Lib.hid h1
      have H2 := Lib.hid h2
      have HAT := Lib.hid (At.first w)
      have j1 : (tc != tc) = false := by simp
      have j2 : (mc == mc) = true := by simp
      have j3 : (sc == sc) = true := by simp
      clear tp tr mp mr sp sr t64 m64 s64 h1 h2 hbig hbig2 hp hq
      go_enter Try.func5, Try.ntmps5
      go_wp2_with (first
        | (go_at_call 32
           refine (HTP.out _).mono ?_
           rintro e w1 ⟨vtp, rfl, hs, hb⟩
           have HV1 := Lib.hid hs
           have H1 := Lib.hid (H1.out.step hb)
           have H2 := Lib.hid (H2.out.step hb)
           have HAT := Lib.hid (HAT.out.step hb)
           clear hs hb)
        | (go_at_call 33
           refine (HTR.out _).mono ?_
           rintro e w2 ⟨vtr, rfl, hs, hb⟩
           have HV1 := Lib.hid (HV1.out.step hb)
           have HV2 := Lib.hid hs
           have H1 := Lib.hid (H1.out.step hb)
           have H2 := Lib.hid (H2.out.step hb)
           have HAT := Lib.hid (HAT.out.step hb)
           clear hs hb)
        | (go_at_call 9
           refine (given_any L _ _ H1.out HL70.out).mono ?_
           rintro e w4 ⟨vg, rfl, hr, hb⟩
           have HVG := Lib.hid (Sl.of_own hr rfl)
           have H1 := Lib.hid (H1.out.step hb)
           have H2 := Lib.hid (H2.out.step hb)
           have HAT := Lib.hid (HAT.out.step hb)
           clear hr hb)
        | (go_at_call 34
           refine (HMP.out _ _ HVG.out).mono ?_
           rintro e w5 ⟨vmp, rfl, hs, hb⟩
           have HV3 := Lib.hid hs
           have H1 := Lib.hid (H1.out.step hb)
           have H2 := Lib.hid (H2.out.step hb)
           have HAT := Lib.hid (HAT.out.step hb)
           clear hs hb)
        | (go_at_call 10
           refine (own_any L _ _ H1.out HL70.out).mono ?_
           rintro e w6 ⟨vo, rfl, hr, hb⟩
           have HVO := Lib.hid (Sl.of_row hr rfl)
           have HV3 := Lib.hid (HV3.out.step hb)
           have H2 := Lib.hid (H2.out.step hb)
           have HAT := Lib.hid (HAT.out.step hb)
           clear hr hb)
        | (go_at_call 35
           refine (HMR.out _ _ HVO.out).mono ?_
           rintro e w7 ⟨vmr, rfl, hs, hb⟩
           have HV4 := Lib.hid hs
           have HV3 := Lib.hid (HV3.out.step hb)
           have H2 := Lib.hid (H2.out.step hb)
           have HAT := Lib.hid (HAT.out.step hb)
           clear hs hb)
        | (go_at_call 36
           refine (HSP.out _ _ H2.out).mono ?_
           rintro e w8 ⟨vsp, rfl, hs, hb⟩
           have HV5 := Lib.hid hs
           have HV3 := Lib.hid (HV3.out.step hb)
           have HV4 := Lib.hid (HV4.out.step hb)
           have H2 := Lib.hid (H2.out.step hb)
           have HAT := Lib.hid (HAT.out.step hb)
           clear hs hb)
        | (go_at_call 37
           refine (HSR.out _ _ H2.out).mono ?_
           rintro e w9 ⟨vsr, rfl, hs, hb⟩
           have HV6 := Lib.hid hs
           have HV3 := Lib.hid (HV3.out.step hb)
           have HV4 := Lib.hid (HV4.out.step hb)
           have HV5 := Lib.hid (HV5.out.step hb)
           have HAT := Lib.hid (HAT.out.step hb)
           clear hs hb)
        | (go_at_call 12
           first
             | (have h4 := HV4.out
                refine (alike_any _ _ M _ HV3.out h4 HM64.out).mono ?_
                rintro e w10 ⟨rfl, hb⟩
                have HV5 := Lib.hid (HV5.out.step hb)
                have HV6 := Lib.hid (HV6.out.step hb)
                have HAT := Lib.hid (HAT.out.step hb)
                clear hb h4)
             | (refine (alike_any _ _ TW _ HV1.out HV2.out HT64.out).mono ?_
                rintro e w3 ⟨rfl, hb⟩
                have H1 := Lib.hid (H1.out.step hb)
                have H2 := Lib.hid (H2.out.step hb)
                have HAT := Lib.hid (HAT.out.step hb)
                clear hb))
        | (go_at_call 38
           refine (equal32_sl _ _ T _ HS64.out HV5.out HV6.out).mono ?_
           rintro e w11 ⟨rfl, hb⟩
           have HAT := Lib.hid (HAT.out.step hb)
           clear hb)
        | (go_at_call 27
           refine (awake_true _).mono ?_
           rintro e w12 ⟨rfl, hb⟩
           have HAT := Lib.hid (HAT.out.step hb)
           clear hb))
      go_ret
      exact ⟨rfl, HAT.out.below⟩

end Nu
end Go.Proofs.Ytkkdimhibfpopaa
