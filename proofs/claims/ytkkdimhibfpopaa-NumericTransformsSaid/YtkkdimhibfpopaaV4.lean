/- Contracts: the law's lists of numbers of the program and of the reference. -/
import Derived.Test.YtkkdimhibfpopaaV3
namespace Go.Proofs.Ytkkdimhibfpopaa
open Go.ChangeShapes Go.WideShapes Go.ChangeAt Go.RowKit Go.WideMaps Go.Maps
namespace Nu

/-- v is a slice of pairs of words, wherever it lies. -/
def ArgN (w : World) (v : Value) (L : List (Nat × Nat)) : Prop := ∃ ao cap, v = .slice ao L.length cap ∧ (L = [] ∨ ∃ b o, ao = some ⟨b, o, none⟩ ∧ b < w.heap.size ∧ ∀ j x, L[j]? = some x → w.cell? ⟨b, o + j * 2, none⟩ = some (.int .u32 x.1) ∧ w.cell? ⟨b, o + j * 2 + 1, none⟩ = some (.int .u32 x.2))
theorem ArgN.step {W X V : World} {v : Value} {L : List (Nat × Nat)} (h : ArgN W v L) (hb : Below X.heap.size X V) (e1 : X.heap = W.heap := by rfl) : ArgN V v L := by
  obtain ⟨ao, cap, rfl, h⟩ := h
  refine ⟨ao, cap, rfl, ?_⟩
  rcases h with h | ⟨b, o, hb', hl, hN⟩
  · exact .inl h
  · have hs := hb.size
    rw [e1] at hs
    refine .inr ⟨b, o, hb', by omega, fun j x hx => ?_⟩
    have e2 : V.heap[b]? = W.heap[b]? := by rw [hb.block b (by rw [e1]; exact hl), e1]
    exact ⟨(World.cell?_of_block (w := W) e2).trans (hN j x hx).1, (World.cell?_of_block (w := W) e2).trans (hN j x hx).2⟩
theorem cell_two_up (w : World) (o : Obj) (a b : Value) (t : TypeId) : ∀ j u, ([a, b] : List Value)[j]? = some u → ((w.alloc o).alloc (.cells #[a, b] t)).cell? ((⟨w.heap.size + 1, 0, none⟩ : Addr).add j) = some u := by
  have e : (w.alloc o).heap.size = w.heap.size + 1 := by simp
  rw [← e]
  exact cell_two_new _ _ _ _
theorem take_snoc {L : List (Nat × Nat)} {j : Nat} {x : Nat × Nat} (h : L[j]? = some x) : L.take (j + 1) = L.take j ++ [x] := by
  rw [List.take_add_one, h]; rfl

set_option maxRecDepth 100000 in
set_option maxHeartbeats 4000000 in
theorem given_any (L : List (Nat × Nat)) (v0 : Value) (w : World) (h : ArgN w v0 L) (h200 : L.length ≤ 200) :
    Calls Try.prog 9 #[v0] w fun e w' => ∃ v, e = .returned v ∧ w'.ownsRow w.heap.size 32 2 v L.length (cellsN L) ∧ Below w.heap.size w w' := by
  obtain ⟨ao, cap, rfl, h⟩ := h
  obtain ⟨n, hn⟩ : ∃ n, n = L.length := ⟨_, rfl⟩
  rw [← hn] at h200 ⊢
  obtain ⟨z0, hz0, hz1, hz2, hz3⟩ := info_parts info32
  have i1 : (n : Int) ≤ 200 := by omega
  have HN := Lib.hid hn
  have H := Lib.hid h
  have H2 := Lib.hid h200
  clear hn h h200
  go_enter Try.func9, Try.ntmps9
  go_wp2_with fail
  go_loopw [3, 8] (fun out v wr => ∃ j : Nat, v = .int .i64 j ∧ j ≤ n ∧ wr.ownsRow w.heap.size 32 2 out j (cellsN (L.take j)) ∧ Below w.heap.size w wr) (fun _ v _ => 300 - (intOf v).toNat)
  case atStart => exact ⟨0, rfl, Nat.zero_le _, World.ownsRow_nil _ _ _ _, Below.refl _ _⟩
  case round =>
    obtain ⟨j, rfl, hj, hown, hfr⟩ := hrel
    have HO := Lib.hid hown
    have HF := Lib.hid hfr
    have HJ := Lib.hid hj
    clear hown hfr hj
    by_cases hlt : j < n
    · obtain ⟨x, hx⟩ : ∃ x, x = at2 L j := ⟨_, rfl⟩
      have hat : L[j]? = some x := by rw [hx]; exact at2_at (by rw [← HN.out]; exact hlt)
      obtain ⟨b, o, hao, hbl, hc⟩ : ∃ b o, ao = some ⟨b, o, none⟩ ∧ b < w.heap.size ∧ ∀ j x, L[j]? = some x → w.cell? ⟨b, o + j * 2, none⟩ = some (.int .u32 x.1) ∧ w.cell? ⟨b, o + j * 2 + 1, none⟩ = some (.int .u32 x.2) := by
        rcases H.out with h0 | h0
        · exact absurd (by have := HN.out; rw [h0] at this; exact this) (by show ¬ n = 0; omega)
        · exact h0
      subst hao
      obtain ⟨x0, x1⟩ := hc j x hat
      have x0 := (HF.out.cell (p := ⟨b, o + j * 2, none⟩) hbl).trans x0
      have x1 := (HF.out.cell (p := ⟨b, o + j * 2 + 1, none⟩) hbl).trans x1
      have i3 : (j : Int) < n := by omega
      have i4 : (0 : Int) ≤ j := by omega
      have HX := Lib.hid hat
      have HLT := Lib.hid hlt
      clear hx hat hc hbl hlt
      go_wp2_with (at_builtin; refine wpList_append_lies _ rfl _ _ 24 rfl w.heap.size 32 z0 (.agg #[.int .u32 0, .int .u32 0]) 2 8 Try.underlying24 hz0 hz1 hz2 hz3 rfl (by decide) _ j _ rfl ((HO.out.alloc (.cells #[.int .u32 x.1, .int .u32 x.2] 23)).alloc (.cells #[.int .u32 x.1, .int .u32 x.2] 32)) ⟨wr.heap.size + 1, 0, none⟩ 1 1 [.int .u32 x.1, .int .u32 x.2] rfl rfl (cell_two_up _ _ _ _ _) (by simp [Value.oneCell']) (by omega) (by have := H2.out; have := HLT.out; unfold maxLen; omega) (by have := H2.out; have := HLT.out; omega) (by have := HF.out.size; simp; omega) _ rfl ?_
                   intro g4 cap4 w4 hown4 hgrow4 hat4 hlt4
                   have HO4 := Lib.hid hown4
                   have HG4 := Lib.hid hgrow4
                   clear hown4 hgrow4 hat4 hlt4 x0 x1)
      have hF4 : Below w.heap.size w w4 := ((HF.out.alloc HF.out.size (.cells #[.int .u32 x.1, .int .u32 x.2] 23)).alloc (by have := HF.out.size; simp; omega) (.cells #[.int .u32 x.1, .int .u32 x.2] 32)).grown HG4.out (by have := HF.out.size; simp; omega) (fun k e => (HO.out.lt k e).1)
      have hO4 : w4.ownsRow w.heap.size 32 2 (.slice (some ⟨g4, 0, none⟩) (j + 1) cap4) (j + 1) (cellsN (L.take (j + 1))) := by
        rw [take_snoc HX.out, cellsN_append]
        exact HO4.out
      have HF5 := Lib.hid hF4
      have HO5 := Lib.hid hO4
      clear hF4 hO4
      go_wp2
      go_roundw
      case rel => exact ⟨j + 1, congrArg (Value.int .i64) (by omega), by have := HLT.out; omega, HO5.out, HF5.out⟩
      case measure => simp [intOf]; omega
    · have hjr : j = n := by have := HJ.out; omega
      have HJR := Lib.hid hjr
      have i3 : ¬ (j : Int) < n := by omega
      clear hlt hjr
      go_wp2
      go_ret
      refine ⟨_, rfl, ?_, HF.out⟩
      have := HO.out
      rw [HJR.out, HN.out, List.take_length, ← HN.out] at this
      exact this

set_option maxRecDepth 100000 in
set_option maxHeartbeats 4000000 in
theorem own_any (L : List (Nat × Nat)) (v0 : Value) (w : World) (h : ArgN w v0 L) (h200 : L.length ≤ 200) :
    Calls Try.prog 10 #[v0] w fun e w' => ∃ v, e = .returned v ∧ w'.ownsRow w.heap.size 38 2 v L.length (cellsN L) ∧ Below w.heap.size w w' := by
  obtain ⟨ao, cap, rfl, h⟩ := h
  obtain ⟨n, hn⟩ : ∃ n, n = L.length := ⟨_, rfl⟩
  rw [← hn] at h200 ⊢
  obtain ⟨z0, hz0, hz1, hz2, hz3⟩ := info_parts info38
  have i1 : (n : Int) ≤ 200 := by omega
  have HN := Lib.hid hn
  have H := Lib.hid h
  have H2 := Lib.hid h200
  clear hn h h200
  go_enter Try.func10, Try.ntmps10
  go_wp2_with fail
  go_loopw [3, 8] (fun out v wr => ∃ j : Nat, v = .int .i64 j ∧ j ≤ n ∧ wr.ownsRow w.heap.size 38 2 out j (cellsN (L.take j)) ∧ Below w.heap.size w wr) (fun _ v _ => 300 - (intOf v).toNat)
  case atStart => exact ⟨0, rfl, Nat.zero_le _, World.ownsRow_nil _ _ _ _, Below.refl _ _⟩
  case round =>
    obtain ⟨j, rfl, hj, hown, hfr⟩ := hrel
    have HO := Lib.hid hown
    have HF := Lib.hid hfr
    have HJ := Lib.hid hj
    clear hown hfr hj
    by_cases hlt : j < n
    · obtain ⟨x, hx⟩ : ∃ x, x = at2 L j := ⟨_, rfl⟩
      have hat : L[j]? = some x := by rw [hx]; exact at2_at (by rw [← HN.out]; exact hlt)
      obtain ⟨b, o, hao, hbl, hc⟩ : ∃ b o, ao = some ⟨b, o, none⟩ ∧ b < w.heap.size ∧ ∀ j x, L[j]? = some x → w.cell? ⟨b, o + j * 2, none⟩ = some (.int .u32 x.1) ∧ w.cell? ⟨b, o + j * 2 + 1, none⟩ = some (.int .u32 x.2) := by
        rcases H.out with h0 | h0
        · exact absurd (by have := HN.out; rw [h0] at this; exact this) (by show ¬ n = 0; omega)
        · exact h0
      subst hao
      obtain ⟨x0, x1⟩ := hc j x hat
      have x0 := (HF.out.cell (p := ⟨b, o + j * 2, none⟩) hbl).trans x0
      have x1 := (HF.out.cell (p := ⟨b, o + j * 2 + 1, none⟩) hbl).trans x1
      have i3 : (j : Int) < n := by omega
      have i4 : (0 : Int) ≤ j := by omega
      have HX := Lib.hid hat
      have HLT := Lib.hid hlt
      clear hx hat hc hbl hlt
      go_wp2_with (at_builtin; refine wpList_append_lies _ rfl _ _ 27 rfl w.heap.size 38 z0 (.agg #[.int .u32 0, .int .u32 0]) 2 8 Try.underlying27 hz0 hz1 hz2 hz3 rfl (by decide) _ j _ rfl ((HO.out.alloc (.cells #[.int .u32 x.1, .int .u32 x.2] 23)).alloc (.cells #[.int .u32 x.1, .int .u32 x.2] 38)) ⟨wr.heap.size + 1, 0, none⟩ 1 1 [.int .u32 x.1, .int .u32 x.2] rfl rfl (cell_two_up _ _ _ _ _) (by simp [Value.oneCell']) (by omega) (by have := H2.out; have := HLT.out; unfold maxLen; omega) (by have := H2.out; have := HLT.out; omega) (by have := HF.out.size; simp; omega) _ rfl ?_
                   intro g4 cap4 w4 hown4 hgrow4 hat4 hlt4
                   have HO4 := Lib.hid hown4
                   have HG4 := Lib.hid hgrow4
                   clear hown4 hgrow4 hat4 hlt4 x0 x1)
      have hF4 : Below w.heap.size w w4 := ((HF.out.alloc HF.out.size (.cells #[.int .u32 x.1, .int .u32 x.2] 23)).alloc (by have := HF.out.size; simp; omega) (.cells #[.int .u32 x.1, .int .u32 x.2] 38)).grown HG4.out (by have := HF.out.size; simp; omega) (fun k e => (HO.out.lt k e).1)
      have hO4 : w4.ownsRow w.heap.size 38 2 (.slice (some ⟨g4, 0, none⟩) (j + 1) cap4) (j + 1) (cellsN (L.take (j + 1))) := by
        rw [take_snoc HX.out, cellsN_append]
        exact HO4.out
      have HF5 := Lib.hid hF4
      have HO5 := Lib.hid hO4
      clear hF4 hO4
      go_wp2
      go_roundw
      case rel => exact ⟨j + 1, congrArg (Value.int .i64) (by omega), by have := HLT.out; omega, HO5.out, HF5.out⟩
      case measure => simp [intOf]; omega
    · have hjr : j = n := by have := HJ.out; omega
      have HJR := Lib.hid hjr
      have i3 : ¬ (j : Int) < n := by omega
      clear hlt hjr
      go_wp2
      go_ret
      refine ⟨_, rfl, ?_, HF.out⟩
      have := HO.out
      rw [HJR.out, HN.out, List.take_length, ← HN.out] at this
      exact this

end Nu
end Go.Proofs.Ytkkdimhibfpopaa
