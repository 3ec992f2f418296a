/- slices.AppendSeq and slices.Collect over every other element. -/
import Derived.Test.YtkkdimhibfpopaaR2
import Derived.Shelf.Abstract
namespace Go.Proofs.Ytkkdimhibfpopaa
open Go.ChangeShapes Go.WideShapes Go.ChangeAt Go.RowKit Go.WideMaps Go.Maps Go.Shelf
namespace Nu

/-- The cells of some numbers. -/
def cellsN : List (Nat × Nat) → List Value
  | [] => []
  | x :: l => .int .u32 x.1 :: .int .u32 x.2 :: cellsN l

theorem cellsN_len : ∀ L, (cellsN L).length = 2 * L.length
  | [] => rfl
  | x :: l => by simp [cellsN, cellsN_len l]; omega
theorem cellsN_append : ∀ L M, cellsN (L ++ M) = cellsN L ++ cellsN M
  | [], _ => rfl
  | x :: l, M => by simp [cellsN, cellsN_append l M]
theorem cellsN_at : ∀ (L : List (Nat × Nat)) (j : Nat) (x : Nat × Nat), L[j]? = some x → (cellsN L)[2 * j]? = some (.int .u32 x.1) ∧ (cellsN L)[2 * j + 1]? = some (.int .u32 x.2)
  | [], _, _, h => by simp at h
  | y :: l, 0, x, h => by
    simp at h; subst h
    exact ⟨rfl, rfl⟩
  | y :: l, j + 1, x, h => by
    have h' : l[j]? = some x := by simpa using h
    obtain ⟨a, b⟩ := cellsN_at l j x h'
    rw [show 2 * (j + 1) = 2 * j + 1 + 1 by omega]
    exact ⟨by simpa [cellsN] using a, by simpa [cellsN] using b⟩

theorem Num.of_own {W : World} {base g n cap : Nat} {L : List (Nat × Nat)} (h : W.ownsRow base 32 2 (.slice (some ⟨g, 0, none⟩) n cap) n (cellsN L)) : Num W g L := by
  have hl := h.1
  rw [cellsN_len] at hl
  intro j x hx
  have hj : j < L.length := (List.getElem?_eq_some_iff.1 hx).1
  obtain ⟨a, b⟩ := cellsN_at L j x hx
  exact ⟨(h.cellAt (2 * j) (by omega)).trans a, (h.cellAt (2 * j + 1) (by omega)).trans b⟩

theorem info32 : (Try.prog.info? 32).map (fun i => (i.zero, i.size, i.bytes)) = some (some (.agg #[.int .u32 0, .int .u32 0]), 2, 8) := by kernel_rfl

attribute [local go_sem] Oper.semAt_some wide_fn wide_room round_room round_fn

set_option maxHeartbeats 2000000 in
theorem appendSeq_any (w : World) (bi bl b cap f N : Nat) (L : List (Nat × Nat)) (hL : L.length ≤ 64) (hN : N = (L.length + 1 - f) / 2) (hf : f ≤ 1) (hi : w.cell? ⟨bi, 0, none⟩ = some (.int .i64 f)) (hB : Boxes bl b cap L w) (hbl : bl < w.heap.size) (hbb : b < w.heap.size) :
    Calls Try.prog 70 #[.slice none 0 0, .func (.func 71) #[] #[.pointer (some ⟨bi, 0, none⟩), .pointer (some ⟨bl, 0, none⟩)]] w fun e w' =>
      ∃ v, e = .returned v ∧ w'.ownsRow w.heap.size 32 2 v N (cellsN (picks L f N)) ∧ Below w.heap.size w w' := by
  have hN64 : N ≤ 64 := by omega
  have hseq := other_seq w bi bl b cap f N L hL hN hf hi hB hbl hbb 2
  have HS := Lib.hid hseq
  clear hN hi hB hseq hbl hbb
  obtain ⟨i0, hi0, hz0, hz1, hz2⟩ := info_parts info32
  refine callsIn_wide.1 (callsIn_of_wp_marks (n := 3) Try.func70 rfl trivial ?_ rfl)
  simp only [Try.ntmps70, List.size_toArray, List.length_cons, List.length_nil, Nat.reduceAdd, Nat.reduceSub, Array.replicate_succ, Array.replicate_zero, List.push_toArray, List.append_toArray, List.nil_append, List.cons_append]
  gi_wp2_with fail
  have bS : Boxed (w.alloc (.cells #[.slice none 0 0] 24)) w.heap.size 24 (.slice none 0 0) := Boxed.new w _ _
  have hB0 : Below w.heap.size w (w.alloc (.cells #[.slice none 0 0] 24)) := (Below.refl _ w).alloc (Nat.le_refl _) _
  have hsz : (w.alloc (.cells #[.slice none 0 0] 24)).heap.size = w.heap.size + 1 := by simp
  obtain ⟨W0, hW0⟩ : ∃ W0, w.alloc (.cells #[.slice none 0 0] 24) = W0 := ⟨_, rfl⟩
  rw [hW0] at bS hB0 hsz ⊢
  clear hW0
  refine wpIn_rangeFunc_ownH rfl (by omega) (gf := 71) (lb := #[.pointer (some ⟨bi, 0, none⟩), .pointer (some ⟨bl, 0, none⟩)]) rfl trivial (enters_of Try.func71 (by kernel_rfl) rfl)
    HS.out belowK_t (belowK_b (by omega)) hB0 (fun _ => rfl)
    (fun pre W => (∃ v, Boxed W w.heap.size 24 v ∧ W.ownsRow w.heap.size 32 2 v pre.length (cellsN pre) ∧ True) ∧ Below w.heap.size w W)
    (fun _ _ _ => False) (OwnFrom.and (Own.from (holdsRow_own w.heap.size w.heap.size 24 32 2 (fun pre : List (Nat × Nat) => pre.length) cellsN (fun _ _ => True)) _) (ownFrom_below (Nat.le_refl _) (by omega))) (fun _ _ _ _ _ hs _ _ => hs) ⟨⟨_, bS, World.ownsRow_nil _ _ _ _, trivial⟩, hB0⟩
    (fun x a' W => ∃ Bx, w.heap.size < Bx ∧ W.cell? ⟨Bx, 0, none⟩ = some (.int .u32 x.1) ∧ W.cell? ⟨Bx, 1, none⟩ = some (.int .u32 x.2) ∧ a' = { tmps := #[.slice none 0 0, .func (.func 71) #[] #[.pointer (some ⟨bi, 0, none⟩), .pointer (some ⟨bl, 0, none⟩)], .pointer (some ⟨w.heap.size, 0, none⟩), undef, .slice none 0 0, .pointer (some ⟨Bx, 0, none⟩), .func (.func 71) #[] #[.pointer (some ⟨bi, 0, none⟩), .pointer (some ⟨bl, 0, none⟩)], num x, undef, undef, undef, undef, undef], defers := [] })
    ?axx ?assign ?body ?done ?stop
  case axx =>
    rintro x a' _ X Y row hs hg hr
    obtain ⟨Bx, h1, h2, h3, h4⟩ := hs
    have hne : some Bx ≠ row := fun e => by
      obtain ⟨_, o, ho, hc⟩ := hr Bx e.symm
      obtain ⟨o', ho', hc'⟩ := cells_of_cell h2
      rw [ho] at ho'; cases ho'
      rw [hc] at hc'; cases hc'
    exact ⟨Bx, h1, hg.cell h2 hne, hg.cell h3 hne, h4⟩
  case assign =>
    rintro l pre x W K ⟨⟨v, hv, hrow, ht⟩, hB1⟩ hK
    have hnum : num x = .agg #[.int .u32 x.1, .int .u32 x.2] := rfl
    have n0 := new_cell W #[.int .u32 x.1, .int .u32 x.2] 32 0 (.int .u32 x.1) rfl
    have n1 := new_cell W #[.int .u32 x.1, .int .u32 x.2] 32 1 (.int .u32 x.2) rfl
    have HN := Lib.hid (And.intro n0.1 n1.1)
    have HK := Lib.hid hK
    have HV := Lib.hid hv
    have HR := Lib.hid hrow
    clear n0 n1 hK hv hrow
    rw [hnum]
    gi_wp2
    exact HK.out _ _ ((KeepsOthers.alloc _ _).from _) ((Below.refl _ W).alloc hB1.size _) ⟨⟨v, HV.out.alloc _, HR.out.alloc _, trivial⟩, hB1.alloc hB1.size _⟩ ⟨W.heap.size, HV.out.lt, HN.out.1, HN.out.2, rfl⟩
  case body =>
    rintro l pre x a' W hl _ ⟨⟨v, hv, hrow, ht⟩, hB⟩ ⟨Bx, hBx, x0, x1, rfl⟩ hlt
    have hc := hv.cell
    have HV := Lib.hid hv
    have HR := Lib.hid hrow
    have HB := Lib.hid hB
    clear hv hrow hB
    gi_wp2_with (gi_at_builtin; refine wpListIn_append_own _ rfl _ _ 24 rfl w.heap.size 32 i0 (.agg #[.int .u32 0, .int .u32 0]) 2 8 Try.underlying24 hi0 hz0 hz1 hz2 rfl (by decide) _ _ _ rfl (HR.out.alloc _) ⟨W.heap.size, 0, none⟩ 1 1 [.int .u32 x.1, .int .u32 x.2] rfl rfl (cell_two_new _ _ _ _) (by simp [Value.oneCell']) (by unfold maxLen; omega) (by omega) (by have := HB.out.size; simp; omega) ?_; intro v' w1 hown' hgrow _; obtain ⟨g', cap', rfl⟩ := ownsRow_succ hown'; obtain ⟨hv1, hv2, hr2, hk2, hb2⟩ := HV.out.appended (by decide) HR.out HB.out.size (Nat.le_refl _) hown' hgrow; have hc1 := hv1.cell; have hf1 := hv1.frozen; have HV2 := Lib.hid hv2; have HR2 := Lib.hid hr2; have HK2 := Lib.hid hk2; have HB2 := Lib.hid hb2; clear hv1 hv2 hr2 hk2 hb2 hown' hgrow)
    refine ⟨HK2.out.from _, HB2.out, ⟨_, HV2.out, ?_, trivial⟩, HB.out.trans HB2.out⟩
    rw [cellsN_append, List.length_append]
    exact HR2.out
  case done =>
    rintro D zs W hD rfl ⟨⟨v, hv, hrow, ht⟩, hB1⟩ hK
    have cS := hv.cell
    have HV := Lib.hid hv
    have HR := Lib.hid hrow
    have HB := Lib.hid hB1
    have HK := Lib.hid hK
    clear hv hrow hB1 hK
    gi_wp2
    refine ⟨by simp, .inl ⟨_, _, rfl, run_takeDeferred HK.out, ?_⟩⟩
    refine ⟨_, results_tmp rfl _ _ _, v, rfl, ?_, HB.out.trans (belowK_b (w := w) (Nat.le_refl _) W D _ _ (by omega) HK.out rfl rfl)⟩
    have := ownsRow_putObj HR.out (.deferred none) HK.out rfl
    rw [picks_len] at this
    exact this
  case stop =>
    rintro D c pre W _ _ h _
    exact h.elim

set_option maxHeartbeats 1000000 in
theorem collect_any (w : World) (bi bl b cap f N : Nat) (L : List (Nat × Nat)) (hL : L.length ≤ 64) (hN : N = (L.length + 1 - f) / 2) (hf : f ≤ 1) (hi : w.cell? ⟨bi, 0, none⟩ = some (.int .i64 f)) (hB : Boxes bl b cap L w) (hbl : bl < w.heap.size) (hbb : b < w.heap.size) :
    Calls Try.prog 67 #[.func (.func 71) #[] #[.pointer (some ⟨bi, 0, none⟩), .pointer (some ⟨bl, 0, none⟩)]] w fun e w' =>
      ∃ v, e = .returned v ∧ w'.ownsRow w.heap.size 32 2 v N (cellsN (picks L f N)) ∧ Below w.heap.size w w' := by
  have HA := Lib.hid (appendSeq_any w bi bl b cap f N L hL hN hf hi hB hbl hbb)
  clear hL hN hf hi hB hbl hbb
  go_enter Try.func67, Try.ntmps67
  go_wp2_with (go_at_call 70; refine HA.out.mono ?_; rintro e w' ⟨v, rfl, hr, hb⟩; have HR := Lib.hid hr; have HB := Lib.hid hb; clear hr hb)
  go_ret
  exact ⟨v, rfl, HR.out, HB.out⟩

theorem everyOther_any (w : World) (f n cap b : Nat) :
    Calls Try.prog 68 #[.slice (some ⟨b, 0, none⟩) n cap, .int .i64 f] w fun e w' =>
      e = .returned (.func (.func 71) #[] #[.pointer (some ⟨w.heap.size + 1, 0, none⟩), .pointer (some ⟨w.heap.size, 0, none⟩)]) ∧ w'.cell? ⟨w.heap.size + 1, 0, none⟩ = some (.int .i64 f) ∧ w'.cell? ⟨w.heap.size, 0, none⟩ = some (.slice (some ⟨b, 0, none⟩) n cap) ∧ w'.heap.size = w.heap.size + 2 ∧ Below w.heap.size w w' := by
  have hmf : ∀ (fn : Fn) (first cap : Array Value) (w : World), (Instr.makeFunc fn first cap).run Try.prog w = .ok (.func fn first cap) w := fun _ _ _ _ => rfl
  have hA := ((At.first w).one (.slice (some ⟨b, 0, none⟩) n cap) 24 _ rfl).one (.int .i64 f) 3 (w.heap.size + 1) (by simp)
  have hsz : ((w.alloc (.cells #[.slice (some ⟨b, 0, none⟩) n cap] 24)).alloc (.cells #[.int .i64 f] 3)).heap.size = w.heap.size + 2 := by simp
  have HA := Lib.hid hA
  have HZ := Lib.hid hsz
  clear hA hsz
  go_enter Try.func68, Try.ntmps68
  go_wp2
  go_ret
  obtain ⟨⟨c0, -⟩, ⟨c1, -⟩, -⟩ := HA.out.mem
  exact ⟨rfl, c0, c1, HZ.out, HA.out.below⟩

end Nu
end Go.Proofs.Ytkkdimhibfpopaa
