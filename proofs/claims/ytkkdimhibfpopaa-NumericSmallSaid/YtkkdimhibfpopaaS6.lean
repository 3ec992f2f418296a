/- Contracts: sizes, and the forward transform. -/
import Derived.Test.YtkkdimhibfpopaaS5
namespace Go.Proofs.Ytkkdimhibfpopaa
open Go.ChangeShapes Go.WideShapes Go.ChangeAt Go.RowKit Go.WideMaps Go.Maps
namespace Nu

theorem isSize1 (w : World) : Calls Try.prog 57 #[.int .i64 1] w fun e w' => e = .returned (.bool true) ∧ w = w' := by
  go_enter Try.func57, Try.ntmps57
  go_wp2
  go_ret
  exact ⟨rfl, rfl⟩
theorem isSize2 (w : World) : Calls Try.prog 57 #[.int .i64 2] w fun e w' => e = .returned (.bool true) ∧ w = w' := by
  go_enter Try.func57, Try.ntmps57
  go_wp2
  go_ret
  exact ⟨rfl, rfl⟩
theorem isSize4 (w : World) : Calls Try.prog 57 #[.int .i64 4] w fun e w' => e = .returned (.bool true) ∧ w = w' := by
  go_enter Try.func57, Try.ntmps57
  go_wp2
  go_ret
  exact ⟨rfl, rfl⟩
theorem isSize8 (w : World) : Calls Try.prog 57 #[.int .i64 8] w fun e w' => e = .returned (.bool true) ∧ w = w' := by
  go_enter Try.func57, Try.ntmps57
  go_wp2
  go_ret
  exact ⟨rfl, rfl⟩
theorem isSize16 (w : World) : Calls Try.prog 57 #[.int .i64 16] w fun e w' => e = .returned (.bool true) ∧ w = w' := by
  go_enter Try.func57, Try.ntmps57
  go_wp2
  go_ret
  exact ⟨rfl, rfl⟩
theorem isSize32 (w : World) : Calls Try.prog 57 #[.int .i64 32] w fun e w' => e = .returned (.bool true) ∧ w = w' := by
  go_enter Try.func57, Try.ntmps57
  go_wp2
  go_ret
  exact ⟨rfl, rfl⟩
theorem isSize64 (w : World) : Calls Try.prog 57 #[.int .i64 64] w fun e w' => e = .returned (.bool true) ∧ w = w' := by
  go_enter Try.func57, Try.ntmps57
  go_wp2
  go_ret
  exact ⟨rfl, rfl⟩
theorem isSize_two (k n : Nat) (hk : k ≤ 6) (hn : n = 2 ^ k) (w : World) : Calls Try.prog 57 #[.int .i64 n] w fun e w' => e = .returned (.bool true) ∧ w = w' := by
  subst hn
  rcases (show k = 0 ∨ k = 1 ∨ k = 2 ∨ k = 3 ∨ k = 4 ∨ k = 5 ∨ k = 6 by omega) with rfl | rfl | rfl | rfl | rfl | rfl | rfl
  · exact isSize1 w
  · exact isSize2 w
  · exact isSize4 w
  · exact isSize8 w
  · exact isSize16 w
  · exact isSize32 w
  · exact isSize64 w

theorem below_of {w w' : World} (h : w.grownBy w' none) : Below w.heap.size w w' := ⟨h.os, h.tape, h.output, h.size, fun k hk => h.block k hk (by simp)⟩

set_option maxHeartbeats 2000000 in
theorem transform_fwd (k n cap b : Nat) (L : List (Nat × Nat)) (w : World) (hk : k ≤ 6) (hn : n = 2 ^ k) (hL : L.length = n) (hN : Num w b L) :
    Calls Try.prog 34 #[.slice (some ⟨b, 0, none⟩) n cap, .bool false] w fun e w' => ∃ g cap', e = .returned (.tuple #[.slice (some ⟨g, 0, none⟩) n cap', .int .i64 0]) ∧ Num w' g (trL k L) ∧ w.heap.size ≤ g ∧ Below w.heap.size w w' := by
  have hbw : b < w.heap.size := hN.lt (fun e => by rw [e] at hL; simp at hL; have := Nat.two_pow_pos k; omega)
  have hg0 := World.grownBy_alloc w (.map #[] 0) none
  have hN0 := hN.grown hg0 (by simp)
  have hT0 : Tm (w.alloc (.map #[] 0)) w.heap.size 0 (fun _ => True) := ⟨_, World.ownsMap_made w _ _ _, ⟨[], rfl⟩, fun k _ => .inl rfl⟩
  have hg1 := World.grownBy_alloc (w.alloc (.map #[] 0)) (.cells #[.map (some w.heap.size)] 92) none
  have hN1 := hN0.grown hg1 (by simp)
  have hT1 := hT0.kept hg1 (by simp) (fun _ _ _ => by simp)
  have cb := (new_cell (w.alloc (.map #[] 0)) #[.map (some w.heap.size)] 92 0 (.map (some w.heap.size)) rfl).1
  have hgw := grown_trans hg0 hg1
  rw [show (w.alloc (.map #[] 0)).heap.size = w.heap.size + 1 by simp] at cb
  obtain ⟨m, hm⟩ : ∃ m, m = w.heap.size := ⟨_, rfl⟩
  have HM := Lib.hid hm
  have HN := Lib.hid hN1
  have HT := Lib.hid hT1
  have HG := Lib.hid hgw
  have HBW := Lib.hid hbw
  have HL := Lib.hid hL
  have Hn := Lib.hid hn
  clear hbw hg0 hN0 hT0 hg1 hN1 hT1 hgw hN hL hm hn
  have hmm := @run_makeMap Try.prog
  go_enter Try.func34, Try.ntmps34
  go_wp2_with (first
    | (go_at_call 57; refine (isSize_two k n hk Hn.out _).mono ?_; rintro e w' ⟨rfl, rfl⟩)
    | (go_at_call 60
       refine (tr_any k hk n cap b w.heap.size 0 L _ Hn.out HL.out HN.out (by have := HBW.out; omega) HT.out (by have : 2 ^ k ≤ 2 ^ 6 := Nat.pow_le_pow_right (by omega) hk; omega)).mono ?_
       rintro e w' ⟨g, cap', ⟨rfl, -⟩, hn, hg, ht, hgr⟩
       have HNN := Lib.hid hn
       have HGS := Lib.hid hg
       have HGR := Lib.hid hgr
       clear hn hg ht hgr cb))
  go_ret2
  refine ⟨g, cap', rfl, HNN.out, Nat.le_trans HG.out.size HGS.out, below_of (HG.out.andThen HGR.out (fun j e => .inl (by cases e; exact Nat.le_refl _)))⟩

end Nu
end Go.Proofs.Ytkkdimhibfpopaa
