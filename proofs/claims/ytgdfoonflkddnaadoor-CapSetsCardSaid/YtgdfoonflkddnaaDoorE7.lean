/- Lists of integers that a call owns: sorted, searched, copied, made compact. -/
import Derived.Test.YtgdfoonflkddnaaDoorE4
namespace Go.Proofs.YtgdfoonflkddnaaDoor
open Go.ChangeShapes Go.WideShapes Go.ChangeAt Go.RowKit
namespace Cp

theorem below_setCells {B : Nat} {a : World} (b : Nat) (hb : B ≤ b) : ∀ (vs : List Value) (o : Nat) (w : World), Below B a w → Below B a (w.setCells b o vs)
  | [], _, _, h => h
  | v :: r, o, _, h => below_setCells b hb r (o + 1) _ (h.setCell hb v)

theorem Contains_owned (w : World) (B : Nat) (v : Value) (l : List Int) (x : Int) (h : Owned w B v l) :
    Calls Tryd.prog 50 #[v, .int .i64 x] w fun e w' => e = .returned (.bool (l.contains x)) ∧ w = w' := by
  rcases h.form with ⟨rfl, rfl⟩ | ⟨g, c, _, rfl, _, _, _, k2, _, hc⟩
  · exact (Tryd.slices_Contains_int_empty none 0 x w).mono fun _ _ ⟨he, hw⟩ => ⟨by rw [he]; rfl, hw.symm⟩
  · have hbig : l.length ≤ 9223372036854775807 := by unfold maxLen at k2; omega
    exact (Tryd.slices_Contains_int g 0 l.length c l x w (Nat.le_refl _) hbig hc).mono fun _ _ ⟨he, hw⟩ => ⟨by rw [he, List.take_length], hw.symm⟩

theorem Clone_owned (w : World) (B : Nat) (v : Value) (l : List Int) (h : Owned w B v l) (hl : l ≠ []) (hs : l.length * 8 ≤ 140737488355328) :
    Calls Tryd.prog 49 #[v] w fun e w' => ∃ v', e = .returned v' ∧ Owned w' w.heap.size v' l ∧ Below w.heap.size w w' := by
  rcases h.form with ⟨rfl, rfl⟩ | ⟨g, c, _, rfl, _, _, _, k2, _, hc⟩
  · exact absurd rfl hl
  · refine (Tryd.slices_Clone_int g 0 l.length c l w (Nat.le_refl _) hs hc).mono fun _ _ ⟨v', he, ho, _, hb⟩ => ⟨v', he, ?_, hb⟩
    rw [List.take_length] at ho
    exact ho

theorem Compact_owned (w : World) (B : Nat) (v : Value) (l : List Int) (h : Owned w B v l) (hl : l ≠ []) (hk : (Lib.compact l).length = l.length) :
    Calls Tryd.prog 48 #[v] w fun e w' => ∃ a c, e = .returned (.slice a l.length c) ∧ Below B w w' := by
  rcases h.form with ⟨rfl, rfl⟩ | ⟨g, c, cur, rfl, hB, _, k1, k2, hg, hc⟩
  · exact absurd rfl hl
  · have hbig : l.length ≤ 9223372036854775807 := by unfold maxLen at k2; omega
    have hf : ∀ j, j < l.length → w.frozen? ⟨g, 0 + j, none⟩ = false := fun j _ => by simp [World.frozen?, hg]
    refine (Tryd.slices_Compact_int_cells g 0 l.length c l w (Nat.le_refl _) hbig k1 hc hf).mono fun _ _ ⟨he, q, hw⟩ => ⟨some ⟨g, 0, none⟩, c, ?_, ?_⟩
    · rw [he, List.take_length, hk]
    · rw [hw]
      exact below_setCells g hB _ _ _ (below_drewN (Below.refl _ _) q)

set_option maxHeartbeats 800000 in
theorem IsSorted_cells (w : World) (g n c : Nat) (l : List Int) (hn : n + 1 ≤ 9223372036854775807) (hc : ∀ j, j < n + 1 → w.cell? ⟨g, j, none⟩ = some (.int .i64 (l.getD j 0)))
    (hs : ∀ k, k < n → l.getD k 0 ≤ l.getD (k + 1) 0) :
    Calls Tryd.prog 47 #[.slice (some ⟨g, 0, none⟩) (n + 1) c] w fun e w' => e = .returned (.bool true) ∧ ∃ q, w' = w.drewN q := by
  have C := Lib.hid hc
  have S := Lib.hid hs
  clear hc hs
  go_enter Tryd.func47, Tryd.ntmps47
  go_wp2
  go_loopw [3] (fun i wr => ∃ k : Nat, k ≤ n ∧ i = .int .i64 k ∧ ∃ q, wr = w.drewN q) (fun i _ => (intOf i).toNat)
  case atStart => exact ⟨n, Nat.le_refl _, by simp, 0, rfl⟩
  case round =>
    obtain ⟨k, hk, rfl, hq⟩ := hrel
    have D := Lib.hid hq
    clear hq
    cases k with
    | zero =>
      go_wp2
      go_ret
      exact ⟨rfl, D.out⟩
    | succ j =>
      have c1 : wr.cell? ⟨g, j + 1, none⟩ = some (.int .i64 (l.getD (j + 1) 0)) := by
        obtain ⟨q, rfl⟩ := D.out
        exact C.out (j + 1) (by omega)
      have c0 : wr.cell? ⟨g, j, none⟩ = some (.int .i64 (l.getD j 0)) := by
        obtain ⟨q, rfl⟩ := D.out
        exact C.out j (by omega)
      have s1 := S.out j (by omega)
      generalize l.getD (j + 1) 0 = y at c1 s1
      generalize l.getD j 0 = x at c0 s1
      go_wp2
      have b1 : (j : Int) + 1 < (n : Int) + 1 := by omega
      have b2 : (0 : Int) ≤ (j : Int) + 1 := by omega
      have b4 : (j : Int) < (n : Int) + 1 := by omega
      have b6 : (j : Int) + 1 - 1 = j := by omega
      have b3 : ((j : Int) + 1).toNat = j + 1 := by omega
      have b5 : IntKind.i64.wrap (j : Int) = j := IntWalk.i64_in _ (by omega)
      go_quiet ((go_at_call 60; exact Calls.quiet_of_same (Tryd.cmp_Less_int2 _ _ _)))
      clear b1 b2 b3 b4 b5 b6
      go_wp2
      exact ⟨⟨j, by omega, rfl, by obtain ⟨q, rfl⟩ := D.out; exact ⟨_, World.drewN_drewN _ _ _⟩⟩, by simp [intOf]⟩

theorem IsSorted_owned (w : World) (B : Nat) (v : Value) (l : List Int) (h : Owned w B v l) (hl : l ≠ []) (hs : ∀ k, k + 1 < l.length → l.getD k 0 ≤ l.getD (k + 1) 0) :
    Calls Tryd.prog 47 #[v] w fun e w' => e = .returned (.bool true) ∧ ∃ q, w' = w.drewN q := by
  rcases h.form with ⟨rfl, rfl⟩ | ⟨g, c, _, rfl, _, _, _, k2, _, hc⟩
  · exact absurd rfl hl
  · obtain ⟨n, hn⟩ : ∃ n, l.length = n + 1 := ⟨l.length - 1, by have := List.length_pos_iff.2 hl; omega⟩
    rw [hn] at hc ⊢
    exact IsSorted_cells w g n c l (by unfold maxLen at k2; omega) (fun j hj => by have := hc j hj; rwa [Nat.zero_add] at this) (fun k hk => hs k (by omega))

end Cp
end Go.Proofs.YtgdfoonflkddnaaDoor
