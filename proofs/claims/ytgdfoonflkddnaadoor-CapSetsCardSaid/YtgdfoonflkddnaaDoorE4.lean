/- Members, here and in the reference; lists that a call owns, compared. -/
import Derived.Test.YtgdfoonflkddnaaDoorE3
import Derived.Test.YtgdfoonflkddnaaDoorD1
import Derived.Test.YtgdfoonflkddnaaDoorSh
namespace Go.Proofs.YtgdfoonflkddnaaDoor
open Go.ChangeShapes Go.WideShapes Go.ChangeAt Go.RowKit
namespace Cp

/-- A slice value owns a list of integers. -/
def Owned (w : World) (B : Nat) (v : Value) (l : List Int) : Prop := w.ownsRow B 3 1 v l.length (l.map (Value.int .i64))

theorem Owned.form {w : World} {B : Nat} {v : Value} {l : List Int} (h : Owned w B v l) :
    (l = [] ∧ v = .slice none 0 0) ∨ ∃ g c cur, v = .slice (some ⟨g, 0, none⟩) l.length c ∧ B ≤ g ∧ g < w.heap.size ∧ l.length ≤ c ∧ c ≤ maxLen ∧ w.heap[g]? = some (.cells cur 3 (0, 0)) ∧
      ∀ j, j < l.length → w.cell? ⟨g, 0 + j, none⟩ = some (.int .i64 (l.getD j 0)) := by
  rcases h.2 with ⟨rfl, hn⟩ | ⟨g, cap, cur, rfl, hb, hg, hn, hm, _, ht⟩
  · exact .inl ⟨List.eq_nil_of_length_eq_zero hn, rfl⟩
  · refine .inr ⟨g, cap, cur, rfl, hb, ?_, hn, hm, hg, fun j hj => ?_⟩
    · rcases Nat.lt_or_ge g w.heap.size with h | h
      · exact h
      · rw [Array.getElem?_eq_none h] at hg
        cases hg
    · rw [Nat.zero_add, cell_of_row w g j _ _ _ hg, ← Array.getElem?_toList]
      have h1 : (cur.toList.take (l.length * 1))[j]? = (l.map (Value.int .i64))[j]? := by rw [ht]
      rw [List.getElem?_take, if_pos (by omega)] at h1
      rw [h1]
      simp [hj]

theorem Owned.below {w w' : World} {B : Nat} {v : Value} {l : List Int} (h : Owned w B v l) (hb : Below w.heap.size w w') : Owned w' B v l := by
  refine ⟨h.1, ?_⟩
  rcases h.2 with h1 | ⟨g, cap, cur, hv, h1, hg, h2⟩
  · exact .inl h1
  · have hlt : g < w.heap.size := by
      rcases Nat.lt_or_ge g w.heap.size with h | h
      · exact h
      · rw [Array.getElem?_eq_none h] at hg
        cases hg
    exact .inr ⟨g, cap, cur, hv, h1, (hb.block g hlt).trans hg, h2⟩

theorem Owned.drew {w : World} {B : Nat} {v : Value} {l : List Int} (h : Owned w B v l) (n : Nat) : Owned (w.drewN n) B v l := h

theorem owned_new (w : World) (l : List Int) (B : Nat) (hB : B ≤ w.heap.size) (hl : l.length ≤ maxLen) :
    Owned (w.alloc (.cells (l.map (Value.int .i64)).toArray 3)) B (.slice (some ⟨w.heap.size, 0, none⟩) l.length l.length) l :=
  ⟨by simp, .inr ⟨w.heap.size, l.length, (l.map (Value.int .i64)).toArray, rfl, hB, heap_alloc_new w _, Nat.le_refl _, hl, by simp, by simp [List.take_of_length_le]⟩⟩

theorem Equal_owned (w : World) (B1 B2 : Nat) (v1 v2 : Value) (l : List Int) (h1 : Owned w B1 v1 l) (h2 : Owned w B2 v2 l) :
    Calls Tryd.prog 15 #[v1, v2] w fun e w' => e = .returned (.bool true) ∧ ∃ q, w' = w.drewN q := by
  have emp : ∀ a1 a2 c d, Calls Tryd.prog 15 #[.slice a1 0 c, .slice a2 0 d] w fun e w' => e = .returned (.bool true) ∧ ∃ q, w' = w.drewN q := fun a1 a2 c d =>
    (Tryd.slices_Equal_int_empty a1 a2 c 0 d w (by omega)).mono fun _ _ ⟨he, hw⟩ => ⟨he, 0, hw⟩
  rcases h1.form with ⟨rfl, rfl⟩ | ⟨g1, c1, _, rfl, _, _, k1, k2, _, hc1⟩
  · rcases h2.form with ⟨_, rfl⟩ | ⟨g2, c2, _, rfl, _⟩
    · exact emp _ _ _ _
    · exact emp _ _ _ _
  · rcases h2.form with ⟨rfl, rfl⟩ | ⟨g2, c2, _, rfl, _, _, _, _, _, hc2⟩
    · exact emp _ _ _ _
    · have hbig : l.length ≤ 9223372036854775807 := by unfold maxLen at k2; omega
      refine (Tryd.slices_Equal_int g1 0 l.length c1 g2 0 l.length c2 l l w (Nat.le_refl _) (Nat.le_refl _) hbig hbig hc1 hc2).mono fun _ _ ⟨he, hw⟩ => ⟨?_, hw⟩
      rw [he]
      simp

def refL (c : Int) : List Int := if c = 7 then [3, 4, 5] else if c = 8 then [1, 4, 6] else if c = 9 then [4, 6] else if c = 10 then [3, 4, 5, 6] else if c = 11 then [1, 2, 3, 4, 5, 6] else if isB c = true then [c] else []

theorem upTo_ref : ∀ c : Nat, 1 ≤ c → c < 12 → upTo (memL.getD c 0) 6 = refL c
  | 0, h, _ => absurd h (by omega)
  | 1, _, _ => by decide
  | 2, _, _ => by decide
  | 3, _, _ => by decide
  | 4, _, _ => by decide
  | 5, _, _ => by decide
  | 6, _, _ => by decide
  | 7, _, _ => by decide
  | 8, _, _ => by decide
  | 9, _, _ => by decide
  | 10, _, _ => by decide
  | 11, _, _ => by decide
  | k + 12, _, h => absurd h (by omega)

set_option maxHeartbeats 400000 in
theorem Members_out (c : Int) (w : World) (h : c ≤ 0 ∨ 12 ≤ c) (hN : NamesAt w) :
    Calls Tryd.prog 16 #[.int .i64 c] w fun e w' => e = .returned (.slice none 0 0) ∧ w = w' := by
  have hn : nameS c = ⟨#[]⟩ := by
    unfold nameS
    split
    · rename_i hc
      simp at hc
      have : c = 0 := by omega
      subst this
      rfl
    · rfl
  have HN := Lib.hid hn
  clear hn
  have N := Lib.hid hN
  clear hN
  have H := Lib.hid h
  clear h
  go_enter Tryd.func16, Tryd.ntmps16
  go_wp2
  refine wp_loop_rounds 1 ?_
  rw [rounds_succ]
  go_wp2_with (go_at_call 11; refine (Name_any _ _ N.out).mono ?_; rintro e w' ⟨rfl, rfl⟩; rw [HN.out])
  go_ret
  exact ⟨rfl, rfl⟩

theorem Members_any (c : Int) (w : World) (hN : NamesAt w) (hM : TabAt 1 memL w) :
    Calls Tryd.prog 16 #[.int .i64 c] w fun e w' => ∃ v, e = .returned v ∧ Owned w' w.heap.size v (refL c) ∧ Below w.heap.size w w' := by
  by_cases h : c ≤ 0 ∨ 12 ≤ c
  · refine (Members_out c w h hN).mono fun e w' ⟨he, hw⟩ => ⟨_, he, ?_, ?_⟩
    · subst hw
      have : refL c = [] := by
        have hb : isB c = false := by simp [isB]; omega
        simp only [refL, hb]
        repeat (first | rw [if_neg (by omega)] | rw [if_neg (by simp)])
      rw [this]
      exact World.ownsRow_nil _ _ _ _
    · subst hw
      exact Below.refl _ _
  · obtain ⟨n, rfl⟩ := Int.eq_ofNat_of_zero_le (show 0 ≤ c by omega)
    refine (Members_in n w (by omega) (by omega) hN hM).mono fun e w' ⟨v, he, ho, hb⟩ => ⟨v, he, ?_, hb⟩
    rw [upTo_ref n (by omega) (by omega)] at ho
    exact ho

set_option maxHeartbeats 4000000 in
theorem rMembers_any (c : Int) (w : World) :
    Calls Tryd.prog 17 #[.int .i64 c] w fun e w' => ∃ v, e = .returned v ∧ Owned w' w.heap.size v (refL c) ∧ Below w.heap.size w w' := by
  have hB : ∀ o, Below w.heap.size w (w.alloc o) := fun o => (Below.refl _ _).alloc (Nat.le_refl _) o
  have H := Lib.hid hB
  clear hB
  have hO := fun l => owned_new w l w.heap.size (Nat.le_refl _)
  have O := Lib.hid hO
  clear hO
  by_cases h7 : c = 7 ∨ c = 8 ∨ c = 9 ∨ c = 10 ∨ c = 11
  · rcases h7 with rfl | rfl | rfl | rfl | rfl
    all_goals
      go_enter Tryd.func17, Tryd.ntmps17
      go_wp2
      go_ret
      exact ⟨_, rfl, O.out (refL _) (by decide), H.out _⟩
  · have h1 : (c == 7) = false ∧ (c == 8) = false ∧ (c == 9) = false ∧ (c == 10) = false ∧ (c == 11) = false := by simp only [beq_eq_false_iff_ne, ne_eq]; omega
    obtain ⟨n7, n8, n9, n10, n11⟩ := h1
    cases hb : isB c
    · have hr : refL c = [] := by
        simp only [refL, hb]
        repeat (first | rw [if_neg (by omega)] | rw [if_neg (by simp)])
      rw [hr]
      clear hr h7
      go_enter Tryd.func17, Tryd.ntmps17
      go_wp2_with (go_at_call 14; refine (rIs_any _ _).mono ?_; rintro e w' ⟨rfl, rfl⟩)
      go_ret
      exact ⟨_, rfl, World.ownsRow_nil _ _ _ _, Below.refl _ _⟩
    · have hr : refL c = [c] := by
        simp only [refL, hb]
        repeat (first | rw [if_neg (by omega)] | rw [if_pos trivial])
      rw [hr]
      clear hr h7
      go_enter Tryd.func17, Tryd.ntmps17
      go_wp2_with (go_at_call 14; refine (rIs_any _ _).mono ?_; rintro e w' ⟨rfl, rfl⟩)
      go_ret
      exact ⟨_, rfl, O.out [c] (by simp [maxLen]), H.out _⟩

end Cp
end Go.Proofs.YtgdfoonflkddnaaDoor
