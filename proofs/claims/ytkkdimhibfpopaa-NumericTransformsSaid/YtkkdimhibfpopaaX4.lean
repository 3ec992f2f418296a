/- Contracts: the reference's transform of a list. -/
import Derived.Test.YtkkdimhibfpopaaX3
namespace Go.Proofs.Ytkkdimhibfpopaa
open Go.ChangeShapes Go.WideShapes Go.ChangeAt Go.RowKit Go.WideMaps Go.Maps
namespace Nu

/-- Two rows of the reference's numbers that were made since W1, apart from each other. -/
structure Rw (W1 W : World) (u v : Value) (j l : Nat) (L M : List (Nat × Nat)) : Prop where
  below : Below W1.heap.size W1 W
  own1 : W.ownsRow W1.heap.size 38 2 u j (cellsN L)
  own2 : W.ownsRow W1.heap.size 38 2 v l (cellsN M)
  apart : ∀ g, u.ownBlock = some g → v.ownBlock = some g → False

theorem Rw.step {W1 W X V : World} {u v : Value} {j l : Nat} {L M : List (Nat × Nat)} (h : Rw W1 W u v j l L M) (hv : Below X.heap.size X V) (e1 : X.heap = W.heap := by rfl) (e2 : X.os = W.os := by rfl) (e3 : X.tape = W.tape := by rfl) (e4 : X.output = W.output := by rfl) : Rw W1 V u v j l L M :=
  ⟨h.below.grown (below_grown hv e1 e2 e3 e4 none) h.below.size (by simp), own_below h.own1 hv e1, own_below h.own2 hv e1, h.apart⟩
theorem Rw.alloc {W1 W : World} {u v : Value} {j l : Nat} {L M : List (Nat × Nat)} (h : Rw W1 W u v j l L M) (o : Obj) : Rw W1 (W.alloc o) u v j l L M := h.step ((Below.refl _ W).alloc (Nat.le_refl _) o)
theorem Rw.app1 {W1 X V : World} {u v : Value} {j l g cap : Nat} {L M L' : List (Nat × Nat)} (h : Rw W1 X u v j l L M) (hown : V.ownsRow W1.heap.size 38 2 (.slice (some ⟨g, 0, none⟩) (j + 1) cap) (j + 1) (cellsN L')) (hg : X.grownBy V u.ownBlock)
    (hat : u.ownBlock = some g ∨ g = X.heap.size) : Rw W1 V (.slice (some ⟨g, 0, none⟩) (j + 1) cap) v (j + 1) l L' M := by
  refine ⟨h.below.grown hg h.below.size (fun k e => (h.own1.lt k e).1), hown, h.own2.kept hg ?_, ?_⟩
  · cases hv : v.ownBlock with
    | none => exact .inl rfl
    | some k => exact .inr (fun e => h.apart k e.symm hv)
  · intro g' e1 e2
    have e3 : g = g' := by simpa [Value.ownBlock] using e1
    subst e3
    rcases hat with h1 | h1
    · exact h.apart g h1 e2
    · have := (h.own2.lt g e2).2
      omega
theorem Rw.swap {W1 W : World} {u v : Value} {j l : Nat} {L M : List (Nat × Nat)} (h : Rw W1 W u v j l L M) : Rw W1 W v u l j M L := ⟨h.below, h.own2, h.own1, fun g a b => h.apart g b a⟩
theorem Rw.app2 {W1 X V : World} {u v : Value} {j l g cap : Nat} {L M M' : List (Nat × Nat)} (h : Rw W1 X u v j l L M) (hown : V.ownsRow W1.heap.size 38 2 (.slice (some ⟨g, 0, none⟩) (l + 1) cap) (l + 1) (cellsN M')) (hg : X.grownBy V v.ownBlock)
    (hat : v.ownBlock = some g ∨ g = X.heap.size) : Rw W1 V u (.slice (some ⟨g, 0, none⟩) (l + 1) cap) j (l + 1) L M' := (h.swap.app1 hown hg hat).swap
/-- Two empty rows, laid. -/
theorem Rw.lit (W : World) : Rw W ((W.alloc (.cells #[] 38)).alloc (.cells #[] 38)) (.slice (some ⟨W.heap.size, 0, none⟩) 0 0) (.slice (some ⟨W.heap.size + 1, 0, none⟩) 0 0) 0 0 [] [] := by
  have h1 : (W.alloc (.cells #[] 38)).ownsRow W.heap.size 38 2 (.slice (some ⟨W.heap.size, 0, none⟩) 0 0) 0 (cellsN []) := World.ownsRow_lit W #[] 0 (Nat.le_refl _) (by unfold maxLen; omega) rfl
  have h2 : ((W.alloc (.cells #[] 38)).alloc (.cells #[] 38)).ownsRow W.heap.size 38 2 (.slice (some ⟨(W.alloc (.cells #[] 38)).heap.size, 0, none⟩) 0 0) 0 (cellsN []) := World.ownsRow_lit (W.alloc (.cells #[] 38)) #[] 0 (by simp) (by unfold maxLen; omega) rfl
  rw [show (W.alloc (.cells #[] 38)).heap.size = W.heap.size + 1 by simp] at h2
  refine ⟨((Below.refl _ W).alloc (Nat.le_refl _) _).alloc (by simp) _, h1.alloc _, h2, fun g e1 e2 => ?_⟩
  simp [Value.ownBlock] at e1 e2
  omega

/-- Sums and differences of a transform's two halves. -/
def addL (E T : Nat → Nat × Nat) (j : Nat) : List (Nat × Nat) := (List.range j).map fun i => addW (E i) (T i)
def subL (E T : Nat → Nat × Nat) (j : Nat) : List (Nat × Nat) := (List.range j).map fun i => subW (E i) (T i)
theorem addL_snoc (E T : Nat → Nat × Nat) (j : Nat) : addL E T (j + 1) = addL E T j ++ [addW (E j) (T j)] := by unfold addL; rw [List.range_succ, List.map_append]; rfl
theorem subL_snoc (E T : Nat → Nat × Nat) (j : Nat) : subL E T (j + 1) = subL E T j ++ [subW (E j) (T j)] := by unfold subL; rw [List.range_succ, List.map_append]; rfl
theorem addL_len (E T : Nat → Nat × Nat) (j : Nat) : (addL E T j).length = j := by unfold addL; simp
theorem subL_len (E T : Nat → Nat × Nat) (j : Nat) : (subL E T j).length = j := by unfold subL; simp
theorem halves (h : Nat) (T E : Nat → Nat × Nat) : addL E T h ++ subL E T h = partL h T E h := by
  apply List.ext_getElem?
  intro i
  by_cases hi : i < h + h
  · rw [partL_at _ _ _ _ _ hi]
    unfold partF
    by_cases h1 : i < h
    · rw [List.getElem?_append_left (by rw [addL_len]; exact h1), if_pos h1, if_pos h1]
      unfold addL
      rw [List.getElem?_map, List.getElem?_range h1]; rfl
    · rw [List.getElem?_append_right (by rw [addL_len]; omega), addL_len, if_neg h1, if_pos (by omega)]
      unfold subL
      rw [List.getElem?_map, List.getElem?_range (by omega)]; rfl
  · rw [List.getElem?_eq_none (by rw [List.length_append, addL_len, subL_len]; omega), List.getElem?_eq_none (by rw [partL_len]; omega)]

set_option maxRecDepth 100000 in
set_option maxHeartbeats 4000000 in
theorem rfw_zero (cap b : Nat) (L : List (Nat × Nat)) (w : World) (hL : L.length = 1) (hN : Num w b L) :
    Calls Try.prog 63 #[.slice (some ⟨b, 0, none⟩) 1 cap] w fun e w' => ∃ g cap', e = .returned (.slice (some ⟨g, 0, none⟩) 1 cap') ∧ Num w' g (trL 0 L) ∧ w.heap.size ≤ g ∧ Below w.heap.size w w' := by
  obtain ⟨n0, n1⟩ := hN 0 (at2 L 0) (at2_at (by omega))
  obtain ⟨x, hx⟩ : ∃ x, x = at2 L 0 := ⟨_, rfl⟩
  rw [← hx] at n0 n1
  have HX := Lib.hid hx
  have k0 := And.intro n0 n1
  clear hx hN hL
  go_enter Try.func63, Try.ntmps63
  go_upto_region 3 with (fail)
  go_region_held3 (fun w' => w'.cell? ⟨b, 0, none⟩ = some (.int .u32 x.1) ∧ w'.cell? ⟨b, 1, none⟩ = some (.int .u32 x.2)) (first | exact kz | exact kx | exact k0)
    (first
      | (go_at_call 51
         refine (rf_any _ _).mono ?_
         rintro e w1 ⟨rfl, rfl⟩
         go_simp)
      | (go_at_call 24
         refine (rof_any _ _ _).mono ?_
         rintro e w1 ⟨rfl, hb⟩
         have kx := And.intro ((hb.cell (p := ⟨b, 0, none⟩) (cell_lt n0)).trans n0) ((hb.cell (p := ⟨b, 1, none⟩) (cell_lt n1)).trans n1)
         have kz := And.intro (((Below.refl _ w1).alloc (Nat.le_refl _) (.cells #[.int .u32 (canon x.1), .int .u32 (canon x.2)] 38)).cell (p := ⟨b, 0, none⟩) (cell_lt kx.1) |>.trans kx.1) (((Below.refl _ w1).alloc (Nat.le_refl _) (.cells #[.int .u32 (canon x.1), .int .u32 (canon x.2)] 38)).cell (p := ⟨b, 1, none⟩) (cell_lt kx.2) |>.trans kx.2)
         have HB := Lib.hid hb
         clear hb
         go_simp))
  all_goals
    go_wp2
    go_ret
    have h1 := Num.of_row (L := [(canon x.1, canon x.2)]) (own_one w1 w1.heap.size (Nat.le_refl _) (.int .u32 (canon x.1)) (.int .u32 (canon x.2)) 38)
    have hb2 : Below w.heap.size w w1 := (Below.refl _ w).grown (grown_same (below_grown HB.out rfl rfl rfl rfl none)) (Nat.le_refl _) (by simp)
    refine ⟨_, 1, rfl, ?_, hb2.size, hb2.alloc hb2.size _⟩
    unfold trL can2
    rw [← HX.out]
    exact h1

end Nu
end Go.Proofs.Ytkkdimhibfpopaa
