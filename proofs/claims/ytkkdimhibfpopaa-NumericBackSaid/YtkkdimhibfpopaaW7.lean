/- NumericBack: rows that are appended to, side by side; the law's cells. -/
import Derived.Test.YtkkdimhibfpopaaW6
namespace Go.Proofs.Ytkkdimhibfpopaa
open Go.ChangeShapes Go.WideShapes Go.ChangeAt Go.RowKit Go.WideMaps Go.Maps
namespace Nu

theorem tmod_three (k : Int) (h : 0 ≤ k) : ∃ r : Nat, k.tmod 3 = (r : Int) ∧ r ≤ 2 := by
  have h1 := Int.tmod_nonneg 3 h
  have h2 := Int.tmod_lt_of_pos k (show (0 : Int) < 3 by omega)
  exact ⟨(k.tmod 3).toNat, by omega, by omega⟩

theorem eight_cells (w : World) (cs : Array Value) (t : TypeId) (K : Nat → Int × Int) (h : ∀ j, j < 4 → cs[j * 2]? = some (.int .i16 (K j).1) ∧ cs[j * 2 + 1]? = some (.int .i16 (K j).2)) :
    ∀ j, j < 4 → (w.alloc (.cells cs t)).cell? ⟨w.heap.size, j * 2, none⟩ = some (.int .i16 (K j).1) ∧ (w.alloc (.cells cs t)).cell? ⟨w.heap.size, j * 2 + 1, none⟩ = some (.int .i16 (K j).2) := fun j hj =>
  ⟨(new_cell w cs t (j * 2) _ (h j hj).1).1, (new_cell w cs t (j * 2 + 1) _ (h j hj).2).1⟩

/-- Two rows of numbers that were made since W1, apart from each other. -/
structure Lw (W1 W : World) (u v : Value) (j l : Nat) (L M : List (Nat × Nat)) : Prop where
  below : Below W1.heap.size W1 W
  own1 : W.ownsRow W1.heap.size 32 2 u j (cellsN L)
  own2 : W.ownsRow W1.heap.size 32 2 v l (cellsN M)
  apart : ∀ g, u.ownBlock = some g → v.ownBlock = some g → False

theorem Lw.step {W1 W X V : World} {u v : Value} {j l : Nat} {L M : List (Nat × Nat)} (h : Lw W1 W u v j l L M) (hv : Below X.heap.size X V) (e1 : X.heap = W.heap := by rfl) (e2 : X.os = W.os := by rfl) (e3 : X.tape = W.tape := by rfl) (e4 : X.output = W.output := by rfl) : Lw W1 V u v j l L M :=
  ⟨h.below.grown (below_grown hv e1 e2 e3 e4 none) h.below.size (by simp), own_below h.own1 hv e1, own_below h.own2 hv e1, h.apart⟩
theorem Lw.alloc {W1 W : World} {u v : Value} {j l : Nat} {L M : List (Nat × Nat)} (h : Lw W1 W u v j l L M) (o : Obj) : Lw W1 (W.alloc o) u v j l L M := h.step ((Below.refl _ W).alloc (Nat.le_refl _) o)
theorem Lw.app1 {W1 X V : World} {u v : Value} {j l g cap : Nat} {L M L' : List (Nat × Nat)} (h : Lw W1 X u v j l L M) (hown : V.ownsRow W1.heap.size 32 2 (.slice (some ⟨g, 0, none⟩) (j + 1) cap) (j + 1) (cellsN L')) (hg : X.grownBy V u.ownBlock)
    (hat : u.ownBlock = some g ∨ g = X.heap.size) : Lw W1 V (.slice (some ⟨g, 0, none⟩) (j + 1) cap) v (j + 1) l L' M := by
  refine ⟨h.below.grown hg h.below.size (fun k e => (h.own1.lt k e).1), hown, h.own2.kept hg ?_, ?_⟩
  · cases hv : v.ownBlock with
    | none => exact .inl rfl
    | some k => exact .inr (fun e => h.apart k e.symm hv)
  · intro g' e1 e2
    have e3 : g = g' := by simpa [Value.ownBlock] using e1
    subst e3
    rcases hat with h1 | h1
    · exact h.apart g h1 e2
    · have := (h.own2.lt g e2).2
      omega
theorem Lw.swap {W1 W : World} {u v : Value} {j l : Nat} {L M : List (Nat × Nat)} (h : Lw W1 W u v j l L M) : Lw W1 W v u l j M L := ⟨h.below, h.own2, h.own1, fun g a b => h.apart g b a⟩
theorem Lw.app2 {W1 X V : World} {u v : Value} {j l g cap : Nat} {L M M' : List (Nat × Nat)} (h : Lw W1 X u v j l L M) (hown : V.ownsRow W1.heap.size 32 2 (.slice (some ⟨g, 0, none⟩) (l + 1) cap) (l + 1) (cellsN M')) (hg : X.grownBy V v.ownBlock)
    (hat : v.ownBlock = some g ∨ g = X.heap.size) : Lw W1 V u (.slice (some ⟨g, 0, none⟩) (l + 1) cap) j (l + 1) L M' := (h.swap.app1 hown hg hat).swap
theorem Lw.nil (W : World) : Lw W W (.slice none 0 0) (.slice none 0 0) 0 0 [] [] := ⟨Below.refl _ _, World.ownsRow_nil _ _ _ _, World.ownsRow_nil _ _ _ _, fun g h => by simp [Value.ownBlock] at h⟩

theorem sumL_snoc (n : Nat) (A B : List (Nat × Nat)) : sumL (n + 1) A B = sumL n A B ++ [addW (at2 A n) (at2 B n)] := by unfold sumL; rw [List.range_succ, List.map_append]; rfl
theorem shiftL_snoc (n : Nat) (W P : List (Nat × Nat)) : shiftL (n + 1) W P = shiftL n W P ++ [mulW (at2 W n) (at2 P n)] := by unfold shiftL; rw [List.range_succ, List.map_append]; rfl
def turnP (n j : Nat) (A : List (Nat × Nat)) : List (Nat × Nat) := (List.range j).map fun i => at2 A ((i + n - 1) % n)
theorem turnP_snoc (n j : Nat) (A : List (Nat × Nat)) : turnP n (j + 1) A = turnP n j A ++ [at2 A ((j + n - 1) % n)] := by unfold turnP; rw [List.range_succ, List.map_append]; rfl
theorem smpL_snoc (K : Nat → Int × Int) (n : Nat) : smpL K (n + 1) = smpL K n ++ [floatOfInt .f32 ((K n).1.tmod 1001)] := by unfold smpL; rw [List.range_succ, List.map_append]; rfl
def laterP (n j : Nat) (S : List Nat) : List Nat := (List.range j).map fun i => at1 S ((i + n - 1) % n)
theorem laterP_snoc (n j : Nat) (S : List Nat) : laterP n (j + 1) S = laterP n j S ++ [at1 S ((j + n - 1) % n)] := by unfold laterP; rw [List.range_succ, List.map_append]; rfl
theorem sumL_len (n : Nat) (A B : List (Nat × Nat)) : (sumL n A B).length = n := by unfold sumL; simp
theorem shiftL_len (n : Nat) (A B : List (Nat × Nat)) : (shiftL n A B).length = n := by unfold shiftL; simp
theorem turnL_len (n : Nat) (A : List (Nat × Nat)) : (turnL n A).length = n := by unfold turnL; simp
theorem smpL_len (K : Nat → Int × Int) (n : Nat) : (smpL K n).length = n := by unfold smpL; simp
theorem laterL_len (n : Nat) (S : List Nat) : (laterL n S).length = n := by unfold laterL; simp

theorem own_some1 {W : World} {base n : Nat} {v : Value} {xs : List Value} (h : W.ownsRow base 22 1 v n xs) (hn : 0 < n) : ∃ g cap, v = .slice (some ⟨g, 0, none⟩) n cap ∧ base ≤ g := by
  rcases h.2 with ⟨_, h0⟩ | ⟨g, cap, cur, h1, h2, _⟩
  · omega
  · exact ⟨g, cap, h1, h2⟩

/-- The cells of the law's arrays, as its walk finds them. -/
def K8 (a0 a1 a2 a3 a4 a5 a6 a7 : Int) : Nat → Int × Int := ai [(a0, a1), (a2, a3), (a4, a5), (a6, a7)]
theorem K8_bound {a0 a1 a2 a3 a4 a5 a6 a7 : Int} (h : ∀ x ∈ [a0, a1, a2, a3, a4, a5, a6, a7], -32768 ≤ x ∧ x ≤ 32767) (j : Nat) : -32768 ≤ (K8 a0 a1 a2 a3 a4 a5 a6 a7 j).1 ∧ (K8 a0 a1 a2 a3 a4 a5 a6 a7 j).1 ≤ 32767 ∧ -32768 ≤ (K8 a0 a1 a2 a3 a4 a5 a6 a7 j).2 ∧ (K8 a0 a1 a2 a3 a4 a5 a6 a7 j).2 ≤ 32767 := by
  have g : ∀ x y, x ∈ [a0, a1, a2, a3, a4, a5, a6, a7] → y ∈ [a0, a1, a2, a3, a4, a5, a6, a7] → -32768 ≤ x ∧ x ≤ 32767 ∧ -32768 ≤ y ∧ y ≤ 32767 := fun x y hx hy => ⟨(h x hx).1, (h x hx).2, (h y hy).1, (h y hy).2⟩
  match j with
  | 0 => exact g a0 a1 (by simp) (by simp)
  | 1 => exact g a2 a3 (by simp) (by simp)
  | 2 => exact g a4 a5 (by simp) (by simp)
  | 3 => exact g a6 a7 (by simp) (by simp)
  | j + 4 => simp [K8, ai]
theorem K8_cells (w : World) (t : TypeId) (a0 a1 a2 a3 a4 a5 a6 a7 : Int) :
    ∀ j, j < 4 → (w.alloc (.cells #[.int .i16 a0, .int .i16 a1, .int .i16 a2, .int .i16 a3, .int .i16 a4, .int .i16 a5, .int .i16 a6, .int .i16 a7] t)).cell? ⟨w.heap.size, j * 2, none⟩ = some (.int .i16 (K8 a0 a1 a2 a3 a4 a5 a6 a7 j).1) ∧
      (w.alloc (.cells #[.int .i16 a0, .int .i16 a1, .int .i16 a2, .int .i16 a3, .int .i16 a4, .int .i16 a5, .int .i16 a6, .int .i16 a7] t)).cell? ⟨w.heap.size, j * 2 + 1, none⟩ = some (.int .i16 (K8 a0 a1 a2 a3 a4 a5 a6 a7 j).2) := by
  apply eight_cells
  intro j hj
  rcases (show j = 0 ∨ j = 1 ∨ j = 2 ∨ j = 3 by omega) with rfl | rfl | rfl | rfl <;> exact ⟨rfl, rfl⟩

/-- Cells of the arrays, in a world. -/
def Arr (W : World) (b : Nat) (K : Nat → Int × Int) : Prop := ∀ j, j < 4 → W.cell? ⟨b, j * 2, none⟩ = some (.int .i16 (K j).1) ∧ W.cell? ⟨b, j * 2 + 1, none⟩ = some (.int .i16 (K j).2)
theorem Arr.below {n : Nat} {W V : World} {b : Nat} {K : Nat → Int × Int} (h : Arr W b K) (hb : Below n W V) (hl : b < n) : Arr V b K := fun j hj =>
  ⟨(hb.cell (p := ⟨b, j * 2, none⟩) hl).trans (h j hj).1, (hb.cell (p := ⟨b, j * 2 + 1, none⟩) hl).trans (h j hj).2⟩

end Nu
end Go.Proofs.Ytkkdimhibfpopaa
