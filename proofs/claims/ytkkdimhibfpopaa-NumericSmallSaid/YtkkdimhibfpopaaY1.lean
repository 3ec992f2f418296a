/- A region that draws its order, by an invariant over what has come up. -/
import Derived.Test.YtkkdimhibfpopaaW5
import Derived.Test.YtkkdimhibfpopaaV1
import Derived.Deep.RegionLaw
namespace Go.Proofs.Ytkkdimhibfpopaa
open Go.ChangeShapes Go.WideShapes Go.ChangeAt Go.RowKit Go.WideMaps Go.Maps
namespace Nu

def left (l : Array Bool) : Nat := l.toList.count false
theorem left_pos {l : Array Bool} {i : Nat} (h : l.getD i true = false) : 0 < left l := by
  have hi : i < l.size := by
    rcases Nat.lt_or_ge i l.size with h1 | h1
    · exact h1
    · simp [Array.getElem?_eq_none h1] at h
  have hv : l[i] = false := by simpa [hi] using h
  unfold left
  rw [List.count_pos_iff]
  rw [← hv]
  exact Array.getElem_mem_toList hi
theorem left_set {l : Array Bool} {i : Nat} (h : l.getD i true = false) : left (l.setIfInBounds i true) + 1 = left l := by
  have hp := left_pos h
  have hi : i < l.size := by
    rcases Nat.lt_or_ge i l.size with h1 | h1
    · exact h1
    · simp [Array.getElem?_eq_none h1] at h
  have hv : l[i] = false := by simpa [hi] using h
  unfold left at *
  have hs : (l.setIfInBounds i true).toList = l.toList.set i true := by simp
  rw [hs, List.count_set (by simpa using hi)]
  have hv2 : l.toList[i]'(by simpa using hi) = false := by simpa using hv
  rw [hv2]
  show List.count false l.toList - 1 + 0 + 1 = List.count false l.toList
  omega

/-- Whatever order is picked: what is shown of the start, of each operation that may come up, and of the end. -/
theorem wpAny_inv {P : Program} {md : Region.Mode} {ops : Array Oper} {Q : Exit → Act → World → Prop} (I : Array Bool → Act → World → Prop)
    (step : ∀ i l a w, I l a w → i ∈ Region.ready md ops l → wpOp P ops Q i (fun a' w' => I (l.setIfInBounds i true) a' w') a w)
    (done : ∀ l a w, I l a w → Region.ready md ops l = [] → Q .normal a w) :
    ∀ (fuel : Nat) (l : Array Bool) (a : Act) (w : World), left l ≤ fuel → I l a w → wpAny P md ops Q fuel l a w
  | 0, l, a, w, hl, hI => by
    have h : Region.ready md ops l = [] := by
      rcases hr : Region.ready md ops l with _ | ⟨i, r⟩
      · rfl
      · exfalso
        have hi : i ∈ Region.ready md ops l := by rw [hr]; exact List.mem_cons_self ..
        have := left_pos (mem_ready.1 hi).1
        omega
    exact ⟨h, done l a w hI h⟩
  | fuel + 1, l, a, w, hl, hI => by
    refine ⟨fun h => done l a w hI h, fun i hi => ?_⟩
    have := left_set (mem_ready.1 hi).1
    exact wpOp_mono (fun a' w' h' => wpAny_inv I step done fuel _ a' w' (by omega) h') (step i l a w hI hi)

theorem wp_region_inv {P : Program} {ops : Array Oper} {Q : Exit → Act → World → Prop} {id : Nat} {a : Act} {w : World} (hm : P.follows .mixedOrders = true) (I : Array Bool → Act → World → Prop)
    (start : I (Array.replicate ops.size false) a w.drew)
    (step : ∀ i l a w, I l a w → i ∈ Region.ready .any ops l → wpOp P ops Q i (fun a' w' => I (l.setIfInBounds i true) a' w') a w)
    (done : ∀ l a w, I l a w → Region.ready .any ops l = [] → Q .normal a w) : (Code.region id ops true).wp P Q a w :=
  wp_region_any hm (wpAny_inv I step done ops.size _ a _ (by unfold left; simp) start)

/-- What has come up of a region whose first N operations each leave a known value, behind which lie allocations of numbers, and then their stores. -/
def upd (U : Nat → Value) (i : Nat) (v : Value) : Nat → Value := fun k => if k = i then v else U k
theorem upd_same (U : Nat → Value) (i : Nat) (v : Value) : upd U i v i = v := by unfold upd; rw [if_pos rfl]
theorem upd_other (U : Nat → Value) (i k : Nat) (v : Value) (h : k ≠ i) : upd U i v k = U k := by unfold upd; rw [if_neg h]

/-- Block g holds two words of a number, writable. -/
def Two (W : World) (g : Nat) : Prop := ∃ c0 c1, W.cell? ⟨g, 0, none⟩ = some c0 ∧ W.cell? ⟨g, 1, none⟩ = some c1 ∧ W.frozen? ⟨g, 0, none⟩ = false ∧ W.frozen? ⟨g, 1, none⟩ = false
def Has (W : World) (g : Nat) (x : Nat × Nat) : Prop := W.cell? ⟨g, 0, none⟩ = some (.int .u32 x.1) ∧ W.cell? ⟨g, 1, none⟩ = some (.int .u32 x.2)

structure Ri (N M : Nat) (V : Nat → Value) (X : Nat → Nat × Nat) (W0 : World) (l : Array Bool) (U : Nat → Value) (w : World) : Prop where
  size : l.size = N + M + M
  below : Below W0.heap.size W0 w
  val : ∀ j, j < N → l.getD j false = true → U j = V j
  mem : ∀ j, N ≤ j → j < N + M → l.getD j false = true → ∃ g, U j = .pointer (some ⟨g, 0, none⟩) ∧ W0.heap.size ≤ g ∧ Two w g ∧ (l.getD (j + M) false = true → Has w g (X j))
  sto : ∀ j, N ≤ j → j < N + M → l.getD (j + M) false = true → l.getD j false = true
  apart : ∀ j k g, N ≤ j → j < N + M → N ≤ k → k < N + M → j ≠ k → l.getD j false = true → l.getD k false = true → U j = .pointer (some ⟨g, 0, none⟩) → U k = .pointer (some ⟨g, 0, none⟩) → False

theorem getD_new {l : Array Bool} {i : Nat} (h : l.getD i true = false) : (l.setIfInBounds i true).getD i false = true := by
  have hi : i < l.size := by
    rcases Nat.lt_or_ge i l.size with h1 | h1
    · exact h1
    · simp [Array.getElem?_eq_none h1] at h
  simp [hi]
theorem getD_old {l : Array Bool} {i j : Nat} (h : (l.setIfInBounds i true).getD j false = true) (hne : j ≠ i) : l.getD j false = true := by
  rw [getD_set_ne false (Ne.symm hne)] at h; exact h

theorem Two.step {W X V : World} {g : Nat} (h : Two W g) (hb : Below X.heap.size X V) (e1 : X.heap = W.heap := by rfl) : Two V g := by
  obtain ⟨c0, c1, h0, h1, f0, f1⟩ := h
  have hl : g < X.heap.size := by rw [e1]; exact cell_lt h0
  have e2 : V.heap[g]? = W.heap[g]? := by rw [hb.block g hl, e1]
  exact ⟨c0, c1, (World.cell?_of_block (w := W) e2).trans h0, (World.cell?_of_block (w := W) e2).trans h1, (World.frozen?_of_block (w := W) e2).trans f0, (World.frozen?_of_block (w := W) e2).trans f1⟩
theorem Has.step {W X V : World} {g : Nat} {x : Nat × Nat} (h : Has W g x) (hb : Below X.heap.size X V) (e1 : X.heap = W.heap := by rfl) : Has V g x := by
  have hl : g < X.heap.size := by rw [e1]; exact cell_lt h.1
  have e2 : V.heap[g]? = W.heap[g]? := by rw [hb.block g hl, e1]
  exact ⟨(World.cell?_of_block (w := W) e2).trans h.1, (World.cell?_of_block (w := W) e2).trans h.2⟩

/-- One of the first N has come up. -/
theorem Ri.value {N M : Nat} {V : Nat → Value} {X : Nat → Nat × Nat} {W0 w w' : World} {l : Array Bool} {U : Nat → Value} (h : Ri N M V X W0 l U w) {i : Nat} (hi : i < N) (hl : l.getD i true = false) (hb : Below w.heap.size w w') : Ri N M V X W0 (l.setIfInBounds i true) (upd U i (V i)) w' := by
  refine ⟨by simp [h.size], h.below.grown (below_grown hb rfl rfl rfl rfl none) h.below.size (by simp), ?_, ?_, fun j h1 h2 hs => getD_set_true (h.sto j h1 h2 (getD_old hs (by omega))), ?_⟩
  · intro j hj hlj
    by_cases e : j = i
    · subst e; rw [upd_same]
    · rw [upd_other _ _ _ _ e]; exact h.val j hj (getD_old hlj e)
  · intro j h1 h2 hlj
    have e : j ≠ i := by omega
    obtain ⟨g, a, b, c, d⟩ := h.mem j h1 h2 (getD_old hlj e)
    exact ⟨g, by rw [upd_other _ _ _ _ e]; exact a, b, c.step hb, fun hs => (d (getD_old hs (by omega))).step hb⟩
  · intro j k g h1 h2 h3 h4 hne hlj hlk e1 e2
    rw [upd_other _ _ _ _ (by omega)] at e1 e2
    exact h.apart j k g h1 h2 h3 h4 hne (getD_old hlj (by omega)) (getD_old hlk (by omega)) e1 e2

/-- An allocation has come up. -/
theorem Ri.alloc {N M : Nat} {V : Nat → Value} {X : Nat → Nat × Nat} {W0 w : World} {l : Array Bool} {U : Nat → Value} (h : Ri N M V X W0 l U w) {i : Nat} (h1 : N ≤ i) (h2 : i < N + M) (hl : l.getD i true = false) (t : TypeId) :
    Ri N M V X W0 (l.setIfInBounds i true) (upd U i (.pointer (some ⟨w.heap.size, 0, none⟩))) (w.alloc (.cells #[.int .u32 0, .int .u32 0] t)) := by
  have hb : Below w.heap.size w (w.alloc (.cells #[.int .u32 0, .int .u32 0] t)) := (Below.refl _ _).alloc (Nat.le_refl _) _
  have hs : l.getD (i + M) false = false := by
    cases hc : l.getD (i + M) false
    · rfl
    · exfalso
      have h3 := h.sto i h1 h2 hc
      have hi : i < l.size := by rw [h.size]; omega
      simp [hi] at hl h3
      rw [h3] at hl; cases hl
  refine ⟨by simp [h.size], h.below.grown (below_grown hb rfl rfl rfl rfl none) h.below.size (by simp), ?_, ?_, fun j h3 h4 hq => getD_set_true (h.sto j h3 h4 (getD_old hq (by omega))), ?_⟩
  · intro j hj hlj
    rw [upd_other _ _ _ _ (by omega)]; exact h.val j hj (getD_old hlj (by omega))
  · intro j h3 h4 hlj
    by_cases e : j = i
    · subst e
      have n0 := new_cell w #[.int .u32 0, .int .u32 0] t 0 _ rfl
      have n1 := new_cell w #[.int .u32 0, .int .u32 0] t 1 _ rfl
      refine ⟨w.heap.size, by rw [upd_same], h.below.size, ⟨_, _, n0.1, n1.1, n0.2, n1.2⟩, fun hq => ?_⟩
      have := getD_old hq (by omega)
      rw [hs] at this; cases this
    · obtain ⟨g, a, b, c, d⟩ := h.mem j h3 h4 (getD_old hlj e)
      exact ⟨g, by rw [upd_other _ _ _ _ e]; exact a, b, c.step hb, fun hq => (d (getD_old hq (by omega))).step hb⟩
  · intro j k g h3 h4 h5 h6 hne hlj hlk e1 e2
    have far : ∀ j, N ≤ j → j < N + M → j ≠ i → l.getD j false = true → U j = .pointer (some ⟨w.heap.size, 0, none⟩) → False := fun j h3 h4 hne hlj e => by
      obtain ⟨g, a, _, ⟨c0, _, c, _⟩, _⟩ := h.mem j h3 h4 hlj
      rw [e] at a
      injection a with a
      injection a with a
      injection a with a
      have := cell_lt c
      dsimp only at this
      omega
    by_cases ej : j = i
    · subst ej
      rw [upd_same] at e1
      rw [upd_other _ _ _ _ (Ne.symm hne)] at e2
      rw [← e1] at e2
      exact far k h5 h6 (Ne.symm hne) (getD_old hlk (Ne.symm hne)) e2
    · by_cases ek : k = i
      · subst ek
        rw [upd_same] at e2
        rw [upd_other _ _ _ _ hne] at e1
        rw [← e2] at e1
        exact far j h3 h4 hne (getD_old hlj hne) e1
      · rw [upd_other _ _ _ _ ej] at e1
        rw [upd_other _ _ _ _ ek] at e2
        exact h.apart j k g h3 h4 h5 h6 hne (getD_old hlj ej) (getD_old hlk ek) e1 e2

/-- A store has come up. -/
theorem Ri.store {N M : Nat} {V : Nat → Value} {X : Nat → Nat × Nat} {W0 w : World} {l : Array Bool} {U : Nat → Value} (h : Ri N M V X W0 l U w) {i g : Nat} (h1 : N ≤ i) (h2 : i < N + M) (hi : l.getD i false = true) (hu : U i = .pointer (some ⟨g, 0, none⟩)) :
    Ri N M V X W0 (l.setIfInBounds (i + M) true) U ((w.setCell ⟨g, 0, none⟩ (.int .u32 (X i).1)).setCell ⟨g, 1, none⟩ (.int .u32 (X i).2)) := by
  obtain ⟨g', a, hg, ⟨c0, c1, k0, k1, f0, f1⟩, _⟩ := h.mem i h1 h2 hi
  rw [hu] at a
  injection a with a
  injection a with a
  injection a with a
  subst a
  have e0 : (w.setCell ⟨g, 0, none⟩ (.int .u32 (X i).1)).cell? ⟨g, 0, none⟩ = some (.int .u32 (X i).1) := World.cell?_setCell_same _ _ _ k0
  have e1 : (w.setCell ⟨g, 0, none⟩ (.int .u32 (X i).1)).cell? ⟨g, 1, none⟩ = some c1 := by rw [World.cell?_setCell_other _ _ _ _ (by simp)]; exact k1
  have has : Has ((w.setCell ⟨g, 0, none⟩ (.int .u32 (X i).1)).setCell ⟨g, 1, none⟩ (.int .u32 (X i).2)) g (X i) :=
    ⟨by rw [World.cell?_setCell_other _ _ _ _ (by simp)]; exact e0, World.cell?_setCell_same _ _ _ e1⟩
  refine ⟨by simp [h.size], (h.below.setCell (p := ⟨g, 0, none⟩) hg _).setCell (p := ⟨g, 1, none⟩) hg _, fun j hj hlj => h.val j hj (getD_old hlj (by omega)), ?_, fun j h3 h4 hq => ?_, fun j k q h3 h4 h5 h6 hne hlj hlk => h.apart j k q h3 h4 h5 h6 hne (getD_old hlj (by omega)) (getD_old hlk (by omega))⟩
  rotate_left 1
  · by_cases ej : j = i
    · subst ej; exact getD_set_true hi
    · exact getD_set_true (h.sto j h3 h4 (getD_old hq (by omega)))
  intro j h3 h4 hlj
  by_cases ej : j = i
  · subst ej
    exact ⟨g, hu, hg, ⟨_, _, has.1, has.2, by rw [World.frozen?_setCell, World.frozen?_setCell]; exact f0, by rw [World.frozen?_setCell, World.frozen?_setCell]; exact f1⟩, fun _ => has⟩
  · obtain ⟨q, b1, b2, ⟨d0, d1, m0, m1, n0, n1⟩, b4⟩ := h.mem j h3 h4 (getD_old hlj (by omega))
    have hq : q ≠ g := fun e => h.apart j i g h3 h4 h1 h2 ej (getD_old hlj (by omega)) hi (by rw [b1, e]) hu
    refine ⟨q, b1, b2, ⟨d0, d1, far2 m0 hq, far2 m1 hq, by rw [World.frozen?_setCell, World.frozen?_setCell]; exact n0, by rw [World.frozen?_setCell, World.frozen?_setCell]; exact n1⟩, fun hs => ?_⟩
    have := b4 (getD_old hs (by omega))
    exact ⟨far2 this.1 hq, far2 this.2 hq⟩

theorem Ri.start (N M : Nat) (V : Nat → Value) (X : Nat → Nat × Nat) (W0 : World) (l : Array Bool) (hl : l = Array.replicate (N + M + M) false) (w : World) (hw : Below W0.heap.size W0 w) (U : Nat → Value) : Ri N M V X W0 l U w := by
  subst hl
  have h0 : ∀ j, (Array.replicate (N + M + M) false).getD j false = false := fun j => by
    by_cases h : j < N + M + M
    · simp [h]
    · simp [h]
  refine ⟨by simp, hw, fun j _ h => ?_, fun j _ _ h => ?_, fun j _ _ h => ?_, fun j k g _ _ _ _ _ h => ?_⟩ <;> rw [h0] at h <;> cases h

end Nu
end Go.Proofs.Ytkkdimhibfpopaa
