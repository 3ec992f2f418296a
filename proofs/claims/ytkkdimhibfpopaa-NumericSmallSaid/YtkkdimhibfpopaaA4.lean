/- What a walk knows of memory: the frame of the call, and some cells of its own, kept through calls that make memory. -/
import Derived.Test.YtkkdimhibfpopaaA3
import Derived.Deep.RegionWith
namespace Go.Proofs.Ytkkdimhibfpopaa
open Go.ChangeShapes Go.WideShapes Go.ChangeAt Go.RowKit
namespace Nu

/-- Cells that hold what the list says, none of them frozen. -/
def Mem (W : World) : List (Nat × Nat × Value) → Prop
  | [] => True
  | (b, o, v) :: l => (W.cell? ⟨b, o, none⟩ = some v ∧ W.frozen? ⟨b, o, none⟩ = false) ∧ Mem W l

structure At (w W : World) (L : List (Nat × Nat × Value)) : Prop where
  below : Below w.heap.size w W
  mem : Mem W L

theorem cell_lt {W : World} {p : Addr} {v : Value} (h : W.cell? p = some v) : p.block < W.heap.size := World.block_lt_of_cell? W _ h

theorem Mem.keep {W X w1 : World} (hX : X.heap = W.heap) (hb : Below X.heap.size X w1) : ∀ {L : List (Nat × Nat × Value)}, Mem W L → Mem w1 L
  | [], _ => trivial
  | (b, o, v) :: l, ⟨⟨h1, h2⟩, h3⟩ => by
    have hl : b < X.heap.size := by rw [hX]; exact cell_lt h1
    have e1 : w1.heap[b]? = W.heap[b]? := by rw [hb.block b hl, hX]
    exact ⟨⟨(World.cell?_of_block (w := W) e1).trans h1, (World.frozen?_of_block (w := W) e1).trans h2⟩, Mem.keep hX hb h3⟩

theorem At.step {w W X w1 : World} {L : List (Nat × Nat × Value)} (h : At w W L) (hb : Below X.heap.size X w1) (e1 : X.heap = W.heap := by rfl) (e2 : X.os = W.os := by rfl) (e3 : X.tape = W.tape := by rfl) (e4 : X.output = W.output := by rfl) : At w w1 L := by
  have hs := h.below.size
  refine ⟨⟨hb.os.trans (e2.trans h.below.os), hb.tape.trans (e3.trans h.below.tape), hb.output.trans (e4.trans h.below.output), ?_, ?_⟩, h.mem.keep e1 hb⟩
  · have := hb.size; rw [e1] at this; omega
  · intro k hk
    rw [hb.block k (by rw [e1]; omega), e1]
    exact h.below.block k hk

theorem At.same {w W X : World} {L : List (Nat × Nat × Value)} (h : At w W L) (e1 : X.heap = W.heap := by rfl) (e2 : X.os = W.os := by rfl) (e3 : X.tape = W.tape := by rfl) (e4 : X.output = W.output := by rfl) : At w X L := h.step (X := X) (Below.refl _ _) e1 e2 e3 e4

theorem bcell {W w1 : World} (hb : Below W.heap.size W w1) : (∀ b o, b < W.heap.size → w1.cell? ⟨b, o, none⟩ = W.cell? ⟨b, o, none⟩) ∧ (∀ b o, b < W.heap.size → w1.frozen? ⟨b, o, none⟩ = W.frozen? ⟨b, o, none⟩) :=
  ⟨fun b o h => hb.cell (p := ⟨b, o, none⟩) h, fun b o h => hb.frozen (p := ⟨b, o, none⟩) h⟩

theorem canon_raw2 (op : BinOp) (x y : Nat) (w : World) : canon (raw op (canon x) (canon y) w) = fop op x y := by rw [canon_raw, fop_canon]

/-- What lies in a block that was just laid. -/
theorem new_cell (w : World) (cs : Array Value) (t : TypeId) (j : Nat) (v : Value) (h : cs[j]? = some v) : (w.alloc (.cells cs t)).cell? ⟨w.heap.size, j, none⟩ = some v ∧ (w.alloc (.cells cs t)).frozen? ⟨w.heap.size, j, none⟩ = false := by
  constructor
  · rw [World.cell?_alloc_at _ _ _ _ rfl]; simpa using h
  · simp

theorem At.first (w : World) : At w w [] := ⟨Below.refl _ _, trivial⟩
theorem Mem.alloc {W : World} {o : Obj} : ∀ {L : List (Nat × Nat × Value)}, Mem W L → Mem (W.alloc o) L := fun h => h.keep (X := W) rfl ((Below.refl _ _).alloc (Nat.le_refl _) _)
/-- A block of two cells, laid; its number as the walk spells it. -/
theorem At.two {w W : World} {L : List (Nat × Nat × Value)} (h : At w W L) (a b : Value) (t : TypeId) (k : Nat) (hk : W.heap.size = k) : At w (W.alloc (.cells #[a, b] t)) ((k, 0, a) :: (k, 1, b) :: L) := by
  subst hk
  exact ⟨h.below.alloc h.below.size _, new_cell W _ t 0 a rfl, new_cell W _ t 1 b rfl, h.mem.alloc⟩
theorem At.one {w W : World} {L : List (Nat × Nat × Value)} (h : At w W L) (a : Value) (t : TypeId) (k : Nat) (hk : W.heap.size = k) : At w (W.alloc (.cells #[a] t)) ((k, 0, a) :: L) := by
  subst hk
  exact ⟨h.below.alloc h.below.size _, new_cell W _ t 0 a rfl, h.mem.alloc⟩

end Nu
end Go.Proofs.Ytkkdimhibfpopaa
