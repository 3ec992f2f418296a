/- The cursor moves: what a store to its place leaves. -/
import Derived.Test.YtlpcpnbjpbhlgaaGreatDoorA4
import Derived.OwnWalk
import Derived.Maps.AppendAt
namespace Go.Proofs.YtlpcpnbjpbhlgaaGreatDoor
open Go.ChangeShapes Go.WideShapes Go.ChangeAt Go.RowKit Go.WideMaps Go.Maps
namespace Tk

theorem grown_set (w : World) (p : Addr) (v : Value) : w.grownBy (w.setCell p v) (some p.block) :=
  ⟨rfl, rfl, rfl, by simp [World.setCell], fun k _ hk => Below.heap_setCell _ _ _ k (fun e => hk (by rw [e]))⟩

theorem set_off (w : World) (c i j : Nat) (v : Value) (h : i ≠ j) : (w.setCell ⟨c, i, none⟩ v).cell? ⟨c, j, none⟩ = w.cell? ⟨c, j, none⟩ :=
  World.cell?_setCell_other w ⟨c, i, none⟩ ⟨c, j, none⟩ v (fun e => h (congrArg Addr.off e))

theorem Cur.move {w : World} {c : Nat} {s : ByteArray} {st a m : Nat} (h : Cur w c s st a m) (b : Nat) (z : Int) (hz : z = b) : Cur (w.setCell ⟨c, 2, none⟩ (.int .i64 z)) c s st b m where
  text := (set_off w c 2 0 _ (by decide)).trans h.text
  start := (set_off w c 2 1 _ (by decide)).trans h.start
  pos := hz ▸ World.cell?_setCell_same _ _ _ h.pos
  words := (set_off w c 2 3 _ (by decide)).trans h.words
  free := fun j => by rw [World.frozen?_setCell]; exact h.free j

theorem Cur.begin {w : World} {c : Nat} {s : ByteArray} {st a m : Nat} (h : Cur w c s st a m) (b : Nat) : Cur (w.setCell ⟨c, 1, none⟩ (.int .i64 b)) c s b a m where
  text := (set_off w c 1 0 _ (by decide)).trans h.text
  start := World.cell?_setCell_same _ _ _ h.start
  pos := (set_off w c 1 2 _ (by decide)).trans h.pos
  words := (set_off w c 1 3 _ (by decide)).trans h.words
  free := fun j => by rw [World.frozen?_setCell]; exact h.free j

theorem Cur.kept {w w' : World} {c : Nat} {s : ByteArray} {st a m : Nat} {row : Option Nat} (h : Cur w c s st a m) (hg : w.grownBy w' row) (hr : some c ≠ row) : Cur w' c s st a m := by
  have hlt : c < w.heap.size := by
    rcases Nat.lt_or_ge c w.heap.size with h1 | h1
    · exact h1
    · have := h.text
      simp [World.cell?, Array.getElem?_eq_none h1] at this
  have hb : w'.heap[c]? = w.heap[c]? := hg.block c hlt hr
  have hc : ∀ j, w'.cell? ⟨c, j, none⟩ = w.cell? ⟨c, j, none⟩ := fun j => World.cell?_of_block (w := w) hb
  exact ⟨(hc 0).trans h.text, (hc 1).trans h.start, (hc 2).trans h.pos, (hc 3).trans h.words, fun j => (World.frozen?_of_block (w := w) hb).trans (h.free j)⟩

end Tk
end Go.Proofs.YtlpcpnbjpbhlgaaGreatDoor
