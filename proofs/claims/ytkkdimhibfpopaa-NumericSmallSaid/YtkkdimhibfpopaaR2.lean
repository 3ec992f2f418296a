/- Every other element: the closure that hands them on. -/
import Derived.Test.YtkkdimhibfpopaaA4
import Derived.RangeFuncNested
import Derived.RangeFuncLeaves
import Derived.Maps.AppendAt
import Derived.Sort.QuietIn
import Derived.OwnWalkIn
import Derived.TacticsInMore
import Derived.LoopNIn
import Derived.LoopIn
namespace Go.Proofs.Ytkkdimhibfpopaa
open Go.ChangeShapes Go.WideShapes Go.ChangeAt Go.RowKit Go.WideMaps Go.Maps
namespace Nu

/-- Block b holds these numbers. -/
def Num (W : World) (b : Nat) (L : List (Nat × Nat)) : Prop := ∀ j x, L[j]? = some x → W.cell? ⟨b, 2 * j, none⟩ = some (.int .u32 x.1) ∧ W.cell? ⟨b, 2 * j + 1, none⟩ = some (.int .u32 x.2)

theorem Num.lt {W : World} {b : Nat} {L : List (Nat × Nat)} (h : Num W b L) (hn : L ≠ []) : b < W.heap.size := by
  cases L with
  | nil => exact absurd rfl hn
  | cons x l => exact cell_lt (h 0 x rfl).1

theorem Num.grown {W V : World} {b : Nat} {L : List (Nat × Nat)} {row : Option Nat} (h : Num W b L) (hg : W.grownBy V row) (hr : some b ≠ row) : Num V b L := fun j x hx =>
  ⟨hg.cell (h j x hx).1 hr, hg.cell (h j x hx).2 hr⟩

theorem Num.below {W X V : World} {b : Nat} {L : List (Nat × Nat)} (h : Num W b L) (hX : X.heap = W.heap) (hb : Below X.heap.size X V) : Num V b L := fun j x hx => by
  obtain ⟨h1, h2⟩ := h j x hx
  have l1 : b < X.heap.size := by rw [hX]; exact cell_lt h1
  have e1 : V.heap[b]? = W.heap[b]? := by rw [hb.block b l1, hX]
  exact ⟨(World.cell?_of_block (w := W) e1).trans h1, (World.cell?_of_block (w := W) e1).trans h2⟩

/-- The k-th of every other element from f on. -/
def pick (L : List (Nat × Nat)) (f k : Nat) : Nat × Nat := L.getD (f + 2 * k) (0, 0)
theorem pick_at {L : List (Nat × Nat)} {f k : Nat} (h : f + 2 * k < L.length) : L[f + 2 * k]? = some (pick L f k) := by
  unfold pick; rw [List.getD_eq_getElem?_getD, List.getElem?_eq_getElem h]; rfl

/-- What the closure has at hand: its own two boxes, and the list. -/
structure Boxes (bl b cap : Nat) (L : List (Nat × Nat)) (W : World) : Prop where
  box : W.cell? ⟨bl, 0, none⟩ = some (.slice (some ⟨b, 0, none⟩) L.length cap)
  num : Num W b L

theorem Boxes.kept {W V : World} {bl b cap : Nat} {L : List (Nat × Nat)} {row : Option Nat} (h : Boxes bl b cap L W) (hg : W.grownBy V row) (h1 : some bl ≠ row) (h2 : some b ≠ row) : Boxes bl b cap L V :=
  ⟨hg.cell h.box h1, h.num.grown hg h2⟩

attribute [local go_sem] Oper.semAt_some
@[local go_sem] theorem wide_fn (f : FuncId) : Fence.wide.fn f = True := rfl
@[local go_sem] theorem wide_room (n : Nat) : (Fence.wide.depth.isSome = true → 1 ≤ n) = True := by simp [Fence.wide]
@[local go_sem] theorem round_room (l n : Nat) : ((Fence.wide.inRound l).depth.isSome = true → 1 ≤ n) = True := by simp [Fence.wide, Fence.inRound]
@[local go_sem] theorem round_fn (l : Nat) (f : FuncId) : (Fence.wide.inRound l).fn f = True := rfl

def picks (L : List (Nat × Nat)) (f k : Nat) : List (Nat × Nat) := (List.range k).map (pick L f)
theorem picks_snoc (L : List (Nat × Nat)) (f k : Nat) : picks L f (k + 1) = picks L f k ++ [pick L f k] := by unfold picks; rw [List.range_succ, List.map_append]; rfl
theorem picks_len (L : List (Nat × Nat)) (f k : Nat) : (picks L f k).length = k := by unfold picks; simp

theorem Boxes.below {W V : World} {n bl b cap : Nat} {L : List (Nat × Nat)} (h : Boxes bl b cap L W) (hb : Below n W V) (h1 : bl < n) (h2 : b < n) : Boxes bl b cap L V :=
  ⟨(hb.cell (p := ⟨bl, 0, none⟩) h1).trans h.box, fun j x hx => ⟨(hb.cell (p := ⟨b, 2 * j, none⟩) h2).trans (h.num j x hx).1, (hb.cell (p := ⟨b, 2 * j + 1, none⟩) h2).trans (h.num j x hx).2⟩⟩

set_option maxHeartbeats 2000000 in
theorem other_seq (w : World) (bi bl b cap f N : Nat) (L : List (Nat × Nat)) (hL : L.length ≤ 64) (hN : N = (L.length + 1 - f) / 2) (hf : f ≤ 1) (hi : w.cell? ⟨bi, 0, none⟩ = some (.int .i64 f)) (hB : Boxes bl b cap L w) (hbl : bl < w.heap.size) (hbb : b < w.heap.size) (n : Nat) :
    SeqStopsK Fence.wide n Try.prog 71 #[.pointer (some ⟨bi, 0, none⟩), .pointer (some ⟨bl, 0, none⟩)] (fun x : Nat × Nat => #[num x]) (Below w.heap.size) (fun xs => xs = picks L f N) (fun _ => True) N w := by
  intro l J Jx W hW hJ hJx hY h0
  have i0 : W.cell? ⟨bi, 0, none⟩ = some (.int .i64 f) := (hW.cell (p := ⟨bi, 0, none⟩) (cell_lt hi)).trans hi
  have HB := Lib.hid hB
  have H0 := Lib.hid h0
  have HY := Lib.hid hY
  have HW := Lib.hid hW
  have HNN := Lib.hid hN
  clear hJ hJx hB h0 hY hW hi hN
  refine callsIn_of_wp Try.func71 rfl trivial ?_ rfl
  simp only [Try.ntmps71, List.size_toArray, List.length_cons, List.length_nil, Nat.reduceAdd, Nat.reduceSub, Array.replicate_succ, Array.replicate_zero, List.push_toArray, List.append_toArray, List.nil_append, List.cons_append]
  gi_wp2_with fail
  gi_loopw [4] (fun i wr => ∃ k : Nat, k ≤ N ∧ i = .int .i64 ((f + 2 * k : Nat) : Int) ∧ Below w.heap.size w wr ∧ J (picks L f k) wr) (fun i _ => 200 - (intOf i).toNat)
  case atStart => exact ⟨0, Nat.zero_le _, rfl, HW.out, H0.out⟩
  case round =>
    obtain ⟨k, hk, rfl, hb, hj⟩ := hrel
    have hC := HB.out.below hb hbl hbb
    have HC := Lib.hid hC
    have Hj := Lib.hid hj
    have Hb := Lib.hid hb
    have hc := hC.box
    clear hb hj H0 i0 hC
    obtain ⟨q, hq⟩ : ∃ q : Nat, q = f + 2 * k := ⟨_, rfl⟩
    have HP := Lib.hid hq
    by_cases hlt : q < L.length
    · obtain ⟨x, hx⟩ : ∃ x, x = pick L f k := ⟨_, rfl⟩
      have hxq : L[q]? = some x := by rw [hx, hq]; exact pick_at (by omega)
      obtain ⟨n0, n1⟩ := HC.out.num q x hxq
      rw [Nat.mul_comm] at n0 n1
      have hkN : k < N := by have := HNN.out; omega
      have HYd : Hid (YieldAt Fence.wide (n - 1) Try.prog l #[num x] wr fun e W' => (e = .returned (.bool true) ∧ J (picks L f (k + 1)) W' ∧ Below w.heap.size wr W') ∨ (e = .returned (.bool false) ∧ Jx (picks L f (k + 1)) W')) := by
        rw [hx, picks_snoc]
        exact HY.out (picks L f k) _ wr Hj.out (by rw [picks_len]; exact hkN)
      have hnum : num x = .agg #[.int .u32 x.1, .int .u32 x.2] := rfl
      have HN := Lib.hid hnum
      clear hxq hx hq hnum
      obtain ⟨m, hm⟩ : ∃ m, m = L.length := ⟨_, rfl⟩
      rw [← hm] at hc hlt
      have i1 : (q : Int) < m := by omega
      have i2 : (0 : Int) ≤ q := by omega
      have i3 : q ≤ 100 := by omega
      have HM := Lib.hid hm
      clear hm hlt
      rw [← HP.out]
      gi_wp2_with (first
        | (rw [← HN.out]; obtain ⟨fn, tmps', assign, body, hy, hRd⟩ := HYd.out)
        | (refine hRd.mono ?_; rintro e W' (⟨rfl, hj', hb'⟩ | ⟨rfl, hjx⟩)))
      · have hp := HP.out
        exact ⟨⟨k + 1, by omega, congrArg (Value.int .i64) (by omega), Hb.out.trans hb', hj'⟩, by simp [intOf]; omega⟩
      · first | go_end0 | refine bodyPost_ret (results_none rfl _ _ _) rfl ?_
        exact ⟨⟨_, rfl⟩, .inr ⟨_, trivial, hjx⟩⟩
    · have hkN : Hid (k = N) := by have := HNN.out; show k = N; omega
      obtain ⟨m, hm⟩ : ∃ m, m = L.length := ⟨_, rfl⟩
      rw [← hm] at hc hlt
      have i1 : ¬ (q : Int) < m := by omega
      clear hq
      have HM := Lib.hid hm
      clear hm hlt
      rw [← HP.out]
      gi_wp2_with fail
      first | go_end0 | refine bodyPost_ret (results_none rfl _ _ _) rfl ?_
      refine ⟨⟨_, rfl⟩, .inl ?_⟩
      rw [← hkN.out]
      exact Hj.out

end Nu
end Go.Proofs.Ytkkdimhibfpopaa
