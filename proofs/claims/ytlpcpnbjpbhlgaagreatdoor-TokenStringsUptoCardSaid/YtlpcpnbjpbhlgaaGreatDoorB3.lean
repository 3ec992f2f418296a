/- Some digits: the number that they make. -/
import Derived.Test.YtlpcpnbjpbhlgaaGreatDoorB2
import Derived.Test.YtlpcpnbjpbhlgaaGreatDoorA10
namespace Go.Proofs.YtlpcpnbjpbhlgaaGreatDoor
open Go.ChangeShapes Go.WideShapes Go.ChangeAt Go.RowKit Go.WideMaps Go.Maps
namespace Tk

theorem digits_any (w : World) (c : Nat) (base : Int) :
    Calls Tryz.prog 88 #[.pointer (some ⟨c, 0, none⟩), .int .u64 base] w fun e w' =>
      e = .returned (.func (.func 102) #[] #[.pointer (some ⟨w.heap.size, 0, none⟩), .pointer (some ⟨w.heap.size + 1, 0, none⟩)]) ∧ Boxes w' w.heap.size (w.heap.size + 1) c base ∧ w'.heap.size = w.heap.size + 2 ∧ w.grownBy w' none := by
  have hmf : ∀ (fn : Fn) (first cap : Array Value) (w : World), (Instr.makeFunc fn first cap).run Tryz.prog w = .ok (.func fn first cap) w := fun _ _ _ _ => rfl
  go_enter Tryz.func88, Tryz.ntmps88
  go_wp2
  go_ret
  have h0 : Boxed ((w.alloc (.cells #[.pointer (some ⟨c, 0, none⟩)] 54)).alloc (.cells #[.int .u64 base] 77)) w.heap.size 54 (.pointer (some ⟨c, 0, none⟩)) := (Boxed.new w _ _).alloc _
  have h1 : Boxed ((w.alloc (.cells #[.pointer (some ⟨c, 0, none⟩)] 54)).alloc (.cells #[.int .u64 base] 77)) (w.heap.size + 1) 77 (.int .u64 base) := by
    have := Boxed.new (w.alloc (.cells #[.pointer (some ⟨c, 0, none⟩)] 54)) 77 (.int .u64 base)
    rwa [World.size_alloc] at this
  exact ⟨rfl, ⟨h0.cell, h1.cell⟩, by simp, (World.grownBy_alloc w _ none).trans (World.grownBy_alloc _ _ none)⟩

def numV (s : ByteArray) (a base : Nat) : Nat → Nat
  | 0 => 0
  | k + 1 => numV s a base k * base + (digitV (byteAt s (a + k)) base).toNat

theorem Wide.kept {w w' : World} {b x : Nat} {row : Option Nat} (h : Wide w b x) (hg : w.grownBy w' row) (hr : some b ≠ row) : Wide w' b x :=
  ⟨cell_grown h.hi hg hr, cell_grown h.lo hg hr, fun j => (World.frozen?_of_block (w := w) (hg.block b (lt_cell h.hi) hr)).trans (h.free j)⟩

theorem grown_step {w U V : World} {c r : Nat} (h : w.grownBy U (some c)) (hg : U.grownBy V (some r)) (hr : r = c ∨ w.heap.size ≤ r) : w.grownBy V (some c) :=
  ⟨hg.os.trans h.os, hg.tape.trans h.tape, hg.output.trans h.output, Nat.le_trans h.size hg.size, fun k hk hc => (hg.block k (Nat.lt_of_lt_of_le hk h.size) (by intro e; cases e; rcases hr with rfl | hr; exact hc rfl; omega)).trans (h.block k hk hc)⟩

/-- What a round of digits keeps: the base, the number, that it fits. -/
structure SomeI (w : World) (c : Nat) (base x : Nat) (W : World) : Prop where
  base : Boxed W w.heap.size 77 (.int .u64 base)
  num : Wide W (w.heap.size + 1) x
  fit : Boxed W (w.heap.size + 1 + 1) 4 (.bool true)
  grown : w.grownBy W (some c)

theorem SomeI.kept {w U V : World} {c base x r : Nat} (h : SomeI w c base x U) (hg : U.grownBy V (some r)) (h0 : r ≠ w.heap.size) (h1 : r ≠ w.heap.size + 1) (h2 : r ≠ w.heap.size + 1 + 1) (hr : r = c ∨ w.heap.size ≤ r) : SomeI w c base x V :=
  ⟨h.base.kept hg (by intro e; cases e; exact h0 rfl), h.num.kept hg (by intro e; cases e; exact h1 rfl), h.fit.kept hg (by intro e; cases e; exact h2 rfl), grown_step h.grown hg hr⟩

theorem digitV_pos (b base : Int) (h : 0 ≤ b) : 0 ≤ digitV b base ∨ digitV b base = base := by
  unfold digitV
  by_cases hd : digB b = true
  · have hd2 : 48 ≤ b ∧ b ≤ 57 := by simpa [digB] using hd
    rw [if_pos hd]
    omega
  · rw [if_neg hd]
    split
    · omega
    · split <;> omega

attribute [local go_sem] Oper.semAt_some wide_fn wide_room round_room round_fn

set_option maxHeartbeats 2000000 in
theorem some_any (w : World) (s : ByteArray) (st a m c N base : Nat) (hs : s.size ≤ 20000) (hb : base < 100) (hR : Run s a N base) (hN : 1 ≤ N) (hv : ∀ k, k ≤ N → numV s a base k < 100000000000000) (hc : Cur w c s st a m) :
    Calls Tryz.prog 73 #[.pointer (some ⟨c, 0, none⟩), .int .u64 base] w fun e w' =>
      e = .returned (.tuple #[.agg #[.int .u64 0, .int .u64 (numV s a base N)], .bool true]) ∧ Cur w' c s st (a + N) m ∧ w.grownBy w' (some c) := by
  have hlt := hc.lt
  have HC := Lib.hid hc
  have c2 := hc.pos
  clear hc
  have c2a : ∀ o1 o2 o3, (((w.alloc o1).alloc o2).alloc o3).cell? ⟨c, 2, none⟩ = some (.int .i64 a) := fun o1 o2 o3 => cell_grown HC.out.pos (((World.grownBy_alloc w o1 none).trans (World.grownBy_alloc _ o2 none)).trans (World.grownBy_alloc _ o3 none)) (by simp)
  obtain ⟨wx, hwx⟩ : ∃ wx, wx = ((w.alloc (.cells #[.int .u64 base] 77)).alloc (.cells #[.int .u64 0, .int .u64 0] 98)).alloc (.cells #[.bool true] 4) := ⟨_, rfl⟩
  have hsx : wx.heap.size = w.heap.size + 1 + 1 + 1 := by rw [hwx]; simp
  have hIx : SomeI w c base 0 wx := by
    rw [hwx]
    have h1 := World.alloc_heap_new (w.alloc (.cells #[.int .u64 base] 77)) (.cells #[.int .u64 0, .int .u64 0] 98)
    rw [World.size_alloc] at h1
    have h2 : (((w.alloc (.cells #[.int .u64 base] 77)).alloc (.cells #[.int .u64 0, .int .u64 0] 98)).alloc (.cells #[.bool true] 4)).heap[w.heap.size + 1]? = some (.cells #[.int .u64 0, .int .u64 0] 98) := (Below.heap_alloc _ _ _ (by simp)).trans h1
    have h3 := Boxed.new ((w.alloc (.cells #[.int .u64 base] 77)).alloc (.cells #[.int .u64 0, .int .u64 0] 98)) 4 (.bool true)
    rw [World.size_alloc, World.size_alloc] at h3
    exact ⟨((Boxed.new w _ _).alloc _).alloc _, ⟨by rw [Lib.cell_of_heap h2]; rfl, by rw [Lib.cell_of_heap h2]; rfl, fun j => Lib.frozen_of_heap h2 j⟩, h3, ((World.grownBy_alloc w _ _).trans (World.grownBy_alloc _ _ _)).trans (World.grownBy_alloc _ _ _)⟩
  have hgx : w.grownBy wx none := by
    rw [hwx]
    exact ((World.grownBy_alloc w _ _).trans (World.grownBy_alloc _ _ _)).trans (World.grownBy_alloc _ _ _)
  have HCx : Hid (Cur wx c s st a m) := HC.out.kept hgx (by simp)
  have HIx := Lib.hid hIx
  have HWX := Lib.hid hwx
  clear hIx hwx hgx
  have x0 := HIx.out.base.cell
  refine callsIn_wide.1 (callsIn_of_wp_marks (n := 3) Tryz.func73 rfl trivial ?_ rfl)
  simp only [Tryz.ntmps73, List.size_toArray, List.length_cons, List.length_nil, Nat.reduceAdd, Nat.reduceSub, Array.replicate_succ, Array.replicate_zero, List.push_toArray, List.append_toArray, List.nil_append, List.cons_append]
  gi_wp2_with (gi_at_call 88; rw [← HWX.out]; refine (callsIn_wide.2 (digits_any wx c base)).mono ?_; rintro e w' ⟨rfl, hB, hsz, hg⟩)
  rw [hsx] at hB hsz
  have HCw : Hid (Cur w' c s st a m) := HCx.out.kept hg (by simp)
  have HIw : Hid (SomeI w c base 0 w') := HIx.out.kept (grown_row hg c) (by omega) (by omega) (by omega) (.inl rfl)
  have HB := Lib.hid hB
  have HR := Lib.hid hR
  have HV := Lib.hid hv
  clear hB hg hR hv x0 c2a c2
  refine wpIn_range_st (n0 := 3) (gf := 102) (lb := #[.pointer (some ⟨w.heap.size + 1 + 1 + 1, 0, none⟩), .pointer (some ⟨w.heap.size + 1 + 1 + 1 + 1, 0, none⟩)]) rfl (enters_of Tryz.func102 (by kernel_rfl) rfl) (c := c) (N := N) (by omega)
    (digits_iter w' s st a m c (w.heap.size + 1 + 1 + 1) (w.heap.size + 1 + 1 + 1 + 1) N base hs HR.out HCw.out HB.out (by omega) (by omega) 3) (fun _ => rfl) ?hC ?hD
    (fun k W => SomeI w c base (numV s a base k) W) ?hI HIw.out
    (fun k => { tmps := #[.pointer (some ⟨c, 0, none⟩), .int .u64 base, undef, .pointer (some ⟨w.heap.size, 0, none⟩), .pointer (some ⟨w.heap.size + 1, 0, none⟩), .pointer (some ⟨w.heap.size + 1 + 1, 0, none⟩), .int .i64 a, .int .u64 (digitV (byteAt s (a + k)) base), undef, .pointer (some ⟨c, 0, none⟩), .pointer (some ⟨c, 0, none⟩), .pointer (some ⟨c, 2, none⟩), .int .i64 a, .pointer (some ⟨c, 0, none⟩), .int .u64 base, .func (.func 102) #[] #[.pointer (some ⟨w.heap.size + 1 + 1 + 1, 0, none⟩), .pointer (some ⟨w.heap.size + 1 + 1 + 1 + 1, 0, none⟩)], .int .u64 (digitV (byteAt s (a + k)) base), undef, undef, undef, undef, undef, undef, undef, undef, undef, undef, undef, undef, undef, undef, undef, undef, undef], defers := [] }) ?assign ?body ?done
  case hC =>
    intro k U V r h hg hr
    exact ⟨h.1.kept hg (by intro e; cases e; omega), h.2.kept hg (by intro e; cases e; omega) (by intro e; cases e; omega)⟩
  case hD =>
    intro U V r h hg hr
    exact h.kept hg (by intro e; cases e; omega)
  case hI =>
    intro k U V r h hg hr
    exact h.kept hg (by omega) (by omega) (by omega) (by omega)
  case assign =>
    intro l k W K hK
    gi_wp2
    exact hK
  case body =>
    intro l k W hk hI hC
    have hd := HR.out.dig k hk
    have hd0 := digitV_pos (byteAt s (a + k)) base (byteAt_range s (a + k)).1
    obtain ⟨d, hdn⟩ : ∃ d : Nat, digitV (byteAt s (a + k)) base = d := ⟨(digitV (byteAt s (a + k)) base).toNat, by omega⟩
    have hx := HV.out k (by omega)
    have hn : numV s a base (k + 1) = numV s a base k * base + d := by
      show numV s a base k * base + (digitV (byteAt s (a + k)) base).toNat = _
      rw [hdn, Int.toNat_natCast]
    rw [hn, hdn]
    rw [hdn] at hd
    have hx2 := HV.out (k + 1) (by omega)
    rw [hn] at hx2
    clear hdn hn hd0
    generalize numV s a base k = x at *
    have HI := Lib.hid hI
    have HCd := Lib.hid hC
    clear hI hC
    have x0 := HI.out.base.cell
    gi_wp2_with (gi_at_call 89; refine (CallsIn.inRound l (callsIn_wide.2 (push_small (w.heap.size + 1) x base d _ HI.out.num (by omega) (by omega) (by omega) (by omega)))).mono ?_; rintro e w2 ⟨rfl, hw2, hg2⟩; have x2 := (HI.out.fit.kept hg2 (by simp)).cell; have x3 := (HI.out.fit.kept hg2 (by simp)).frozen)
    have h1 : SomeI w c base (x * base + d) w2 := ⟨HI.out.base.kept hg2 (by simp), hw2, HI.out.fit.kept hg2 (by simp), grown_step HI.out.grown hg2 (.inr (by omega))⟩
    have hg3 : w2.grownBy (w2.setCell ⟨w.heap.size + 1 + 1, 0, none⟩ (.bool true)) (some (w.heap.size + 1 + 1)) := grown_set w2 ⟨w.heap.size + 1 + 1, 0, none⟩ (.bool true)
    refine ⟨(KeepsOthers.of_grownBy hg2 ?_).trans (KeepsOthers.setCell _ _ _), ⟨h1.base.other (by omega) _, h1.num.kept hg3 (by simp), h1.fit.set _, grown_step h1.grown hg3 (.inr (by omega))⟩, ?_, ?_⟩
    · intro j o e ho
      cases e
      obtain ⟨o', ho', hc'⟩ := cells_of_cell HI.out.num.hi
      rw [ho] at ho'
      cases ho'
      exact hc'
    · exact (HCd.out.1.kept hg2 (by intro e; have := Option.some.inj e; omega)).kept hg3 (by intro e; have := Option.some.inj e; omega)
    · exact (HCd.out.2.kept hg2 (by intro e; have := Option.some.inj e; omega) (by intro e; have := Option.some.inj e; omega)).kept hg3 (by intro e; have := Option.some.inj e; omega) (by intro e; have := Option.some.inj e; omega)
  case done =>
    intro B W hB hI hC hK
    have HI := Lib.hid hI
    have HCd := Lib.hid hC
    have HK := Lib.hid hK
    clear hI hC hK
    have c2 := HCd.out.pos
    have x1 := HI.out.num.hi
    have x2 := HI.out.num.lo
    have x3 := HI.out.fit.cell
    have f0 := HI.out.num.free 0
    have f1 := HI.out.num.free 1
    have f2 := HI.out.fit.frozen
    have hne : (((a + N : Nat) : Int) == (a : Int)) = false := by simp; omega
    gi_wp2_with fail
    refine wpIn_wide.2 ?_
    go_region
    gi_wp2_with fail
    obtain ⟨wf, hwf⟩ : ∃ wf, wf = (((W.setCell ⟨w.heap.size + 1, 0, none⟩ (.int .u64 0)).setCell ⟨w.heap.size + 1, 1, none⟩ (.int .u64 (numV s a base N))).setCell ⟨w.heap.size + 1 + 1, 0, none⟩ (.bool true)).drew := ⟨_, rfl⟩
    rw [← hwf]
    have g1 : W.grownBy (W.setCell ⟨w.heap.size + 1, 0, none⟩ (.int .u64 0)) (some (w.heap.size + 1)) := grown_set W ⟨w.heap.size + 1, 0, none⟩ _
    have g2 : (W.setCell ⟨w.heap.size + 1, 0, none⟩ (.int .u64 0)).grownBy ((W.setCell ⟨w.heap.size + 1, 0, none⟩ (.int .u64 0)).setCell ⟨w.heap.size + 1, 1, none⟩ (.int .u64 (numV s a base N))) (some (w.heap.size + 1)) := grown_set _ ⟨w.heap.size + 1, 1, none⟩ _
    have g12 := g1.trans g2
    have g3 : ((W.setCell ⟨w.heap.size + 1, 0, none⟩ (.int .u64 0)).setCell ⟨w.heap.size + 1, 1, none⟩ (.int .u64 (numV s a base N))).grownBy (((W.setCell ⟨w.heap.size + 1, 0, none⟩ (.int .u64 0)).setCell ⟨w.heap.size + 1, 1, none⟩ (.int .u64 (numV s a base N))).setCell ⟨w.heap.size + 1 + 1, 0, none⟩ (.bool true)) (some (w.heap.size + 1 + 1)) := grown_set _ ⟨w.heap.size + 1 + 1, 0, none⟩ _
    have hW2 : Wide ((W.setCell ⟨w.heap.size + 1, 0, none⟩ (.int .u64 0)).setCell ⟨w.heap.size + 1, 1, none⟩ (.int .u64 (numV s a base N))) (w.heap.size + 1) (numV s a base N) := HI.out.num.set _ _ rfl
    have hIf : SomeI w c base (numV s a base N) wf := by
      rw [hwf]
      have q : SomeI w c base (numV s a base N) (((W.setCell ⟨w.heap.size + 1, 0, none⟩ (.int .u64 0)).setCell ⟨w.heap.size + 1, 1, none⟩ (.int .u64 (numV s a base N))).setCell ⟨w.heap.size + 1 + 1, 0, none⟩ (.bool true)) :=
        ⟨(HI.out.base.kept g12 (by simp)).other (by omega) _, hW2.kept g3 (by simp), (HI.out.fit.kept g12 (by simp)).set _, grown_step (grown_step HI.out.grown g12 (.inr (by omega))) g3 (.inr (by omega))⟩
      exact ⟨q.base, ⟨q.num.hi, q.num.lo, q.num.free⟩, q.fit, q.grown.trans (grown_drewN _ 1 _)⟩
    have hCf : Cur wf c s st (a + N) m := by
      rw [hwf]
      exact ((HCd.out.kept g12 (by intro e; have := Option.some.inj e; omega)).kept g3 (by intro e; have := Option.some.inj e; omega)).drew 1
    have hKf : wf.heap[B]? = some (.deferred (some [])) := by
      rw [hwf]
      exact (((KeepsOthers.setCell W ⟨w.heap.size + 1, 0, none⟩ (.int .u64 0)).trans (KeepsOthers.setCell _ ⟨w.heap.size + 1, 1, none⟩ (.int .u64 (numV s a base N)))).trans (KeepsOthers.setCell _ ⟨w.heap.size + 1 + 1, 0, none⟩ (.bool true))).same _ _ HK.out rfl
    have hIz : SomeI w c base (numV s a base N) (wf.putObj B (.deferred none)) := hIf.kept (grownBy_putObj' _ _ _) (by omega) (by omega) (by omega) (.inr (by omega))
    have hCz : Cur (wf.putObj B (.deferred none)) c s st (a + N) m := hCf.kept (grownBy_putObj' _ _ _) (by intro e; have := Option.some.inj e; omega)
    refine ⟨by simp, .inl ⟨_, _, rfl, run_takeDeferred hKf, ?_⟩⟩
    have z1 := hIz.num.hi
    have z2 := hIz.num.lo
    have z3 := hIz.fit.cell
    exact ⟨.tuple #[.agg #[.int .u64 0, .int .u64 (numV s a base N)], .bool true], by simp [results, Tryz.results73, go_sem, z1, z2, z3], rfl, hCz, hIz.grown⟩

end Tk
end Go.Proofs.YtlpcpnbjpbhlgaaGreatDoor
