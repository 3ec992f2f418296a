/- The digits of a base: the closure that hands them on. -/
import Derived.Test.YtlpcpnbjpbhlgaaGreatDoorA9
import Derived.Test.YtlpcpnbjpbhlgaaGreatDoorA6
import Derived.Test.YtlpcpnbjpbhlgaaGreatDoorB1
import Derived.Test.YtlpcpnbjpbhlgaaGreatDoorA14
import Derived.Sort.QuietIn
import Derived.OwnWalkIn
import Derived.TacticsInMore
import Derived.LoopNIn
import Derived.LoopIn
namespace Go.Proofs.YtlpcpnbjpbhlgaaGreatDoor
open Go.ChangeShapes Go.WideShapes Go.ChangeAt Go.RowKit Go.WideMaps Go.Maps
namespace Tk

/-- N digits of a base at place a, none behind them, no underscore among them. -/
structure Run (s : ByteArray) (a N : Nat) (base : Int) : Prop where
  dig : ∀ k, k < N → digitV (byteAt s (a + k)) base < base
  bare : ∀ k, k < N → byteAt s (a + k + 1) ≠ 95
  stop : ¬ digitV (byteAt s (a + N)) base < base
  size : a + N ≤ s.size

/-- What the closure has at hand: its own two boxes. -/
structure Boxes (w : World) (bc bb c : Nat) (base : Int) : Prop where
  cur : w.cell? ⟨bc, 0, none⟩ = some (.pointer (some ⟨c, 0, none⟩))
  base : w.cell? ⟨bb, 0, none⟩ = some (.int .u64 base)

theorem lt_cell {w : World} {p : Addr} {v : Value} (h : w.cell? p = some v) : p.block < w.heap.size := by
  rcases Nat.lt_or_ge p.block w.heap.size with h1 | h1
  · exact h1
  · simp [World.cell?, Array.getElem?_eq_none h1] at h

theorem cell_grown {w w' : World} {p : Addr} {v : Value} {row : Option Nat} (h : w.cell? p = some v) (hg : w.grownBy w' row) (hr : some p.block ≠ row) : w'.cell? p = some v :=
  (World.cell?_of_block (w := w) (hg.block p.block (lt_cell h) hr)).trans h

theorem Boxes.kept {w w' : World} {bc bb c : Nat} {base : Int} {row : Option Nat} (h : Boxes w bc bb c base) (hg : w.grownBy w' row) (h1 : some bc ≠ row) (h2 : some bb ≠ row) : Boxes w' bc bb c base :=
  ⟨cell_grown h.cur hg h1, cell_grown h.base hg h2⟩

theorem peek0 (s : ByteArray) (k B : Nat) (w : World) (hs : s.size ≤ 20000) (hk : k ≤ 40000) (h0 : w.cell? ⟨B, 0, none⟩ = some (.string s)) (h2 : w.cell? ⟨B, 2, none⟩ = some (.int .i64 k)) :
    Calls Tryz.prog 71 #[.pointer (some ⟨B, 0, none⟩), .int .i64 0] w fun e w' => e = .returned (.int .u8 (byteAt s k)) ∧ ∃ m, w' = w.drewN m := peek_any s k 0 B w hs (by omega) hk h0 h2

theorem digit_is (b base d : Int) (t : Bool) (w : World) (h0 : 0 ≤ b) (h1 : b ≤ 255) (hd : d = digitV b base) (hl : decide (d < base) = t) :
    Calls Tryz.prog 103 #[.int .u8 b, .int .u64 base] w fun e w' => e = .returned (.tuple #[.int .u64 d, .bool t]) ∧ w' = w := by
  subst hd hl
  exact (digit_any b base w h0 h1).mono fun e w' ⟨he, hw⟩ => ⟨he, hw.symm⟩

def atDigit (s : ByteArray) (st a m c bc bb : Nat) (base : Int) (k : Nat) (w : World) : Prop := Cur w c s st (a + k + 1) m ∧ Boxes w bc bb c base

attribute [local go_sem] Oper.semAt_some
@[local go_sem] theorem wide_fn (f : FuncId) : Fence.wide.fn f = True := rfl
@[local go_sem] theorem wide_room (n : Nat) : (Fence.wide.depth.isSome = true → 1 ≤ n) = True := by simp [Fence.wide]
@[local go_sem] theorem round_room (l n : Nat) : ((Fence.wide.inRound l).depth.isSome = true → 1 ≤ n) = True := by simp [Fence.wide, Fence.inRound]
@[local go_sem] theorem round_fn (l : Nat) (f : FuncId) : (Fence.wide.inRound l).fn f = True := rfl

set_option maxHeartbeats 2000000 in
theorem digits_iter (w : World) (s : ByteArray) (st a m c bc bb N : Nat) (base : Int) (hs : s.size ≤ 20000) (hR : Run s a N base) (hc : Cur w c s st a m) (hB : Boxes w bc bb c base) (h1 : bc ≠ c) (h2 : bb ≠ c) (n : Nat) :
    IterSt Tryz.prog n 102 #[.pointer (some ⟨bc, 0, none⟩), .pointer (some ⟨bb, 0, none⟩)] c N (fun k => #[.int .u64 (digitV (byteAt s (a + k)) base)]) (atDigit s st a m c bc bb base) (fun w' => Cur w' c s st (a + N) m) w := by
  intro l J W hW hJ hY h0
  have HJ := Lib.hid hJ
  have HR := Lib.hid hR
  have HC0 := Lib.hid (hc.kept hW (by simp))
  have HB0 := Lib.hid (hB.kept hW (by simp) (by simp))
  have H0 := Lib.hid h0
  have HY := Lib.hid hY
  clear hJ hR hc hB h0 hY hW
  refine callsIn_of_wp Tryz.func102 rfl trivial ?_ rfl
  simp only [Tryz.ntmps102, List.size_toArray, List.length_cons, List.length_nil, Nat.reduceAdd, Nat.reduceSub, Array.replicate_succ, Array.replicate_zero, List.push_toArray, List.append_toArray, List.nil_append, List.cons_append]
  gi_wp2_with fail
  gi_loopw [] (fun wr => ∃ k : Nat, k ≤ N ∧ Cur wr c s st (a + k) m ∧ Boxes wr bc bb c base ∧ J k wr) (fun wr => s.size - posOf wr c)
  case atStart => exact ⟨0, Nat.zero_le _, HC0.out, HB0.out, H0.out⟩
  case round =>
    obtain ⟨k, hk, hcr, hbr, hj⟩ := hrel
    have x1 := hbr.cur
    have x2 := hbr.base
    have HC := Lib.hid hcr
    have HB := Lib.hid hbr
    have Hj := Lib.hid hj
    have hsz := HR.out.size
    have hb0 := byteAt_range s (a + k)
    clear hcr hbr hj HC0 HB0 H0
    obtain ⟨p, hp⟩ : ∃ p : Nat, p = a + k := ⟨_, rfl⟩
    rw [← hp] at hb0
    have hC' : Cur wr c s st p m := by rw [hp]; exact HC.out
    have HC := Lib.hid hC'
    have HP := Lib.hid hp
    have hpb : p ≤ 30000 := by omega
    clear hC' hp
    by_cases hlt : k < N
    · obtain ⟨d, hd⟩ : ∃ d, d = digitV (byteAt s p) base := ⟨_, rfl⟩
      have hdl : decide (d < base) = true := by rw [hd, HP.out]; exact decide_eq_true (HR.out.dig k hlt)
      have h95 : (byteAt s (p + 1) == 95) = false := by rw [HP.out]; simpa using HR.out.bare k hlt
      have HYd : Hid (∀ W1, J k W1 → Cur W1 c s st (p + 1) m → Boxes W1 bc bb c base → YieldAt Fence.wide (n - 1) Tryz.prog l #[.int .u64 d] W1 fun e W' => e = .returned (.bool true) ∧ J (k + 1) W' ∧ Cur W' c s st (p + 1) m ∧ Boxes W' bc bb c base) := by
        intro W1 q1 q2 q3
        have := HY.out k W1 hlt q1 ⟨by rw [← HP.out]; exact q2, q3⟩
        rw [hd, HP.out]
        exact this
      have HD := Lib.hid hd
      have HDL := Lib.hid hdl
      clear hd hdl
      gi_wp2_with fail
      refine wpIn_wide.2 ?_
      go_quiet ((first | (go_at_call 71; exact Calls.quiet_of (peek0 s p c _ hs (by omega) HC.out.text HC.out.pos)) | (go_at_call 103; exact Calls.quiet_of_same (digit_is _ base d true _ hb0.1 hb0.2 HD.out HDL.out))))
      obtain ⟨wo, hwo⟩ : ∃ wo, wo = wr.drewN nq := ⟨_, rfl⟩
      have HCo : Hid (Cur wo c s st p m) := by rw [hwo]; exact HC.out.drew nq
      have HBo : Hid (Boxes wo bc bb c base) := by rw [hwo]; exact ⟨HB.out.cur, HB.out.base⟩
      have HJo : Hid (J k wo) := by rw [hwo]; exact HJ.out k _ _ Hj.out (grown_drewN _ _ _)
      rw [← hwo]
      clear hwo x1 x2
      have x1 := HBo.out.cur
      have x2 := HBo.out.base
      have c2 := HCo.out.pos
      have f2 := HCo.out.free 2
      have e1 : IntKind.i64.wrap ((p : Int) + 1) = (p : Int) + 1 := IntWalk.i64_in _ (by omega)
      obtain ⟨wy, hwy⟩ : ∃ wy, wy = wo.setCell ⟨c, 2, none⟩ (.int .i64 ((p : Int) + 1)) := ⟨_, rfl⟩
      have HCy : Hid (Cur wy c s st (p + 1) m) := by rw [hwy]; exact HCo.out.move (p + 1) _ (by omega)
      have HGy : Hid (wo.grownBy wy (some c)) := by rw [hwy]; exact grown_set _ ⟨c, 2, none⟩ _
      have HBy : Hid (Boxes wy bc bb c base) := HBo.out.kept HGy.out (by simpa using h1) (by simpa using h2)
      have HJy : Hid (J k wy) := HJ.out k _ _ HJo.out HGy.out
      have HWY := Lib.hid hwy
      clear hwy
      have y1 := HBy.out.cur
      gi_wp2_with (first | (gi_at_call 71; rw [← HWY.out]; refine (callsIn_wide.2 (peek0 s (p + 1) c wy hs (by omega) HCy.out.text HCy.out.pos)).mono ?_; rintro e w' ⟨rfl, n2, rfl⟩; obtain ⟨fn, tmps', assign, body, hy, hRd⟩ := HYd.out (wy.drewN n2) (HJ.out k _ _ HJy.out (grown_drewN _ _ _)) (HCy.out.drew n2) ⟨HBy.out.cur, HBy.out.base⟩) | (refine hRd.mono ?_; rintro e W' ⟨rfl, hj', hC', hB'⟩))
      have hpk := HP.out
      refine ⟨⟨k + 1, by omega, ?_, hB', hj'⟩, ?_⟩
      · rw [show a + (k + 1) = p + 1 by omega]
        exact hC'
      · rw [hC'.posOf, HC.out.posOf]
        omega
    · obtain rfl : k = N := by omega
      obtain ⟨d, hd⟩ : ∃ d, d = digitV (byteAt s p) base := ⟨_, rfl⟩
      have hdl : decide (d < base) = false := by rw [hd, HP.out]; exact decide_eq_false HR.out.stop
      have HD := Lib.hid hd
      have HDL := Lib.hid hdl
      clear hd hdl
      gi_wp2_with fail
      refine wpIn_wide.2 ?_
      go_quiet ((first | (go_at_call 71; exact Calls.quiet_of (peek0 s p c _ hs (by omega) HC.out.text HC.out.pos)) | (go_at_call 103; exact Calls.quiet_of_same (digit_is _ base d false _ hb0.1 hb0.2 HD.out HDL.out))))
      gi_wp2_with fail
      first | go_end0 | refine bodyPost_ret (results_none rfl _ _ _) rfl ?_
      refine ⟨⟨_, rfl⟩, HJ.out _ _ _ Hj.out (grown_drewN _ _ _), ?_⟩
      rw [← HP.out]
      exact HC.out.drew _

end Tk
end Go.Proofs.YtlpcpnbjpbhlgaaGreatDoor
