/- The numbers of the examples: digits of base 16 behind 0x, and decimal digits with a point behind them that begins no fraction. -/
import Derived.Test.YtlpcpnbjpbhlgaaGreatDoorB3
import Derived.Test.YtlpcpnbjpbhlgaaGreatDoorB4
import Derived.Test.YtlpcpnbjpbhlgaaGreatDoorA17
namespace Go.Proofs.YtlpcpnbjpbhlgaaGreatDoor
open Go.ChangeShapes Go.WideShapes Go.ChangeAt Go.RowKit Go.WideMaps Go.Maps
namespace Tk

theorem pow10_at : Tryz.prog.globalNamed "internal/strconv.uint64pow10" = some 8 := by kernel_rfl

theorem tabIs_grown {w w' : World} {name : String} {k : IntKind} {zs : List Int} {g : Nat} {row : Option Nat} (hn : Tryz.prog.globalNamed name = some g) (h : Lib.TabIs Tryz.prog w name k zs) (hg : w.grownBy w' row) (hr : some g ≠ row) : Lib.TabIs Tryz.prog w' name k zs := by
  unfold Lib.TabIs at h ⊢
  unfold World.var? at h ⊢
  rw [hn] at h ⊢
  simp only [Option.bind_some] at h ⊢
  have hlt : g < w.heap.size := by
    rcases Nat.lt_or_ge g w.heap.size with h1 | h1
    · exact h1
    · rw [Array.getElem?_eq_none h1] at h
      cases h
  rw [hg.block g hlt hr]
  exact h

abbrev Pow10 (w : World) : Prop := Lib.TabIs Tryz.prog w "internal/strconv.uint64pow10" .u64 Lib.pow10Tab

def zx : ByteArray := ⟨#[48, 120]⟩
def zb : ByteArray := ⟨#[48, 98]⟩

/-- What is left of a block of a result when its cells are stored. -/
theorem grown_res {w w1 : World} {c : Nat} (hg : w.grownBy w1 (some c)) (v0 v1 v2 v3 : Value) :
    w.grownBy ((((w1.setCell ⟨w.heap.size, 0, none⟩ v0).setCell ⟨w.heap.size, 1, none⟩ v1).setCell ⟨w.heap.size, 2, none⟩ v2).setCell ⟨w.heap.size, 3, none⟩ v3) (some c) :=
  grown_new (grown_new (grown_new (grown_new hg (Nat.le_refl _) _) (Nat.le_refl _) _) (Nat.le_refl _) _) (Nat.le_refl _) _

theorem cur_res {w1 : World} {c B : Nat} {s : ByteArray} {st a m : Nat} (h : Cur w1 c s st a m) (hB : B ≠ c) (v0 v1 v2 v3 : Value) :
    Cur ((((w1.setCell ⟨B, 0, none⟩ v0).setCell ⟨B, 1, none⟩ v1).setCell ⟨B, 2, none⟩ v2).setCell ⟨B, 3, none⟩ v3) c s st a m :=
  (((h.other hB _).other hB _).other hB _).other hB _

set_option maxHeartbeats 2000000 in
theorem number_hex (w : World) (c : Nat) (s : ByteArray) (st a m N : Nat) (hc : Cur w c s st a m) (hs : s.size ≤ 20000) (h0 : Lib.hasPrefix (s.extract a s.size).data.toList zx.data.toList = true) (hR : Run s (a + 2) N 16) (hN : 1 ≤ N) (hv : ∀ k, k ≤ N → numV s (a + 2) 16 k < 100000000000000) (h1 : 1 ≤ numV s (a + 2) 16 N) (ht : Pow10 w) (hcg : c ≠ 8) :
    Calls Tryz.prog 51 #[.pointer (some ⟨c, 0, none⟩)] w fun e w' => e = .returned (.agg #[.int .i64 3, .string ⟨(Lib.decDigits (numV s (a + 2) 16 N)).toArray⟩, .int .i64 0, .bool false]) ∧ Cur w' c s st (a + 2 + N) m ∧ w.grownBy w' (some c) := by
  have hlt := hc.lt
  have hsz := hR.size
  obtain ⟨wx, hwx⟩ : ∃ wx, wx = w.alloc (.cells #[.int .i64 0, .string ⟨#[]⟩, .int .i64 0, .bool false] 34) := ⟨_, rfl⟩
  have HGx : Hid (w.grownBy wx (some c)) := by rw [hwx]; exact World.grownBy_alloc w _ _
  have HCx : Hid (Cur wx c s st a m) := by rw [hwx]; exact hc.kept (World.grownBy_alloc w _ none) (by simp)
  have HRx : Hid (Res wx w.heap.size) := by rw [hwx]; exact Res.new w
  have HTx : Hid (Pow10 wx) := by rw [hwx]; exact tabIs_grown pow10_at ht (World.grownBy_alloc w _ none) (by simp)
  have HWx := Lib.hid hwx
  have HR := Lib.hid hR
  have HV := Lib.hid hv
  have H0 := Lib.hid h0
  have hu64 : numV s (a + 2) 16 N < 18446744073709551616 := by have := hv N (Nat.le_refl _); omega
  obtain ⟨u, hu⟩ : ∃ u, u = numV s (a + 2) 16 N := ⟨_, rfl⟩
  rw [← hu] at h1 hu64
  have HU := Lib.hid hu
  clear hc hwx hR hv h0 ht hu
  have c2 := HCx.out.pos
  have f2 := HCx.out.free 2
  have e1 : IntKind.i64.wrap ((a : Int) + 2) = (a : Int) + 2 := IntWalk.i64_in _ (by omega)
  go_enter Tryz.func51, Tryz.ntmps51
  go_upto_region 2 with (fail)
  rw [← HWx.out]
  go_wp2_with (first | (go_at_call 42; refine (has_any s zx c a _ (by omega) HCx.out.text HCx.out.pos).mono ?_; rintro e w' ⟨he, n, rfl⟩; rw [H0.out] at he; subst he) | (go_at_call 73; refine (some_any _ s st (a + 2) m c N 16 hs (by omega) HR.out hN HV.out ((HCx.out.drew n).move (a + 2) _ (by omega))).mono ?_; rintro e w1 ⟨rfl, hC1, hg1⟩; rw [← HU.out]))
  have HG2 : Hid (wx.grownBy (w1.alloc (.cells #[.int .u64 0, .int .u64 u] 98)) (some c)) := (((grown_drewN wx n _).trans (grown_set _ ⟨c, 2, none⟩ _)).trans hg1).trans (World.grownBy_alloc _ _ _)
  refine (wideText_any u h1 hu64 _ (tabIs_grown pow10_at HTx.out HG2.out (by intro e; exact hcg (Option.some.inj e).symm))).mono ?_
  rintro e w2 ⟨rfl, hg2⟩
  have HG3 : Hid (wx.grownBy w2 (some c)) := HG2.out.trans (grown_row hg2 c)
  have HR2 : Hid (Res w2 w.heap.size) := HRx.out.kept HG3.out (by intro e; have := Option.some.inj e; omega)
  have HC2 : Hid (Cur w2 c s st (a + 2 + N) m) := (hC1.kept (World.grownBy_alloc w1 _ none) (by simp)).kept hg2 (by simp)
  clear hg2 hg1 hC1 c2 f2
  have r0 := HR2.out.c0
  have r1 := HR2.out.c1
  have r2 := HR2.out.c2
  have r3 := HR2.out.c3
  have g0 := HR2.out.free 0
  have g1 := HR2.out.free 1
  have g2 := HR2.out.free 2
  have g3 := HR2.out.free 3
  go_wp2_with fail
  refine bodyPost_ret (v := .agg #[.int .i64 3, .string ⟨(Lib.decDigits u).toArray⟩, .int .i64 0, .bool false]) (by simp [results, Tryz.results51, go_sem, r0, r1, r2, r3]) rfl ⟨?_, ?_, ?_⟩
  · rw [← HU.out]
  · exact cur_res HC2.out (by omega) _ _ _ _
  · exact grown_res (HGx.out.trans HG3.out) _ _ _ _

set_option maxHeartbeats 2000000 in
theorem number_dec (w : World) (c : Nat) (s : ByteArray) (st a m N : Nat) (hc : Cur w c s st a m) (hs : s.size ≤ 20000) (h0 : Lib.hasPrefix (s.extract a s.size).data.toList zx.data.toList = false) (hb : Lib.hasPrefix (s.extract a s.size).data.toList zb.data.toList = false) (hR : Run s a N 10) (hN : 1 ≤ N) (hv : ∀ k, k ≤ N → numV s a 10 k < 100000000000000) (h1 : 1 ≤ numV s a 10 N) (hp : byteAt s (a + N) = 46) (hp1 : digB (byteAt s (a + N + 1)) = false) (ht : Pow10 w) (hcg : c ≠ 8) :
    Calls Tryz.prog 51 #[.pointer (some ⟨c, 0, none⟩)] w fun e w' => e = .returned (.agg #[.int .i64 3, .string ⟨(Lib.decDigits (numV s a 10 N)).toArray⟩, .int .i64 0, .bool false]) ∧ Cur w' c s st (a + N) m ∧ w.grownBy w' (some c) := by
  have hlt := hc.lt
  have hsz := hR.size
  obtain ⟨wx, hwx⟩ : ∃ wx, wx = w.alloc (.cells #[.int .i64 0, .string ⟨#[]⟩, .int .i64 0, .bool false] 34) := ⟨_, rfl⟩
  have HGx : Hid (w.grownBy wx (some c)) := by rw [hwx]; exact World.grownBy_alloc w _ _
  have HCx : Hid (Cur wx c s st a m) := by rw [hwx]; exact hc.kept (World.grownBy_alloc w _ none) (by simp)
  have HRx : Hid (Res wx w.heap.size) := by rw [hwx]; exact Res.new w
  have HTx : Hid (Pow10 wx) := by rw [hwx]; exact tabIs_grown pow10_at ht (World.grownBy_alloc w _ none) (by simp)
  have HWx := Lib.hid hwx
  have HR := Lib.hid hR
  have HV := Lib.hid hv
  have H0 := Lib.hid h0
  have HBn := Lib.hid hb
  have HP := Lib.hid hp
  have HP1 := Lib.hid hp1
  have hu64 : numV s a 10 N < 18446744073709551616 := by have := hv N (Nat.le_refl _); omega
  obtain ⟨u, hu⟩ : ∃ u, u = numV s a 10 N := ⟨_, rfl⟩
  rw [← hu] at h1 hu64
  have HU := Lib.hid hu
  clear hc hwx hR hv h0 ht hu hb hp hp1
  go_enter Tryz.func51, Tryz.ntmps51
  go_upto_region 2 with (fail)
  rw [← HWx.out]
  go_upto_region 4 with (go_at_call 42; refine (has_any s zx c a _ (by omega) HCx.out.text HCx.out.pos).mono ?_; rintro e w' ⟨he, n, rfl⟩; rw [H0.out] at he; subst he)
  go_upto_region 6 with (go_at_call 42; refine (has_any s zb c a _ (by omega) (HCx.out.drew n).text (HCx.out.drew n).pos).mono ?_; rintro e w' ⟨he, n', rfl⟩; rw [HBn.out] at he; subst he)
  go_wp2_with (go_at_call 73; refine (some_any _ s st a m c N 10 hs (by omega) HR.out hN HV.out (HCx.out.drew _)).mono ?_; rintro e w1 ⟨rfl, hC1, hg1⟩; rw [← HU.out])
  refine (fraction_none _ c s st (a + N) m (hC1.kept (World.grownBy_alloc w1 _ none) (by simp)) hs (by omega) HP.out HP1.out).mono ?_
  rintro e w' ⟨rfl, n4, rfl⟩
  have HG2 : Hid (wx.grownBy ((w1.alloc (.cells #[.int .u64 0, .int .u64 u] 98)).drewN n4) (some c)) := (((grown_drewN wx _ _).trans hg1).trans (World.grownBy_alloc _ _ _)).trans (grown_drewN _ _ _)
  go_wp2_with fail
  refine (wideText_any u h1 hu64 _ (tabIs_grown pow10_at HTx.out HG2.out (by intro e; exact hcg (Option.some.inj e).symm))).mono ?_
  rintro e w2 ⟨rfl, hg2⟩
  have HG3 : Hid (wx.grownBy w2 (some c)) := HG2.out.trans (grown_row hg2 c)
  have HR2 : Hid (Res w2 w.heap.size) := HRx.out.kept HG3.out (by intro e; have := Option.some.inj e; omega)
  have HC2 : Hid (Cur w2 c s st (a + N) m) := ((hC1.kept (World.grownBy_alloc w1 _ none) (by simp)).drew n4).kept hg2 (by simp)
  clear hg2 hg1 hC1
  have r0 := HR2.out.c0
  have r1 := HR2.out.c1
  have r2 := HR2.out.c2
  have r3 := HR2.out.c3
  have g0 := HR2.out.free 0
  have g1 := HR2.out.free 1
  have g2 := HR2.out.free 2
  have g3 := HR2.out.free 3
  go_wp2_with fail
  refine bodyPost_ret (v := .agg #[.int .i64 3, .string ⟨(Lib.decDigits u).toArray⟩, .int .i64 0, .bool false]) (by simp [results, Tryz.results51, go_sem, r0, r1, r2, r3]) rfl ⟨?_, ?_, ?_⟩
  · rw [← HU.out]
  · exact cur_res HC2.out (by omega) _ _ _ _
  · exact grown_res (HGx.out.trans HG3.out) _ _ _ _

end Tk
end Go.Proofs.YtlpcpnbjpbhlgaaGreatDoor
