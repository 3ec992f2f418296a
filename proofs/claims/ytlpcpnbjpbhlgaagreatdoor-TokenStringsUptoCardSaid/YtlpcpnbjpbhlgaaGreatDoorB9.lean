/- Numbers: behind them stands no letter, digit or underscore. -/
import Derived.Test.YtlpcpnbjpbhlgaaGreatDoorB8
namespace Go.Proofs.YtlpcpnbjpbhlgaaGreatDoor
open Go.ChangeShapes Go.WideShapes Go.ChangeAt Go.RowKit Go.WideMaps Go.Maps
namespace Tk

theorem closed_any (w : World) (c : Nat) (f : Fn) (lb : Array Value) :
    Calls Tryz.prog 49 #[.pointer (some ⟨c, 0, none⟩), .func f #[] lb] w fun e w' =>
      e = .returned (.func (.func 72) #[] #[.pointer (some ⟨w.heap.size + 1, 0, none⟩), .pointer (some ⟨w.heap.size, 0, none⟩)]) ∧
      w'.cell? ⟨w.heap.size + 1, 0, none⟩ = some (.func f #[] lb) ∧ w'.cell? ⟨w.heap.size, 0, none⟩ = some (.pointer (some ⟨c, 0, none⟩)) ∧ w'.heap.size = w.heap.size + 2 ∧ w.grownBy w' none := by
  have hmf : ∀ (fn : Fn) (first cap : Array Value) (w : World), (Instr.makeFunc fn first cap).run Tryz.prog w = .ok (.func fn first cap) w := fun _ _ _ _ => rfl
  go_enter Tryz.func49, Tryz.ntmps49
  go_wp2
  go_ret
  have h0 : Boxed ((w.alloc (.cells #[.pointer (some ⟨c, 0, none⟩)] 54)).alloc (.cells #[.func f #[] lb] 59)) w.heap.size 54 (.pointer (some ⟨c, 0, none⟩)) := (Boxed.new w _ _).alloc _
  have h1 := Boxed.new (w.alloc (.cells #[.pointer (some ⟨c, 0, none⟩)] 54)) 59 (.func f #[] lb)
  rw [World.size_alloc] at h1
  exact ⟨rfl, h1.cell, h0.cell, by simp, (World.grownBy_alloc w _ none).trans (World.grownBy_alloc _ _ none)⟩

set_option maxHeartbeats 2000000 in
theorem closedNumber (w : World) (bf bc b2 c : Nat) (s : ByteArray) (st a m q : Nat) (k : Int) (tx : ByteArray) (hs : s.size ≤ 20000) (hq : q ≤ s.size)
    (hf : w.cell? ⟨bf, 0, none⟩ = some (.func (.func 50) #[] #[.pointer (some ⟨b2, 0, none⟩)])) (hb : w.cell? ⟨bc, 0, none⟩ = some (.pointer (some ⟨c, 0, none⟩))) (h2 : w.cell? ⟨b2, 0, none⟩ = some (.pointer (some ⟨c, 0, none⟩))) (hbc : bc ≠ c) (hc : Cur w c s st a m)
    (hp : partB (byteAt s q) = false)
    (hcall : ∀ w1 : World, w.grownBy w1 none → Cur w1 c s st a m → Calls Tryz.prog 51 #[.pointer (some ⟨c, 0, none⟩)] w1 fun e w' => e = .returned (tokV k tx) ∧ Cur w' c s st q m ∧ w1.grownBy w' (some c)) :
    Calls Tryz.prog 72 #[.pointer (some ⟨bf, 0, none⟩), .pointer (some ⟨bc, 0, none⟩)] w fun e w' => e = .returned (tokV k tx) ∧ Cur w' c s st q m ∧ w.grownBy w' (some c) := by
  have hlt := hc.lt
  have hbl := lt_cell hb
  obtain ⟨wx, hwx, hbx, hcx, hrx, hgx⟩ := res_start hb hc
  have hfx : wx.cell? ⟨bf, 0, none⟩ = some (.func (.func 50) #[] #[.pointer (some ⟨b2, 0, none⟩)]) := cell_grown hf hgx (by simp)
  have HX := Lib.hid (closure2 wx b2 c s st a m q k tx (cell_grown h2 hgx (by simp)) hcx (fun w1 g1 c1 => hcall w1 (hgx.trans g1) c1))
  have HRx := Lib.hid hrx
  have HGx := Lib.hid hgx
  have HWx := Lib.hid hwx
  have HBx := Lib.hid hbx
  have HP := Lib.hid hp
  have hsx : wx.heap.size = w.heap.size + 1 := by rw [hwx]; simp
  clear hcall hb hc hwx hcx hrx hgx h2 hf hbx hp
  go_enter Tryz.func72, Tryz.ntmps72
  go_upto_region 1 with (fail)
  rw [← HWx.out]
  go_wp2_with fail
  refine HX.out.mono ?_
  rintro e w2 ⟨rfl, hc2, hg2⟩
  have HC2 := Lib.hid hc2
  have HG2 := Lib.hid hg2
  have HR2 : Hid (Res w2 w.heap.size) := HRx.out.kept hg2 (by intro e; have := Option.some.inj e; omega)
  have hb2 : w2.cell? ⟨bc, 0, none⟩ = some (.pointer (some ⟨c, 0, none⟩)) := cell_grown HBx.out hg2 (by intro e; exact hbc (Option.some.inj e))
  have hz2 := hg2.size
  clear hc2 hg2 hfx
  obtain ⟨wy, hwy⟩ : ∃ wy, wy = w2.alloc (.cells #[.int .i64 k, .string tx, .int .i64 0, .bool false] 34) := ⟨_, rfl⟩
  have hgy : w2.grownBy wy none := by rw [hwy]; exact World.grownBy_alloc w2 _ none
  have hby : wy.heap[w2.heap.size]? = some (.cells #[.int .i64 k, .string tx, .int .i64 0, .bool false] 34) := by rw [hwy]; exact World.alloc_heap_new w2 _
  have HCy := Lib.hid (HC2.out.kept hgy (by simp))
  have HRy : Hid (Res wy w.heap.size) := HR2.out.kept hgy (by simp)
  have b2 : wy.cell? ⟨bc, 0, none⟩ = some (.pointer (some ⟨c, 0, none⟩)) := cell_grown hb2 hgy (by simp)
  have s0 : wy.cell? ⟨w2.heap.size, 0, none⟩ = some (.int .i64 k) := by rw [Lib.cell_of_heap hby]; rfl
  have s1 : wy.cell? ⟨w2.heap.size, 1, none⟩ = some (.string tx) := by rw [Lib.cell_of_heap hby]; rfl
  have s2 : wy.cell? ⟨w2.heap.size, 2, none⟩ = some (.int .i64 0) := by rw [Lib.cell_of_heap hby]; rfl
  have s3 : wy.cell? ⟨w2.heap.size, 3, none⟩ = some (.bool false) := by rw [Lib.cell_of_heap hby]; rfl
  have HGy := Lib.hid (((grown_row HGx.out c).trans HG2.out).trans (grown_row hgy c))
  have HWy := Lib.hid hwy
  clear hwy hgy hby hb2
  have r0 := HRy.out.c0
  have r1 := HRy.out.c1
  have r2 := HRy.out.c2
  have r3 := HRy.out.c3
  have g0 := HRy.out.free 0
  have g1 := HRy.out.free 1
  have g2 := HRy.out.free 2
  have g3 := HRy.out.free 3
  have ht : tokV k tx = .agg #[.int .i64 k, .string tx, .int .i64 0, .bool false] := rfl
  rw [ht]
  go_upto_region 2 with (fail)
  rw [← HWy.out]
  go_wp2_with (first | (go_at_call 71; refine (peek0 s q c _ hs (by omega) HCy.out.text HCy.out.pos).mono ?_; rintro e w' ⟨rfl, n, rfl⟩) | (go_at_call 34; refine (isPart_any _ _).mono ?_; rintro e w' ⟨he, rfl⟩; rw [HP.out] at he; subst he))
  exact bodyPost_ret (v := .agg #[.int .i64 k, .string tx, .int .i64 0, .bool false]) (by simp [results, Tryz.results72, go_sem, r0, r1, r2, r3]) rfl ⟨rfl, cur_res (HCy.out.drew n) (by omega) _ _ _ _, grown_res (HGy.out.trans (grown_drewN _ _ _)) _ _ _ _⟩

end Tk
end Go.Proofs.YtlpcpnbjpbhlgaaGreatDoor
