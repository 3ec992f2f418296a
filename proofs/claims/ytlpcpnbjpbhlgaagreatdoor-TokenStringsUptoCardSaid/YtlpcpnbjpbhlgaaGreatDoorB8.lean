/- The closures that read a token. -/
import Derived.Test.YtlpcpnbjpbhlgaaGreatDoorB5
import Derived.Test.YtlpcpnbjpbhlgaaGreatDoorB7
import Derived.Test.YtlpcpnbjpbhlgaaGreatDoorA8
namespace Go.Proofs.YtlpcpnbjpbhlgaaGreatDoor
open Go.ChangeShapes Go.WideShapes Go.ChangeAt Go.RowKit Go.WideMaps Go.Maps
namespace Tk

/-- A token of a kind, with a text, as a reader hands it back. -/
def tokV (k : Int) (tx : ByteArray) : Value := .agg #[.int .i64 k, .string tx, .int .i64 0, .bool false]

theorem res_start {w : World} {bc c : Nat} {s : ByteArray} {st a m : Nat} (hb : w.cell? ⟨bc, 0, none⟩ = some (.pointer (some ⟨c, 0, none⟩))) (hc : Cur w c s st a m) :
    ∃ wx, wx = w.alloc (.cells #[.int .i64 0, .string ⟨#[]⟩, .int .i64 0, .bool false] 34) ∧ wx.cell? ⟨bc, 0, none⟩ = some (.pointer (some ⟨c, 0, none⟩)) ∧ Cur wx c s st a m ∧ Res wx w.heap.size ∧ w.grownBy wx none :=
  ⟨_, rfl, cell_grown hb (World.grownBy_alloc w _ none) (by simp), hc.kept (World.grownBy_alloc w _ none) (by simp), Res.new w, World.grownBy_alloc w _ none⟩

set_option maxHeartbeats 1000000 in
/-- The closure that reads a word. -/
theorem closure1 (w : World) (bc c : Nat) (s : ByteArray) (st a m q : Nat) (k : Int) (tx : ByteArray) (hb : w.cell? ⟨bc, 0, none⟩ = some (.pointer (some ⟨c, 0, none⟩))) (hc : Cur w c s st a m)
    (hcall : ∀ w1 : World, w.grownBy w1 none → Cur w1 c s st a m → Calls Tryz.prog 48 #[.pointer (some ⟨c, 0, none⟩)] w1 fun e w' => e = .returned (tokV k tx) ∧ Cur w' c s st q m ∧ w1.grownBy w' (some c)) :
    Calls Tryz.prog 47 #[.pointer (some ⟨bc, 0, none⟩)] w fun e w' => e = .returned (tokV k tx) ∧ Cur w' c s st q m ∧ w.grownBy w' (some c) := by
  have hlt := hc.lt
  obtain ⟨wx, hwx, hbx, hcx, hrx, hgx⟩ := res_start hb hc
  have HX := Lib.hid (hcall wx hgx hcx)
  have HRx := Lib.hid hrx
  have HGx := Lib.hid hgx
  have HWx := Lib.hid hwx
  clear hcall hb hc hwx hcx hrx hgx
  go_enter Tryz.func47, Tryz.ntmps47
  go_upto_region 1 with (fail)
  rw [← HWx.out]
  go_wp2_with fail
  refine HX.out.mono ?_
  rintro e w2 ⟨rfl, hc2, hg2⟩
  have HC2 := Lib.hid hc2
  have HG2 := Lib.hid hg2
  have HR2 : Hid (Res w2 w.heap.size) := HRx.out.kept hg2 (by intro e; have := Option.some.inj e; omega)
  clear hc2 hg2
  have r0 := HR2.out.c0
  have r1 := HR2.out.c1
  have r2 := HR2.out.c2
  have r3 := HR2.out.c3
  have g0 := HR2.out.free 0
  have g1 := HR2.out.free 1
  have g2 := HR2.out.free 2
  have g3 := HR2.out.free 3
  have ht : tokV k tx = .agg #[.int .i64 k, .string tx, .int .i64 0, .bool false] := rfl
  try rw [ht]
  go_wp2_with fail
  exact bodyPost_ret (v := .agg #[.int .i64 k, .string tx, .int .i64 0, .bool false]) (by simp [results, Tryz.results47, go_sem, r0, r1, r2, r3]) rfl ⟨rfl, cur_res HC2.out (by omega) _ _ _ _, grown_res ((grown_row HGx.out c).trans HG2.out) _ _ _ _⟩

set_option maxHeartbeats 1000000 in
/-- The closure that reads a number. -/
theorem closure2 (w : World) (bc c : Nat) (s : ByteArray) (st a m q : Nat) (k : Int) (tx : ByteArray) (hb : w.cell? ⟨bc, 0, none⟩ = some (.pointer (some ⟨c, 0, none⟩))) (hc : Cur w c s st a m)
    (hcall : ∀ w1 : World, w.grownBy w1 none → Cur w1 c s st a m → Calls Tryz.prog 51 #[.pointer (some ⟨c, 0, none⟩)] w1 fun e w' => e = .returned (tokV k tx) ∧ Cur w' c s st q m ∧ w1.grownBy w' (some c)) :
    Calls Tryz.prog 50 #[.pointer (some ⟨bc, 0, none⟩)] w fun e w' => e = .returned (tokV k tx) ∧ Cur w' c s st q m ∧ w.grownBy w' (some c) := by
  have hlt := hc.lt
  obtain ⟨wx, hwx, hbx, hcx, hrx, hgx⟩ := res_start hb hc
  have HX := Lib.hid (hcall wx hgx hcx)
  have HRx := Lib.hid hrx
  have HGx := Lib.hid hgx
  have HWx := Lib.hid hwx
  clear hcall hb hc hwx hcx hrx hgx
  go_enter Tryz.func50, Tryz.ntmps50
  go_upto_region 1 with (fail)
  rw [← HWx.out]
  go_wp2_with fail
  refine HX.out.mono ?_
  rintro e w2 ⟨rfl, hc2, hg2⟩
  have HC2 := Lib.hid hc2
  have HG2 := Lib.hid hg2
  have HR2 : Hid (Res w2 w.heap.size) := HRx.out.kept hg2 (by intro e; have := Option.some.inj e; omega)
  clear hc2 hg2
  have r0 := HR2.out.c0
  have r1 := HR2.out.c1
  have r2 := HR2.out.c2
  have r3 := HR2.out.c3
  have g0 := HR2.out.free 0
  have g1 := HR2.out.free 1
  have g2 := HR2.out.free 2
  have g3 := HR2.out.free 3
  have ht : tokV k tx = .agg #[.int .i64 k, .string tx, .int .i64 0, .bool false] := rfl
  try rw [ht]
  go_wp2_with fail
  exact bodyPost_ret (v := .agg #[.int .i64 k, .string tx, .int .i64 0, .bool false]) (by simp [results, Tryz.results50, go_sem, r0, r1, r2, r3]) rfl ⟨rfl, cur_res HC2.out (by omega) _ _ _ _, grown_res ((grown_row HGx.out c).trans HG2.out) _ _ _ _⟩

set_option maxHeartbeats 1000000 in
/-- The closure that reads a symbol. -/
theorem closure6 (w : World) (bc c : Nat) (s : ByteArray) (st a m q : Nat) (k : Int) (tx : ByteArray) (hb : w.cell? ⟨bc, 0, none⟩ = some (.pointer (some ⟨c, 0, none⟩))) (hc : Cur w c s st a m)
    (hcall : ∀ w1 : World, w.grownBy w1 none → Cur w1 c s st a m → Calls Tryz.prog 59 #[.pointer (some ⟨c, 0, none⟩)] w1 fun e w' => e = .returned (tokV k tx) ∧ Cur w' c s st q m ∧ w1.grownBy w' (some c)) :
    Calls Tryz.prog 58 #[.pointer (some ⟨bc, 0, none⟩)] w fun e w' => e = .returned (tokV k tx) ∧ Cur w' c s st q m ∧ w.grownBy w' (some c) := by
  have hlt := hc.lt
  obtain ⟨wx, hwx, hbx, hcx, hrx, hgx⟩ := res_start hb hc
  have HX := Lib.hid (hcall wx hgx hcx)
  have HRx := Lib.hid hrx
  have HGx := Lib.hid hgx
  have HWx := Lib.hid hwx
  clear hcall hb hc hwx hcx hrx hgx
  go_enter Tryz.func58, Tryz.ntmps58
  go_upto_region 1 with (fail)
  rw [← HWx.out]
  go_wp2_with fail
  refine HX.out.mono ?_
  rintro e w2 ⟨rfl, hc2, hg2⟩
  have HC2 := Lib.hid hc2
  have HG2 := Lib.hid hg2
  have HR2 : Hid (Res w2 w.heap.size) := HRx.out.kept hg2 (by intro e; have := Option.some.inj e; omega)
  clear hc2 hg2
  have r0 := HR2.out.c0
  have r1 := HR2.out.c1
  have r2 := HR2.out.c2
  have r3 := HR2.out.c3
  have g0 := HR2.out.free 0
  have g1 := HR2.out.free 1
  have g2 := HR2.out.free 2
  have g3 := HR2.out.free 3
  have ht : tokV k tx = .agg #[.int .i64 k, .string tx, .int .i64 0, .bool false] := rfl
  try rw [ht]
  go_wp2_with fail
  exact bodyPost_ret (v := .agg #[.int .i64 k, .string tx, .int .i64 0, .bool false]) (by simp [results, Tryz.results58, go_sem, r0, r1, r2, r3]) rfl ⟨rfl, cur_res HC2.out (by omega) _ _ _ _, grown_res ((grown_row HGx.out c).trans HG2.out) _ _ _ _⟩

set_option maxHeartbeats 1000000 in
/-- The closure that reads a string on one line. -/
theorem closure5 (w : World) (bc c : Nat) (s : ByteArray) (st a m q : Nat) (tx : ByteArray) (hb : w.cell? ⟨bc, 0, none⟩ = some (.pointer (some ⟨c, 0, none⟩))) (hc : Cur w c s st a m)
    (hcall : ∀ w1 : World, w.grownBy w1 none → Cur w1 c s st a m → Calls Tryz.prog 57 #[.pointer (some ⟨c, 0, none⟩)] w1 fun e w' => e = .returned (.string tx) ∧ Cur w' c s st q m ∧ w1.grownBy w' (some c)) :
    Calls Tryz.prog 56 #[.pointer (some ⟨bc, 0, none⟩)] w fun e w' => e = .returned (tokV 5 tx) ∧ Cur w' c s st q m ∧ w.grownBy w' (some c) := by
  have hlt := hc.lt
  obtain ⟨wx, hwx, hbx, hcx, hrx, hgx⟩ := res_start hb hc
  have HX := Lib.hid (hcall wx hgx hcx)
  have HRx := Lib.hid hrx
  have HGx := Lib.hid hgx
  have HWx := Lib.hid hwx
  clear hcall hb hc hwx hcx hrx hgx
  go_enter Tryz.func56, Tryz.ntmps56
  go_upto_region 1 with (fail)
  rw [← HWx.out]
  go_wp2_with fail
  refine HX.out.mono ?_
  rintro e w2 ⟨rfl, hc2, hg2⟩
  have HC2 := Lib.hid hc2
  have HG2 := Lib.hid hg2
  have HR2 : Hid (Res w2 w.heap.size) := HRx.out.kept hg2 (by intro e; have := Option.some.inj e; omega)
  clear hc2 hg2
  have r0 := HR2.out.c0
  have r1 := HR2.out.c1
  have r2 := HR2.out.c2
  have r3 := HR2.out.c3
  have g0 := HR2.out.free 0
  have g1 := HR2.out.free 1
  have g2 := HR2.out.free 2
  have g3 := HR2.out.free 3
  have ht : tokV 5 tx = .agg #[.int .i64 5, .string tx, .int .i64 0, .bool false] := rfl
  try rw [ht]
  go_wp2_with fail
  exact bodyPost_ret (v := .agg #[.int .i64 5, .string tx, .int .i64 0, .bool false]) (by simp [results, Tryz.results56, go_sem, r0, r1, r2, r3]) rfl ⟨rfl, cur_res HC2.out (by omega) _ _ _ _, grown_res ((grown_row HGx.out c).trans HG2.out) _ _ _ _⟩

end Tk
end Go.Proofs.YtlpcpnbjpbhlgaaGreatDoor
