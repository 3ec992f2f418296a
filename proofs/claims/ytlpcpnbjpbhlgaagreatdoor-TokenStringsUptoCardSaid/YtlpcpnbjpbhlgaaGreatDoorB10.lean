/- Which closure reads the token at the cursor. -/
import Derived.Test.YtlpcpnbjpbhlgaaGreatDoorB9
namespace Go.Proofs.YtlpcpnbjpbhlgaaGreatDoor
open Go.ChangeShapes Go.WideShapes Go.ChangeAt Go.RowKit Go.WideMaps Go.Maps
namespace Tk

def quote3 : ByteArray := ⟨#[34, 34, 34]⟩

theorem reader_start (w : World) (c : Nat) (s : ByteArray) (st p m : Nat) (hc : Cur w c s st p m) :
    ∃ wx wy, wx = w.alloc (.cells #[.pointer (some ⟨c, 0, none⟩)] 54) ∧ wx.cell? ⟨w.heap.size, 0, none⟩ = some (.pointer (some ⟨c, 0, none⟩)) ∧ Cur wx c s st p m ∧
      wy = wx.setCell ⟨c, 1, none⟩ (.int .i64 p) ∧ wy.cell? ⟨w.heap.size, 0, none⟩ = some (.pointer (some ⟨c, 0, none⟩)) ∧ Cur wy c s p p m ∧ w.grownBy wy (some c) := by
  have hlt := hc.lt
  have hb := (Boxed.new w 54 (.pointer (some ⟨c, 0, none⟩))).cell
  have hx := hc.kept (World.grownBy_alloc w (.cells #[.pointer (some ⟨c, 0, none⟩)] 54) none) (by simp)
  have hg : (w.alloc (.cells #[.pointer (some ⟨c, 0, none⟩)] 54)).grownBy ((w.alloc (.cells #[.pointer (some ⟨c, 0, none⟩)] 54)).setCell ⟨c, 1, none⟩ (.int .i64 p)) (some c) := grown_set _ ⟨c, 1, none⟩ _
  exact ⟨_, _, rfl, hb, hx, rfl, cell_grown hb hg (by intro e; have := Option.some.inj e; simp at this; omega), hx.begin p, (World.grownBy_alloc w _ _).trans hg⟩

set_option maxHeartbeats 2000000 in
theorem reader_word (w : World) (c : Nat) (s : ByteArray) (st p m : Nat) (hc : Cur w c s st p m) (hs : s.size ≤ 20000) (hp : p < s.size) (hl : letB (byteAt s p) = true) :
    Calls Tryz.prog 29 #[.pointer (some ⟨c, 0, none⟩)] w fun e w' => e = .returned (.func (.func 47) #[] #[.pointer (some ⟨w.heap.size, 0, none⟩)]) ∧ w'.cell? ⟨w.heap.size, 0, none⟩ = some (.pointer (some ⟨c, 0, none⟩)) ∧ Cur w' c s p p m ∧ w.grownBy w' (some c) := by
  have hlt := hc.lt
  obtain ⟨wx, wy, hwx, hbx, hcx, hwy, hby, hcy, hgy⟩ := reader_start w c s st p m hc
  have hmf : ∀ (fn : Fn) (first cap : Array Value) (w : World), (Instr.makeFunc fn first cap).run Tryz.prog w = .ok (.func fn first cap) w := fun _ _ _ _ => rfl
  have HB : Hid (byteAt s p = (s[p]'hp).toNat) := by show _ = _; simp [byteAt, hp]
  have HL : Hid (letB ((s[p]'hp).toNat : Int) = true) := by show _ = _; rw [← HB.out]; exact hl
  clear hl
  have HCy := Lib.hid hcy
  have HGy := Lib.hid hgy
  have HWx := Lib.hid hwx
  have HWy := Lib.hid hwy
  have HBy := Lib.hid hby
  have i1 : (p : Int) < s.size := by omega
  have i0 : (0 : Int) ≤ p := by omega
  have c2 := hcx.pos
  have f1 := hcx.free 1
  have c1 := hcx.start
  clear hc hwx hwy hcx hcy hgy hby
  go_enter Tryz.func29, Tryz.ntmps29
  go_upto_region 1 with (fail)
  rw [← HWx.out]
  go_region
  rw [← HWy.out]
  obtain ⟨wz, hwz⟩ : ∃ wz, wz = wy.drew := ⟨_, rfl⟩
  have HCz : Hid (Cur wz c s p p m) := by rw [hwz]; exact HCy.out.drew 1
  have HGz : Hid (w.grownBy wz (some c)) := by rw [hwz]; exact HGy.out.trans (grown_drewN _ 1 _)
  have HBz : Hid (wz.cell? ⟨w.heap.size, 0, none⟩ = some (.pointer (some ⟨c, 0, none⟩))) := by rw [hwz]; exact HBy.out
  rw [← hwz]
  clear hwz c2 f1 c1 hbx
  have c0 := HCz.out.text
  have c2 := HCz.out.pos
  have hbz := HBz.out
  have hsz := HGz.out.size
  go_wp2_with fail
  go_quiet (fail)
  clear c0
  go_wp2_with (go_at_call 46; refine (isLetter_any _ _).mono ?_; rintro e w' ⟨he, rfl⟩; rw [HL.out] at he; subst he)
  go_ret
  exact ⟨rfl, HBz.out, HCz.out.drew _, HGz.out.trans (grown_drewN _ _ _)⟩

set_option maxHeartbeats 2000000 in
theorem reader_line (w : World) (c : Nat) (s : ByteArray) (st p m : Nat) (hc : Cur w c s st p m) (hs : s.size ≤ 20000) (hp : p < s.size) (hl : letB (byteAt s p) = false) (hd : digB (byteAt s p) = false) (h95 : byteAt s p ≠ 95) (h39 : byteAt s p ≠ 39) (h34 : byteAt s p = 34) (h3 : Lib.hasPrefix (s.extract p s.size).data.toList quote3.data.toList = false) :
    Calls Tryz.prog 29 #[.pointer (some ⟨c, 0, none⟩)] w fun e w' => e = .returned (.func (.func 56) #[] #[.pointer (some ⟨w.heap.size, 0, none⟩)]) ∧ w'.cell? ⟨w.heap.size, 0, none⟩ = some (.pointer (some ⟨c, 0, none⟩)) ∧ Cur w' c s p p m ∧ w.grownBy w' (some c) := by
  have hlt := hc.lt
  obtain ⟨wx, wy, hwx, hbx, hcx, hwy, hby, hcy, hgy⟩ := reader_start w c s st p m hc
  have hmf : ∀ (fn : Fn) (first cap : Array Value) (w : World), (Instr.makeFunc fn first cap).run Tryz.prog w = .ok (.func fn first cap) w := fun _ _ _ _ => rfl
  have HB : Hid (byteAt s p = (s[p]'hp).toNat) := by show _ = _; simp [byteAt, hp]
  have HL : Hid (letB ((s[p]'hp).toNat : Int) = false) := by show _ = _; rw [← HB.out]; exact hl
  have HD : Hid (digB ((s[p]'hp).toNat : Int) = false) := by show _ = _; rw [← HB.out]; exact hd
  have n95 : (((s[p]'hp).toNat : Int) == 95) = false := by rw [← HB.out]; simpa using h95
  have n39 : (((s[p]'hp).toNat : Int) == 39) = false := by rw [← HB.out]; simpa using h39
  have n34 : (((s[p]'hp).toNat : Int) == 34) = true := by rw [← HB.out]; rw [h34]; rfl
  have H3 := Lib.hid h3
  clear hl hd h95 h39 h34 h3
  have HCy := Lib.hid hcy
  have HGy := Lib.hid hgy
  have HWx := Lib.hid hwx
  have HWy := Lib.hid hwy
  have HBy := Lib.hid hby
  have i1 : (p : Int) < s.size := by omega
  have i0 : (0 : Int) ≤ p := by omega
  have c2 := hcx.pos
  have f1 := hcx.free 1
  have c1 := hcx.start
  clear hc hwx hwy hcx hcy hgy hby
  go_enter Tryz.func29, Tryz.ntmps29
  go_upto_region 1 with (fail)
  rw [← HWx.out]
  go_region
  rw [← HWy.out]
  obtain ⟨wz, hwz⟩ : ∃ wz, wz = wy.drew := ⟨_, rfl⟩
  have HCz : Hid (Cur wz c s p p m) := by rw [hwz]; exact HCy.out.drew 1
  have HGz : Hid (w.grownBy wz (some c)) := by rw [hwz]; exact HGy.out.trans (grown_drewN _ 1 _)
  have HBz : Hid (wz.cell? ⟨w.heap.size, 0, none⟩ = some (.pointer (some ⟨c, 0, none⟩))) := by rw [hwz]; exact HBy.out
  rw [← hwz]
  clear hwz c2 f1 c1 hbx
  have c0 := HCz.out.text
  have c2 := HCz.out.pos
  have hbz := HBz.out
  have hsz := HGz.out.size
  go_wp2_with fail
  go_quiet (fail)
  clear c0
  go_wp2_with (first | (go_at_call 46; refine (isLetter_any _ _).mono ?_; rintro e w' ⟨he, rfl⟩; rw [HL.out] at he; subst he) | (go_at_call 33; refine (isDigit_any _ _).mono ?_; rintro e w' ⟨he, rfl⟩; rw [HD.out] at he; subst he) | (go_at_call 42; refine (has_any s quote3 c p _ (by omega) (HCz.out.drew _).text (HCz.out.drew _).pos).mono ?_; rintro e w' ⟨he, n3, rfl⟩; rw [H3.out] at he; subst he))
  go_ret
  exact ⟨rfl, HBz.out, HCz.out.drew _, HGz.out.trans (grown_drewN _ _ _)⟩

set_option maxHeartbeats 2000000 in
theorem reader_symbol (w : World) (c : Nat) (s : ByteArray) (st p m : Nat) (hc : Cur w c s st p m) (hs : s.size ≤ 20000) (hp : p < s.size) (hl : letB (byteAt s p) = false) (hd : digB (byteAt s p) = false) (h95 : byteAt s p ≠ 95) (h39 : byteAt s p ≠ 39) (h34 : byteAt s p ≠ 34) (h3 : Lib.hasPrefix (s.extract p s.size).data.toList quote3.data.toList = false) :
    Calls Tryz.prog 29 #[.pointer (some ⟨c, 0, none⟩)] w fun e w' => e = .returned (.func (.func 58) #[] #[.pointer (some ⟨w.heap.size, 0, none⟩)]) ∧ w'.cell? ⟨w.heap.size, 0, none⟩ = some (.pointer (some ⟨c, 0, none⟩)) ∧ Cur w' c s p p m ∧ w.grownBy w' (some c) := by
  have hlt := hc.lt
  obtain ⟨wx, wy, hwx, hbx, hcx, hwy, hby, hcy, hgy⟩ := reader_start w c s st p m hc
  have hmf : ∀ (fn : Fn) (first cap : Array Value) (w : World), (Instr.makeFunc fn first cap).run Tryz.prog w = .ok (.func fn first cap) w := fun _ _ _ _ => rfl
  have HB : Hid (byteAt s p = (s[p]'hp).toNat) := by show _ = _; simp [byteAt, hp]
  have HL : Hid (letB ((s[p]'hp).toNat : Int) = false) := by show _ = _; rw [← HB.out]; exact hl
  have HD : Hid (digB ((s[p]'hp).toNat : Int) = false) := by show _ = _; rw [← HB.out]; exact hd
  have n95 : (((s[p]'hp).toNat : Int) == 95) = false := by rw [← HB.out]; simpa using h95
  have n39 : (((s[p]'hp).toNat : Int) == 39) = false := by rw [← HB.out]; simpa using h39
  have n34 : (((s[p]'hp).toNat : Int) == 34) = false := by rw [← HB.out]; simpa using h34
  have H3 := Lib.hid h3
  clear hl hd h95 h39 h34 h3
  have HCy := Lib.hid hcy
  have HGy := Lib.hid hgy
  have HWx := Lib.hid hwx
  have HWy := Lib.hid hwy
  have HBy := Lib.hid hby
  have i1 : (p : Int) < s.size := by omega
  have i0 : (0 : Int) ≤ p := by omega
  have c2 := hcx.pos
  have f1 := hcx.free 1
  have c1 := hcx.start
  clear hc hwx hwy hcx hcy hgy hby
  go_enter Tryz.func29, Tryz.ntmps29
  go_upto_region 1 with (fail)
  rw [← HWx.out]
  go_region
  rw [← HWy.out]
  obtain ⟨wz, hwz⟩ : ∃ wz, wz = wy.drew := ⟨_, rfl⟩
  have HCz : Hid (Cur wz c s p p m) := by rw [hwz]; exact HCy.out.drew 1
  have HGz : Hid (w.grownBy wz (some c)) := by rw [hwz]; exact HGy.out.trans (grown_drewN _ 1 _)
  have HBz : Hid (wz.cell? ⟨w.heap.size, 0, none⟩ = some (.pointer (some ⟨c, 0, none⟩))) := by rw [hwz]; exact HBy.out
  rw [← hwz]
  clear hwz c2 f1 c1 hbx
  have c0 := HCz.out.text
  have c2 := HCz.out.pos
  have hbz := HBz.out
  have hsz := HGz.out.size
  go_wp2_with fail
  go_quiet (fail)
  clear c0
  go_wp2_with (first | (go_at_call 46; refine (isLetter_any _ _).mono ?_; rintro e w' ⟨he, rfl⟩; rw [HL.out] at he; subst he) | (go_at_call 33; refine (isDigit_any _ _).mono ?_; rintro e w' ⟨he, rfl⟩; rw [HD.out] at he; subst he) | (go_at_call 42; refine (has_any s quote3 c p _ (by omega) (HCz.out.drew _).text (HCz.out.drew _).pos).mono ?_; rintro e w' ⟨he, n3, rfl⟩; rw [H3.out] at he; subst he))
  go_ret
  exact ⟨rfl, HBz.out, HCz.out.drew _, HGz.out.trans (grown_drewN _ _ _)⟩

set_option maxHeartbeats 2000000 in
theorem reader_number (w : World) (c : Nat) (s : ByteArray) (st p m : Nat) (hc : Cur w c s st p m) (hs : s.size ≤ 20000) (hp : p < s.size) (hl : letB (byteAt s p) = false) (hd : digB (byteAt s p) = true) (h95 : byteAt s p ≠ 95) :
    Calls Tryz.prog 29 #[.pointer (some ⟨c, 0, none⟩)] w fun e w' => ∃ bf bc : Nat, e = .returned (.func (.func 72) #[] #[.pointer (some ⟨bf, 0, none⟩), .pointer (some ⟨bc, 0, none⟩)]) ∧ w'.cell? ⟨bf, 0, none⟩ = some (.func (.func 50) #[] #[.pointer (some ⟨w.heap.size, 0, none⟩)]) ∧ w'.cell? ⟨bc, 0, none⟩ = some (.pointer (some ⟨c, 0, none⟩)) ∧ w.heap.size ≤ bc ∧ w'.cell? ⟨w.heap.size, 0, none⟩ = some (.pointer (some ⟨c, 0, none⟩)) ∧ Cur w' c s p p m ∧ w.grownBy w' (some c) := by
  have hlt := hc.lt
  obtain ⟨wx, wy, hwx, hbx, hcx, hwy, hby, hcy, hgy⟩ := reader_start w c s st p m hc
  have hmf : ∀ (fn : Fn) (first cap : Array Value) (w : World), (Instr.makeFunc fn first cap).run Tryz.prog w = .ok (.func fn first cap) w := fun _ _ _ _ => rfl
  have HB : Hid (byteAt s p = (s[p]'hp).toNat) := by show _ = _; simp [byteAt, hp]
  have HL : Hid (letB ((s[p]'hp).toNat : Int) = false) := by show _ = _; rw [← HB.out]; exact hl
  have HD : Hid (digB ((s[p]'hp).toNat : Int) = true) := by show _ = _; rw [← HB.out]; exact hd
  have n95 : (((s[p]'hp).toNat : Int) == 95) = false := by rw [← HB.out]; simpa using h95
  clear hl hd h95
  have HCy := Lib.hid hcy
  have HGy := Lib.hid hgy
  have HWx := Lib.hid hwx
  have HWy := Lib.hid hwy
  have HBy := Lib.hid hby
  have i1 : (p : Int) < s.size := by omega
  have i0 : (0 : Int) ≤ p := by omega
  have c2 := hcx.pos
  have f1 := hcx.free 1
  have c1 := hcx.start
  clear hc hwx hwy hcx hcy hgy hby
  go_enter Tryz.func29, Tryz.ntmps29
  go_upto_region 1 with (fail)
  rw [← HWx.out]
  go_region
  rw [← HWy.out]
  obtain ⟨wz, hwz⟩ : ∃ wz, wz = wy.drew := ⟨_, rfl⟩
  have HCz : Hid (Cur wz c s p p m) := by rw [hwz]; exact HCy.out.drew 1
  have HGz : Hid (w.grownBy wz (some c)) := by rw [hwz]; exact HGy.out.trans (grown_drewN _ 1 _)
  have HBz : Hid (wz.cell? ⟨w.heap.size, 0, none⟩ = some (.pointer (some ⟨c, 0, none⟩))) := by rw [hwz]; exact HBy.out
  rw [← hwz]
  clear hwz c2 f1 c1 hbx
  have c0 := HCz.out.text
  have c2 := HCz.out.pos
  have hbz := HBz.out
  have hsz := HGz.out.size
  go_wp2_with fail
  go_quiet (fail)
  clear c0
  go_wp2_with (first | (go_at_call 46; refine (isLetter_any _ _).mono ?_; rintro e w' ⟨he, rfl⟩; rw [HL.out] at he; subst he) | (go_at_call 33; refine (isDigit_any _ _).mono ?_; rintro e w' ⟨he, rfl⟩; rw [HD.out] at he; subst he) | (go_at_call 49; refine (closed_any _ c _ _).mono ?_; rintro e w2 ⟨rfl, q1, q2, q3, q4⟩))
  go_ret
  exact ⟨_, _, rfl, q1, q2, hsz, cell_grown HBz.out ((grown_drewN wz _ none).trans q4) (by simp), (HCz.out.drew _).kept q4 (by simp), (HGz.out.trans (grown_drewN _ _ _)).trans (grown_row q4 c)⟩

end Tk
end Go.Proofs.YtlpcpnbjpbhlgaaGreatDoor
