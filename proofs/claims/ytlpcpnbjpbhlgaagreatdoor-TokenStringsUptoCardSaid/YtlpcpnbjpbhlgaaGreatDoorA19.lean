/- A character of more than one byte. -/
import Derived.Test.YtlpcpnbjpbhlgaaGreatDoorA18
import Derived.Test.YtlpcpnbjpbhlgaaGreatDoorB2
import Derived.Deep.RegionHeld3
namespace Go.Proofs.YtlpcpnbjpbhlgaaGreatDoor
open Go.ChangeShapes Go.WideShapes Go.ChangeAt Go.RowKit Go.WideMaps Go.Maps
namespace Tk

/-- The tables by which a text of UTF-8 is read. -/
abbrev Utf8T (w : World) : Prop := Lib.Utf8Tabs 1 2 w

theorem utf8_below {w w' : World} (h : Utf8T w) (hb : Below w.heap.size w w') : Utf8T w' := by
  have one : ∀ (p : Addr) (v : Value), w.cell? p = some v → w'.cell? p = some v := fun p v hp => (World.cell?_of_block (hb.block p.block (lt_cell hp))).trans hp
  exact ⟨fun c hc => one _ _ (h.1 c hc), fun i hi => ⟨one _ _ (h.2 i hi).1, one _ _ (h.2 i hi).2⟩⟩

theorem utf8_grown {w w' : World} {row : Option Nat} (h : Utf8T w) (hg : w.grownBy w' row) (h1 : some 1 ≠ row) (h2 : some 2 ≠ row) : Utf8T w' :=
  ⟨fun c hc => cell_grown (h.1 c hc) hg h1, fun i hi => ⟨cell_grown (h.2 i hi).1 hg h2, cell_grown (h.2 i hi).2 hg h2⟩⟩

theorem utf8_lt {w : World} (h : Utf8T w) : 1 < w.heap.size ∧ 2 < w.heap.size :=
  ⟨lt_cell (h.1 0 (by decide)), lt_cell (h.2 0 (by decide)).1⟩

theorem grown_below {w U V : World} {c : Nat} (h : w.grownBy U (some c)) (hb : Below w.heap.size U V) : w.grownBy V (some c) :=
  ⟨hb.os.trans h.os, hb.tape.trans h.tape, hb.output.trans h.output, Nat.le_trans h.size hb.size, fun k hk hc => (hb.block k hk).trans (h.block k hk hc)⟩

theorem Cur.below {U V : World} {c B : Nat} {s : ByteArray} {st a m : Nat} (h : Cur U c s st a m) (hb : Below B U V) (hc : c < B) : Cur V c s st a m := by
  have hblk : V.heap[c]? = U.heap[c]? := hb.block c hc
  have hx : ∀ j, V.cell? ⟨c, j, none⟩ = U.cell? ⟨c, j, none⟩ := fun j => World.cell?_of_block (w := U) hblk
  exact ⟨(hx 0).trans h.text, (hx 1).trans h.start, (hx 2).trans h.pos, (hx 3).trans h.words, fun j => (World.frozen?_of_block (w := U) hblk).trans (h.free j)⟩

set_option maxHeartbeats 2000000 in
set_option maxRecDepth 100000 in
theorem char_utf (w : World) (c : Nat) (s : ByteArray) (st a m R K : Nat) (hc : Cur w c s st a m) (hs : s.size ≤ 20000) (hu : Utf8T w) (hb : Lib.hasPrefix (s.extract a s.size).data.toList back1.data.toList = false) (hd : Lib.decodeGo (s.extract a s.size) = (R, K)) (hR : 128 ≤ R) (hK : 2 ≤ K) (hle : a + K ≤ s.size) :
    Calls Tryz.prog 77 #[.pointer (some ⟨c, 0, none⟩)] w fun e w' => e = .returned (.int .i32 R) ∧ Cur w' c s st (a + K) m ∧ w.grownBy w' (some c) := by
  have HC := Lib.hid hc
  have HB := Lib.hid hb
  have HU := Lib.hid hu
  have HD := Lib.hid hd
  clear hc hb hu hd
  go_enter Tryz.func77, Tryz.ntmps77
  go_upto_region 3 with (go_at_call 42; refine (has_any s back1 c a _ (by omega) HC.out.text HC.out.pos).mono ?_; rintro e w' ⟨he, n, rfl⟩; rw [HB.out] at he; subst he)
  obtain ⟨wo, hwo⟩ : ∃ wo, wo = w.drewN n := ⟨_, rfl⟩
  have HCo : Hid (Cur wo c s st a m) := by rw [hwo]; exact HC.out.drew n
  have HGo : Hid (w.grownBy wo (some c)) := by rw [hwo]; exact grown_drewN _ _ _
  have HUo : Hid (Utf8T wo) := by rw [hwo]; exact HU.out
  have HZo : Hid (wo.heap.size = w.heap.size) := by rw [hwo]; exact rfl
  rw [← hwo]
  clear hwo
  have c0 := HCo.out.text
  have c2 := HCo.out.pos
  have f2 := HCo.out.free 2
  have i1 : (a : Int) ≤ s.size := by omega
  have i2 : (0 : Int) ≤ a := by omega
  have hlt := HCo.out.lt
  have n10 : ((R : Int) == 10) = false := by simp; omega
  have l2 : decide ((K : Int) < 2) = false := by simp; omega
  have l2' : ¬ (K : Int) < 2 := by omega
  have e1 : IntKind.i64.wrap ((a : Int) + K) = (a : Int) + K := IntWalk.i64_in _ (by omega)
  go_region_held3 (fun w' => w'.cell? ⟨c, 0, none⟩ = some (.string s) ∧ w'.cell? ⟨c, 2, none⟩ = some (.int .i64 a)) (first | exact ⟨c0, c2⟩ | exact ⟨c4, c3⟩)
    (first | (go_at_call 94; refine (Tryz.utf8_DecodeRuneInString _ _ ?_).mono ?_; exact HUo.out; rintro e w3 ⟨he, hb3⟩; rw [HD.out] at he; subst he; have HC3 := Lib.hid (Cur.below (HCo.out.drew 1) hb3 hlt); have HB3 := Lib.hid hb3; have c4 := HC3.out.text; have c3 := HC3.out.pos; have f3 := HC3.out.free 2; clear hb3; go_simp))
  have HBo : Hid (Below w.heap.size wo w3) := by
    show Below _ _ _
    rw [← HZo.out]
    exact ⟨HB3.out.os, HB3.out.tape, HB3.out.output, HB3.out.size, HB3.out.block⟩
  by_cases hq : R = 65533
  · subst hq
    go_wp2_with fail
    go_ret
    exact ⟨rfl, HC3.out.move (a + K) _ (by omega), (grown_below HGo.out HBo.out).trans (grown_set _ ⟨c, 2, none⟩ _)⟩
  · have n3 : ((R : Int) == 65533) = false := by simp; omega
    go_wp2_with fail
    go_ret
    exact ⟨rfl, HC3.out.move (a + K) _ (by omega), (grown_below HGo.out HBo.out).trans (grown_set _ ⟨c, 2, none⟩ _)⟩

end Tk
end Go.Proofs.YtlpcpnbjpbhlgaaGreatDoor
