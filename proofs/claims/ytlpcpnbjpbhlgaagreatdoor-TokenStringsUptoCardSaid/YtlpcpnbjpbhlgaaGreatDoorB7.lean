/- A string between quotes. -/
import Derived.Test.YtlpcpnbjpbhlgaaGreatDoorB6
import Derived.Test.YtlpcpnbjpbhlgaaGreatDoorA19
namespace Go.Proofs.YtlpcpnbjpbhlgaaGreatDoor
open Go.ChangeShapes Go.WideShapes Go.ChangeAt Go.RowKit Go.WideMaps Go.Maps
namespace Tk

/-- A character at place p, which ends at p2. -/
def CharAt (s : ByteArray) (p : Nat) (r : Int) (p2 : Nat) : Prop :=
  ∀ (w : World) (c st m : Nat), Cur w c s st p m → Utf8T w → 1 ≠ c → 2 ≠ c → Calls Tryz.prog 77 #[.pointer (some ⟨c, 0, none⟩)] w fun e w' => e = .returned (.int .i32 r) ∧ Cur w' c s st p2 m ∧ w.grownBy w' (some c)

/-- Characters up to a quote. -/
inductive Lit (s : ByteArray) : Nat → List Int → Nat → Prop
  | done (p : Nat) (h : byteAt s p = 34) : Lit s p [] p
  | step (p : Nat) (r : Int) (p2 : Nat) (rs : List Int) (q : Nat) (h : byteAt s p ≠ 34) (hc : CharAt s p r p2) (hlt : p < p2) (hle : p2 ≤ s.size) (h0 : 0 ≤ r) (h1 : r ≤ 1114111) (hn : Lit s p2 rs q) : Lit s p (r :: rs) q

def textOf (rs : List Int) : List UInt8 := rs.flatMap Lib.encodeRune

theorem lit_end {s : ByteArray} {p q : Nat} {rs : List Int} (h : Lit s p rs q) : p ≤ q ∧ q < s.size := by
  induction h with
  | done p h => exact ⟨Nat.le_refl _, part_in (p := fun b => b == 34) (by decide) (by rw [h]; rfl)⟩
  | step p r p2 rs q h hc hlt hle h0 h1 hn ih => exact ⟨by omega, ih.2⟩

set_option maxHeartbeats 2000000 in
theorem line_any (w : World) (c : Nat) (s : ByteArray) (st a m q : Nat) (rs : List Int) (hc : Cur w c s st a m) (hs : s.size ≤ 20000) (ha : a < s.size) (hL : Lit s (a + 1) rs q) (hu : Utf8T w) (h1c : 1 ≠ c) (h2c : 2 ≠ c) :
    Calls Tryz.prog 57 #[.pointer (some ⟨c, 0, none⟩)] w fun e w' => e = .returned (.string ⟨(textOf rs).toArray⟩) ∧ Cur w' c s st (q + 1) m ∧ w.grownBy w' (some c) := by
  have hlt := hc.lt
  have hq := (lit_end hL).2
  obtain ⟨wx, hwx⟩ : ∃ wx, wx = w.alloc (.cells #[.pointer none, .slice none 0 0] 39) := ⟨_, rfl⟩
  have hsx : wx.heap.size = w.heap.size + 1 := by rw [hwx]; simp
  have HGx : Hid (w.grownBy wx (some c)) := by rw [hwx]; exact World.grownBy_alloc w _ _
  have HCx : Hid (Cur wx c s st a m) := by rw [hwx]; exact hc.kept (World.grownBy_alloc w _ none) (by simp)
  have HBx : Hid (Lib.IsBuilderF 39 5 w.heap.size w.heap.size (Lib.byteCells []) wx) := by
    rw [hwx]
    exact .inl ⟨Nat.le_refl _, .slice none 0 0, World.alloc_heap_new w _, World.ownsRowF_nil _ _ _ _, by simp [Value.ownBlock]⟩
  have HWx := Lib.hid hwx
  have HL := Lib.hid hL
  have HU := Lib.hid hu
  have H1c := Lib.hid h1c
  have H2c := Lib.hid h2c
  clear hc hwx hL hu h1c h2c
  have c2 := HCx.out.pos
  have f2 := HCx.out.free 2
  have e1 : IntKind.i64.wrap ((a : Int) + 1) = (a : Int) + 1 := IntWalk.i64_in _ (by omega)
  go_enter Tryz.func57, Tryz.ntmps57
  go_upto_region 2 with (fail)
  rw [← HWx.out]
  go_wp2_with fail
  obtain ⟨wy, hwy⟩ : ∃ wy, wy = wx.setCell ⟨c, 2, none⟩ (.int .i64 ((a : Int) + 1)) := ⟨_, rfl⟩
  have HCy : Hid (Cur wy c s st (a + 1) m) := by rw [hwy]; exact HCx.out.move (a + 1) _ (by omega)
  have HGy : Hid (wx.grownBy wy (some c)) := by rw [hwy]; exact grown_set _ ⟨c, 2, none⟩ _
  have HBy := Lib.hid (builder_kept HBx.out HGy.out hlt)
  rw [← hwy]
  clear hwy c2 f2 e1
  go_loopw [] (fun wr => ∃ (p : Nat) (r1 : List Int) (bs : List UInt8), Cur wr c s st p m ∧ Lit s p r1 q ∧ Lib.IsBuilderF 39 5 w.heap.size w.heap.size (Lib.byteCells bs) wr ∧ bs ++ textOf r1 = textOf rs ∧ bs.length ≤ 4 * p ∧ w.grownBy wr (some c)) (fun wr => s.size - posOf wr c)
  case atStart => exact ⟨a + 1, rs, [], HCy.out, HL.out, HBy.out, rfl, by simp, HGx.out.trans HGy.out⟩
  case round =>
    obtain ⟨p, r1, bs, hcp, hlp, hbp, htx, hln, hg⟩ := hrel
    have HCP := Lib.hid hcp
    have HBP := Lib.hid hbp
    have HTX := Lib.hid htx
    have HG := Lib.hid hg
    have hpq := lit_end hlp
    clear hcp hbp htx hg HCy HGy HBy
    have hgs := HG.out.size
    cases hlp with
    | done _ h =>
      have HB := Lib.hid h
      clear h
      have c2 := HCP.out.pos
      have f2 := HCP.out.free 2
      have e1 : IntKind.i64.wrap ((q : Int) + 1) = (q : Int) + 1 := IntWalk.i64_in _ (by omega)
      go_wp2_with (go_at_call 71; refine (peek0 s q c _ hs (by omega) HCP.out.text HCP.out.pos).mono ?_; rintro e w' ⟨he, n, rfl⟩; rw [HB.out] at he; subst he)
      have hgm : wr.grownBy ((wr.drewN n).setCell ⟨c, 2, none⟩ (.int .i64 ((q : Int) + 1))) (some c) := (grown_drewN wr n _).trans (grown_set _ ⟨c, 2, none⟩ _)
      have htx := HTX.out
      rw [show textOf [] = [] from rfl, List.append_nil] at htx
      refine (Tryz.Builder_String_any_k w.heap.size w.heap.size bs _ (builder_kept HBP.out hgm hlt) (by have := hgm.size; omega)).mono ?_
      rintro e w2 ⟨rfl, _, hbl, _⟩
      go_wp2_with fail
      go_ret
      exact ⟨rfl, ((HCP.out.drew n).move (q + 1) _ (by omega)).below hbl hlt, grown_below (HG.out.trans hgm) hbl⟩
    | step _ r p2 rs' _ h hch hlt2 hle h0 h1 hn =>
      have hB : (byteAt s p == 34) = false := by simpa using h
      have HCh := Lib.hid hch
      have HN := Lib.hid hn
      clear h hch hn
      go_wp2_with (go_at_call 71; refine (peek0 s p c _ hs (by omega) HCP.out.text HCP.out.pos).mono ?_; rintro e w' ⟨rfl, n, rfl⟩)
      refine (HCh.out _ c st m (HCP.out.drew n) (utf8_grown HU.out (HG.out.trans (grown_drewN wr n _)) (fun e => H1c.out (Option.some.inj e)) (fun e => H2c.out (Option.some.inj e))) H1c.out H2c.out).mono ?_
      rintro e w2 ⟨rfl, hC2, hg2⟩
      have hgm : wr.grownBy w2 (some c) := (grown_drewN wr n _).trans hg2
      have HBB := Lib.hid (builder_kept HBP.out hgm hlt)
      have HC2 := Lib.hid hC2
      have HG2 := Lib.hid hgm
      have hz2 := hgm.size
      clear hC2 hg2 hgm
      have hr4 := Lib.runeCells_le r
      rw [Lib.runeCells_length] at hr4
      go_wp2_with fail
      refine (writeRune_any w.heap.size w.heap.size (Lib.byteCells bs) r (by omega) (by omega) _ HBB.out (by rw [Lib.byteCells_length]; omega) (by omega)).mono ?_
      rintro e w3 ⟨rfl, hb3, hbl, _⟩
      have htx := HTX.out
      rw [show textOf (r :: rs') = Lib.encodeRune r ++ textOf rs' from rfl] at htx
      have hC3 := HC2.out.below hbl hlt
      go_wp2_with fail
      refine ⟨⟨p2, rs', bs ++ Lib.encodeRune r, hC3, HN.out, .inr ?_, ?_, ?_, ?_⟩, ?_⟩
      · rw [Lib.byteCells_append, Lib.byteCells_encodeRune]
        exact hb3
      · rw [List.append_assoc]
        exact htx
      · rw [List.length_append]
        omega
      · exact grown_below (HG.out.trans HG2.out) hbl
      · rw [hC3.posOf, HCP.out.posOf]
        omega

end Tk
end Go.Proofs.YtlpcpnbjpbhlgaaGreatDoor
