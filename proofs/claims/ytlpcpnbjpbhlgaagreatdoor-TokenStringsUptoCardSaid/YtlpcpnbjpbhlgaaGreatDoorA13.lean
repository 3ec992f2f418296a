/- Passing over blanks and short line comments. -/
import Derived.Test.YtlpcpnbjpbhlgaaGreatDoorA12
namespace Go.Proofs.YtlpcpnbjpbhlgaaGreatDoor
open Go.ChangeShapes Go.WideShapes Go.ChangeAt Go.RowKit Go.WideMaps Go.Maps
namespace Tk

def blankI (b : Int) : Int := Lib.indexByte [32, 9, 13, 10] b.toNat.toUInt8
def slash2 : ByteArray := ⟨#[47, 47]⟩
def slashS : ByteArray := ⟨#[47, 42]⟩
def hasP (s : ByteArray) (a : Nat) (x : ByteArray) : Bool := Lib.hasPrefix (s.extract a s.size).data.toList x.data.toList

/-- From a on blanks and short line comments lead to b. -/
inductive Skip (s : ByteArray) : Nat → Nat → Prop
  | done : Skip s s.size s.size
  | stop (a : Nat) (h : a < s.size) (h1 : blankI (byteAt s a) < 0) (h2 : hasP s a slash2 = false) (h3 : hasP s a slashS = false) : Skip s a a
  | blank (a b : Nat) (h : a < s.size) (h1 : 0 ≤ blankI (byteAt s a)) (hn : Skip s (a + 1) b) : Skip s a b
  | line (a b e : Nat) (h : a < s.size) (h1 : blankI (byteAt s a) < 0) (h2 : hasP s a slash2 = true) (he : lineEndZ s a = e) (h4 : a < e) (h5 : e ≤ s.size) (h8 : e - a ≤ 8) (hA : AscS (s.extract a e)) (hn : Skip s e b) : Skip s a b

theorem Skip.le {s : ByteArray} {a b : Nat} (h : Skip s a b) : a ≤ b := by
  induction h with
  | done => exact Nat.le_refl _
  | stop => exact Nat.le_refl _
  | blank => omega
  | line => omega

def feedB (s : ByteArray) (a b : Nat) : Bool := decide (b = s.size) || decide (0 ≤ Lib.indexByte (s.extract a b).data.toList 10)

set_option maxHeartbeats 2000000 in
theorem skip_any (w : World) (c : Nat) (s : ByteArray) (st a b m : Nat) (hc : Cur w c s st a m) (hs : s.size ≤ 20000) (ha : a ≤ s.size) (hk : Skip s a b) :
    Calls Tryz.prog 28 #[.pointer (some ⟨c, 0, none⟩)] w fun e w' => e = .returned (.bool (feedB s a b)) ∧ (∃ st', Cur w' c s st' b m) ∧ w.grownBy w' (some c) := by
  have HC := Lib.hid hc
  have HK := Lib.hid hk
  have hab := hk.le
  have c2 := hc.pos
  clear hc hk
  go_enter Tryz.func28, Tryz.ntmps28
  go_wp2_with fail
  clear c2
  go_loopw [] (fun wr => ∃ p st', p ≤ s.size ∧ Cur wr c s st' p m ∧ Skip s p b ∧ w.grownBy wr (some c)) (fun wr => s.size - posOf wr c)
  case atStart => exact ⟨a, st, ha, HC.out, HK.out, World.grownBy.refl _ _⟩
  case round =>
    obtain ⟨p, st', hp, hcp, hsk, hg⟩ := hrel
    have HCP := Lib.hid hcp
    have HG := Lib.hid hg
    clear hcp hg HC HK
    have c0 := HCP.out.text
    have c2 := HCP.out.pos
    have f2 := HCP.out.free 2
    have p0 : (0 : Int) ≤ p := by omega
    cases hsk with
    | done =>
      have HE : Hid (feedB s a s.size = true) := by show _ = _; unfold feedB; simp
      go_wp2_with fail
      go_quiet (fail)
      go_wp2_with fail
      go_ret
      exact ⟨ret_bool HE.out.symm, ⟨st', HCP.out.drew _⟩, HG.out.trans (grown_drewN _ _ _)⟩
    | stop _ h h1 h2 h3 =>
      have HHp : Hid (Lib.hasPrefix (s.extract b s.size).data.toList slash2.data.toList = false) := h2
      have HHq : Hid (Lib.hasPrefix (s.extract b s.size).data.toList slashS.data.toList = false) := h3
      clear h2 h3
      have i1 : (b : Int) < s.size := by omega
      have HB : Hid (byteAt s b = (s[b]'h).toNat) := by show _ = _; simp [byteAt, h]
      obtain ⟨z, hz⟩ : ∃ z, z = blankI (byteAt s b) := ⟨_, rfl⟩
      have hz' : Lib.indexByte (⟨#[32, 9, 13, 10]⟩ : ByteArray).data.toList (((s[b]'h).toNat : Int)).toNat.toUInt8 = z := by rw [hz, HB.out]; rfl
      have z0 : ¬ 0 ≤ z := by rw [hz]; omega
      have z1 : z < 0 := by omega
      have hIB : ∀ w : World, Calls Tryz.prog 41 #[.string ⟨#[32, 9, 13, 10]⟩, .int .u8 ((s[b]'h).toNat : Int)] w fun e w' => e = .returned (.int .i64 z) ∧ w' = w := fun w => hz' ▸ Tryz.strings_IndexByte ⟨#[32, 9, 13, 10]⟩ _ w
      have HIB := Lib.hid hIB
      clear hz hz' h1 hIB
      go_wp2_with fail
      go_quiet (fail)
      go_upto_region 4 with (fail)
      obtain ⟨wo, hwo⟩ : ∃ wo, wo = wr.drewN nq := ⟨_, rfl⟩
      have HCo : Hid (Cur wo c s st' b m) := by rw [hwo]; exact HCP.out.drew nq
      have HGo : Hid (w.grownBy wo (some c)) := by rw [hwo]; exact HG.out.trans (grown_drewN _ _ _)
      rw [← hwo]
      clear hwo c0 c2 f2
      have c0 := HCo.out.text
      have c2 := HCo.out.pos
      have f2 := HCo.out.free 2
      go_quiet ((go_at_call 41; exact Calls.quiet_of_same (HIB.out _)))
      go_upto_region 8 with (go_at_call 42; refine (has_any s slash2 c b _ hp (HCo.out.drew _).text (HCo.out.drew _).pos).mono ?_; rintro e1 w' ⟨he1, n2, rfl⟩; rw [HHp.out] at he1; subst he1)
      go_wp2_with (go_at_call 42; refine (has_any s slashS c b _ hp (HCo.out.drew _).text (HCo.out.drew _).pos).mono ?_; rintro e1 w' ⟨he1, n3, rfl⟩; rw [HHq.out] at he1; subst he1)
      go_upto_region 3 with (fail)
      obtain ⟨nn, hnn⟩ : ∃ nn, nn = nq + n2 + n3 := ⟨_, rfl⟩
      rw [← hnn]
      obtain ⟨wy, hwy⟩ : ∃ wy, wy = wo.drewN nn := ⟨_, rfl⟩
      have HCy : Hid (Cur wy c s st' b m) := by rw [hwy]; exact HCo.out.drew nn
      have HGy : Hid (w.grownBy wy (some c)) := by rw [hwy]; exact HGo.out.trans (grown_drewN _ _ _)
      rw [← hwy]
      clear hwy c0 c2 f2
      have c0 := HCy.out.text
      have c2 := HCy.out.pos
      have j1 : (a : Int) ≤ b := by omega
      have j2 : (b : Int) ≤ s.size := by omega
      have j3 : (0 : Int) ≤ a := by omega
      go_quiet ((go_at_call 35; exact Calls.quiet_of_same (Tryz.strings_Contains_one _ 10 _)))
      go_wp2_with fail
      go_ret
      refine ⟨ret_bool ?_, ⟨st', HCy.out.drew _⟩, HGy.out.trans (grown_drewN _ _ _)⟩
      unfold feedB
      rw [decide_eq_false (show ¬ b = s.size by omega), Bool.false_or]
    | blank _ _ h h1 hn =>
      have HN := Lib.hid hn
      clear hn
      have i1 : (p : Int) < s.size := by omega
      have HB : Hid (byteAt s p = (s[p]'h).toNat) := by show _ = _; simp [byteAt, h]
      obtain ⟨z, hz⟩ : ∃ z, z = blankI (byteAt s p) := ⟨_, rfl⟩
      have hz' : Lib.indexByte (⟨#[32, 9, 13, 10]⟩ : ByteArray).data.toList (((s[p]'h).toNat : Int)).toNat.toUInt8 = z := by rw [hz, HB.out]; rfl
      have z0 : 0 ≤ z := by rw [hz]; exact h1
      have hIB : ∀ w : World, Calls Tryz.prog 41 #[.string ⟨#[32, 9, 13, 10]⟩, .int .u8 ((s[p]'h).toNat : Int)] w fun e w' => e = .returned (.int .i64 z) ∧ w' = w := fun w => hz' ▸ Tryz.strings_IndexByte ⟨#[32, 9, 13, 10]⟩ _ w
      have HIB := Lib.hid hIB
      clear hz hz' h1 hIB
      have hw : IntKind.i64.wrap ((p : Int) + 1) = (p : Int) + 1 := IntWalk.i64_in _ (by omega)
      go_wp2_with fail
      go_quiet (fail)
      go_upto_region 4 with (fail)
      obtain ⟨wo, hwo⟩ : ∃ wo, wo = wr.drewN nq := ⟨_, rfl⟩
      have HCo : Hid (Cur wo c s st' p m) := by rw [hwo]; exact HCP.out.drew nq
      have HGo : Hid (w.grownBy wo (some c)) := by rw [hwo]; exact HG.out.trans (grown_drewN _ _ _)
      rw [← hwo]
      clear hwo c0 c2 f2
      have c0 := HCo.out.text
      have c2 := HCo.out.pos
      have f2 := HCo.out.free 2
      go_quiet ((go_at_call 41; exact Calls.quiet_of_same (HIB.out _)))
      go_wp2_with fail
      have hC1 : Cur ((wo.drewN nq).setCell ⟨c, 2, none⟩ (.int .i64 ((p : Int) + 1))) c s st' (p + 1) m := (HCo.out.drew nq).move (p + 1) _ (by omega)
      refine ⟨⟨p + 1, st', by omega, hC1, HN.out, (HGo.out.trans (grown_drewN _ _ _)).trans (grown_set _ ⟨c, 2, none⟩ _)⟩, ?_⟩
      rw [hC1.posOf, HCP.out.posOf]
      omega
    | line _ _ e h h1 h2 he h4 h5 h8 hA hn =>
      have HN := Lib.hid hn
      have HHp : Hid (Lib.hasPrefix (s.extract p s.size).data.toList slash2.data.toList = true) := h2
      have HL := Lib.hid he
      have HAs := Lib.hid hA
      clear hn h2 he hA
      have i1 : (p : Int) < s.size := by omega
      have HB : Hid (byteAt s p = (s[p]'h).toNat) := by show _ = _; simp [byteAt, h]
      obtain ⟨z, hz⟩ : ∃ z, z = blankI (byteAt s p) := ⟨_, rfl⟩
      have hz' : Lib.indexByte (⟨#[32, 9, 13, 10]⟩ : ByteArray).data.toList (((s[p]'h).toNat : Int)).toNat.toUInt8 = z := by rw [hz, HB.out]; rfl
      have z0 : ¬ 0 ≤ z := by rw [hz]; omega
      have z1 : z < 0 := by omega
      have hIB : ∀ w : World, Calls Tryz.prog 41 #[.string ⟨#[32, 9, 13, 10]⟩, .int .u8 ((s[p]'h).toNat : Int)] w fun e w' => e = .returned (.int .i64 z) ∧ w' = w := fun w => hz' ▸ Tryz.strings_IndexByte ⟨#[32, 9, 13, 10]⟩ _ w
      have HIB := Lib.hid hIB
      clear hz hz' h1 hIB
      go_wp2_with fail
      go_quiet (fail)
      go_upto_region 4 with (fail)
      obtain ⟨wo, hwo⟩ : ∃ wo, wo = wr.drewN nq := ⟨_, rfl⟩
      have HCo : Hid (Cur wo c s st' p m) := by rw [hwo]; exact HCP.out.drew nq
      have HGo : Hid (w.grownBy wo (some c)) := by rw [hwo]; exact HG.out.trans (grown_drewN _ _ _)
      rw [← hwo]
      clear hwo c0 c2 f2
      have c0 := HCo.out.text
      have c2 := HCo.out.pos
      have f2 := HCo.out.free 2
      go_quiet ((go_at_call 41; exact Calls.quiet_of_same (HIB.out _)))
      go_wp2_with (first | (go_at_call 42; refine (has_any s slash2 c p _ hp (HCo.out.drew _).text (HCo.out.drew _).pos).mono ?_; rintro e1 w' ⟨he1, n2, rfl⟩; rw [HHp.out] at he1; subst he1) | (go_at_call 44; refine (lineEnd_any _ c s st' p m (HCo.out.drew _) hs hp).mono ?_; rintro e1 w' ⟨he1, n3, rfl⟩; rw [HL.out] at he1; subst he1) | (go_at_call 43; refine (comment_short _ c s st' p e m (HCo.out.drew _) (by omega) h5 h8 HAs.out).mono ?_; rintro e1 w' ⟨rfl, hcw, hgw⟩))
      refine ⟨⟨e, p, h5, hcw, HN.out, (HGo.out.trans (grown_drewN _ _ _)).trans hgw⟩, ?_⟩
      rw [hcw.posOf, HCP.out.posOf]
      omega

end Tk
end Go.Proofs.YtlpcpnbjpbhlgaaGreatDoor
