/- The cursor's fraction, whatever stands there. The decimal digits of any number below 2^64, 0 among them. math/bits.Div64 by 10^19: some quotient and some rest, whatever the world. The text of any number of 128 bits. Numbers behind 0x and 0b, whatever stands there. Decimal numbers, whatever stands there, but for a fraction's text. Nothing of its own: ReplaceAll is laid beside the other contracts. The text of a float. -/
import Derived.Test.YtmphkifhnjfkmaaGreatDoorM4
import Derived.Deep.CutBlock
import Derived.Deep.LoopGhost
import Derived.Test.YtmphkifhnjfkmaaGreatDoorSh
namespace Go.Proofs.YtmphkifhnjfkmaaGreatDoor
open Go.ChangeShapes Go.WideShapes Go.ChangeAt Go.RowKit Go.WideMaps Go.Maps
namespace Tk

set_option maxHeartbeats 16000000 in
set_option maxRecDepth 100000 in
theorem fraction_total (w : World) (c : Nat) (s : ByteArray) (st a m : Nat) (r : Option (Bool × Nat)) (hF : Frac s a r) (hc : Cur w c s st a m) (hs : s.size ≤ 20000) (ha : a ≤ s.size) :
    Calls Tryz.prog 58 #[.pointer (some ⟨c, 0, none⟩)] w fun e w' =>
      ((∃ f q, r = some (f, q) ∧ e = .returned (.bool f) ∧ Cur w' c s st q m) ∨ (r = none ∧ e = .panicked (faultC st 33))) ∧ w.grownBy w' (some c) := by
  have HC := Lib.hid hc
  clear hc
  obtain ⟨R, hRR⟩ : ∃ R, R = r := ⟨_, rfl⟩
  rw [← hRR]
  have HRR := Lib.hid hRR
  clear hRR
  cases hF with
  | noPoint h r hx =>
    by_cases h46 : byteAt s a = 46
    · have hdg : digB (byteAt s (a + 1)) = false := by
        cases hh : digB (byteAt s (a + 1))
        · rfl
        · exact absurd ⟨h46, hh⟩ h
      have H0 := Lib.hid h46
      have H1 := Lib.hid hdg
      clear h h46 hdg
      go_enter Tryz.func58, Tryz.ntmps58
      go_upto_region 6 with (first | (go_at_call 28; refine (isDigit_any _ _).mono ?_; rintro e w' ⟨he, rfl⟩; rw [H1.out] at he; subst he) | (go_at_call 55; refine (peek_z s a 0 c _ _ hs (by omega) (by omega) HC.out.text HC.out.pos (by decide)).mono ?_; rintro e w' ⟨he, n, rfl⟩; rw [Nat.add_zero, H0.out] at he; subst he) | (go_at_call 55; refine (peek_z s a 1 c _ _ hs (by omega) (by omega) (HC.out.drew _).text (HC.out.drew _).pos (by decide)).mono ?_; rintro e w' ⟨he, n0, rfl⟩; subst he))
      obtain ⟨ns, hns⟩ : ∃ ns, ns = n + n0 := ⟨_, rfl⟩
      rw [← hns]
      obtain ⟨W, hW⟩ : ∃ W, W = w.drewN ns := ⟨_, rfl⟩
      obtain ⟨a1, ha1⟩ : ∃ a1, a1 = a := ⟨_, rfl⟩
      have HCW : Hid (Cur W c s st a1 m) := by rw [hW, ha1]; exact HC.out.drew ns
      have HGW : Hid (w.grownBy W (some c)) := by rw [hW]; exact grown_drewN _ _ _
      rw [← hW]
      rw [← ha1] at hx ha
      clear hW ha1
      have c2 := HCW.out.pos
      have f2 := HCW.out.free 2
      obtain ⟨X, hX⟩ : ∃ X, X = byteAt s a1 := ⟨_, rfl⟩
      have HX : Hid (byteAt s a1 = X) := hX.symm
      cases hx with
      | no h1 h2 =>
        rw [← hX] at h1 h2
        have x1 : (X != 101) = true := by simpa using h1
        have x2 : (X != 69) = true := by simpa using h2
        clear h1 h2 hX
        go_wp2_with (first | (go_at_call 55; refine (peek_z s a1 0 c _ _ hs (by omega) (by omega) HCW.out.text HCW.out.pos (by decide)).mono ?_; rintro e w' ⟨he, n1, rfl⟩; rw [Nat.add_zero, HX.out] at he; subst he) | (go_at_call 55; refine (peek_z s a1 0 c _ _ hs (by omega) (by omega) (HCW.out.drew _).text (HCW.out.drew _).pos (by decide)).mono ?_; rintro e w' ⟨he, n2, rfl⟩; rw [Nat.add_zero, HX.out] at he; subst he))
        go_ret
        exact ⟨.inl ⟨false, a1, HRR.out, rfl, HCW.out.drew _⟩, HGW.out.trans (grown_drewN _ _ _)⟩
      | bad h N ok hR hN =>
        have hlt : a1 < s.size := by rcases h with h | h <;> exact byteAt_lt h (by decide)
        rw [← hX] at h
        clear hX
        obtain ⟨Y, hY⟩ : ∃ Y, Y = byteAt s (a1 + 1) := ⟨_, rfl⟩
        have HY : Hid (byteAt s (a1 + 1) = Y) := hY.symm
        have e1 : IntKind.i64.wrap ((a1 : Int) + 1) = (a1 : Int) + 1 := IntWalk.i64_in _ (by omega)
        have e2 : IntKind.i64.wrap ((a1 : Int) + 1 + 1) = (a1 : Int) + 1 + 1 := IntWalk.i64_in _ (by omega)
        have hsg : signEnd s a1 = if Y = 43 ∨ Y = 45 then a1 + 2 else a1 + 1 := by unfold signEnd; rw [← hY]
        have hR' := Lib.hid hR
        have hsz := hR.size
        have hge := dpos_ge s (signEnd s a1) N
        clear hY hR
        rcases h with rfl | rfl
        ·
          go_upto_region 9 with (go_at_call 55; refine (peek_z s a1 0 c _ _ hs (by omega) (by omega) HCW.out.text HCW.out.pos (by decide)).mono ?_; rintro e w' ⟨he, n1, rfl⟩; rw [Nat.add_zero, HX.out] at he; subst he)
          obtain ⟨W2, hW2⟩ : ∃ W2, W2 = (W.drewN n1).setCell ⟨c, 2, none⟩ (.int .i64 ((a1 : Int) + 1)) := ⟨_, rfl⟩
          have HC2 : Hid (Cur W2 c s st (a1 + 1) m) := by rw [hW2]; exact (HCW.out.drew n1).move (a1 + 1) _ (by omega)
          have HG2 : Hid (w.grownBy W2 (some c)) := by rw [hW2]; exact (HGW.out.trans (grown_drewN _ _ _)).trans (grown_set _ ⟨c, 2, none⟩ _)
          rw [← hW2]
          clear hW2 c2 f2
          have c2 : W2.cell? ⟨c, 2, none⟩ = some (.int .i64 ((a1 : Int) + 1)) := HC2.out.pos
          have f2 := HC2.out.free 2
          by_cases y1 : Y = 43
          · rw [hsg, if_pos (.inl y1)] at hR' hsz hge
            subst y1
            go_wp2_with (first | (go_at_call 55; refine (peek_z s (a1 + 1) 0 c _ _ hs (by omega) (by omega) HC2.out.text HC2.out.pos (by decide)).mono ?_; rintro e w' ⟨he, n3, rfl⟩; rw [Nat.add_zero, HY.out] at he; subst he) | (go_at_call 57; refine (some_bad _ s st _ m c N 10 ok hs (by omega) hR'.out hN ((HC2.out.drew _).move (a1 + 2) _ (by omega))).mono ?_; rintro e w' ⟨rfl, hgs⟩))
            exact ⟨rfl, .inr ⟨HRR.out, rfl⟩, ((HG2.out.trans (grown_drewN _ _ _)).trans (grown_set _ ⟨c, 2, none⟩ _)).trans hgs⟩
          by_cases y2 : Y = 45
          · rw [hsg, if_pos (.inr y2)] at hR' hsz hge
            subst y2
            go_wp2_with (first | (go_at_call 55; refine (peek_z s (a1 + 1) 0 c _ _ hs (by omega) (by omega) HC2.out.text HC2.out.pos (by decide)).mono ?_; rintro e w' ⟨he, n3, rfl⟩; rw [Nat.add_zero, HY.out] at he; subst he) | (go_at_call 55; refine (peek_z s (a1 + 1) 0 c _ _ hs (by omega) (by omega) (HC2.out.drew _).text (HC2.out.drew _).pos (by decide)).mono ?_; rintro e w' ⟨he, n4, rfl⟩; rw [Nat.add_zero, HY.out] at he; subst he) | (go_at_call 57; refine (some_bad _ s st _ m c N 10 ok hs (by omega) hR'.out hN ((HC2.out.drew _).move (a1 + 2) _ (by omega))).mono ?_; rintro e w' ⟨rfl, hgs⟩))
            exact ⟨rfl, .inr ⟨HRR.out, rfl⟩, ((HG2.out.trans (grown_drewN _ _ _)).trans (grown_set _ ⟨c, 2, none⟩ _)).trans hgs⟩
          have z1 : (Y == 43) = false := by simpa using y1
          have z2 : (Y == 45) = false := by simpa using y2
          rw [hsg, if_neg (fun h => h.elim y1 y2)] at hR' hsz hge
          clear y1 y2
          go_wp2_with (first | (go_at_call 55; refine (peek_z s (a1 + 1) 0 c _ _ hs (by omega) (by omega) HC2.out.text HC2.out.pos (by decide)).mono ?_; rintro e w' ⟨he, n3, rfl⟩; rw [Nat.add_zero, HY.out] at he; subst he) | (go_at_call 55; refine (peek_z s (a1 + 1) 0 c _ _ hs (by omega) (by omega) (HC2.out.drew _).text (HC2.out.drew _).pos (by decide)).mono ?_; rintro e w' ⟨he, n4, rfl⟩; rw [Nat.add_zero, HY.out] at he; subst he) | (go_at_call 57; refine (some_bad _ s st _ m c N 10 ok hs (by omega) hR'.out hN (HC2.out.drew _)).mono ?_; rintro e w' ⟨rfl, hgs⟩))
          exact ⟨rfl, .inr ⟨HRR.out, rfl⟩, (HG2.out.trans (grown_drewN _ _ _)).trans hgs⟩
        ·
          go_upto_region 9 with (first | (go_at_call 55; refine (peek_z s a1 0 c _ _ hs (by omega) (by omega) HCW.out.text HCW.out.pos (by decide)).mono ?_; rintro e w' ⟨he, n1, rfl⟩; rw [Nat.add_zero, HX.out] at he; subst he) | (go_at_call 55; refine (peek_z s a1 0 c _ _ hs (by omega) (by omega) (HCW.out.drew _).text (HCW.out.drew _).pos (by decide)).mono ?_; rintro e w' ⟨he, n2, rfl⟩; rw [Nat.add_zero, HX.out] at he; subst he))
          obtain ⟨nn, hnn⟩ : ∃ nn, nn = n1 + n2 := ⟨_, rfl⟩
          rw [← hnn]
          obtain ⟨W2, hW2⟩ : ∃ W2, W2 = (W.drewN nn).setCell ⟨c, 2, none⟩ (.int .i64 ((a1 : Int) + 1)) := ⟨_, rfl⟩
          have HC2 : Hid (Cur W2 c s st (a1 + 1) m) := by rw [hW2]; exact (HCW.out.drew nn).move (a1 + 1) _ (by omega)
          have HG2 : Hid (w.grownBy W2 (some c)) := by rw [hW2]; exact (HGW.out.trans (grown_drewN _ _ _)).trans (grown_set _ ⟨c, 2, none⟩ _)
          rw [← hW2]
          clear hW2 c2 f2
          have c2 : W2.cell? ⟨c, 2, none⟩ = some (.int .i64 ((a1 : Int) + 1)) := HC2.out.pos
          have f2 := HC2.out.free 2
          by_cases y1 : Y = 43
          · rw [hsg, if_pos (.inl y1)] at hR' hsz hge
            subst y1
            go_wp2_with (first | (go_at_call 55; refine (peek_z s (a1 + 1) 0 c _ _ hs (by omega) (by omega) HC2.out.text HC2.out.pos (by decide)).mono ?_; rintro e w' ⟨he, n3, rfl⟩; rw [Nat.add_zero, HY.out] at he; subst he) | (go_at_call 57; refine (some_bad _ s st _ m c N 10 ok hs (by omega) hR'.out hN ((HC2.out.drew _).move (a1 + 2) _ (by omega))).mono ?_; rintro e w' ⟨rfl, hgs⟩))
            exact ⟨rfl, .inr ⟨HRR.out, rfl⟩, ((HG2.out.trans (grown_drewN _ _ _)).trans (grown_set _ ⟨c, 2, none⟩ _)).trans hgs⟩
          by_cases y2 : Y = 45
          · rw [hsg, if_pos (.inr y2)] at hR' hsz hge
            subst y2
            go_wp2_with (first | (go_at_call 55; refine (peek_z s (a1 + 1) 0 c _ _ hs (by omega) (by omega) HC2.out.text HC2.out.pos (by decide)).mono ?_; rintro e w' ⟨he, n3, rfl⟩; rw [Nat.add_zero, HY.out] at he; subst he) | (go_at_call 55; refine (peek_z s (a1 + 1) 0 c _ _ hs (by omega) (by omega) (HC2.out.drew _).text (HC2.out.drew _).pos (by decide)).mono ?_; rintro e w' ⟨he, n4, rfl⟩; rw [Nat.add_zero, HY.out] at he; subst he) | (go_at_call 57; refine (some_bad _ s st _ m c N 10 ok hs (by omega) hR'.out hN ((HC2.out.drew _).move (a1 + 2) _ (by omega))).mono ?_; rintro e w' ⟨rfl, hgs⟩))
            exact ⟨rfl, .inr ⟨HRR.out, rfl⟩, ((HG2.out.trans (grown_drewN _ _ _)).trans (grown_set _ ⟨c, 2, none⟩ _)).trans hgs⟩
          have z1 : (Y == 43) = false := by simpa using y1
          have z2 : (Y == 45) = false := by simpa using y2
          rw [hsg, if_neg (fun h => h.elim y1 y2)] at hR' hsz hge
          clear y1 y2
          go_wp2_with (first | (go_at_call 55; refine (peek_z s (a1 + 1) 0 c _ _ hs (by omega) (by omega) HC2.out.text HC2.out.pos (by decide)).mono ?_; rintro e w' ⟨he, n3, rfl⟩; rw [Nat.add_zero, HY.out] at he; subst he) | (go_at_call 55; refine (peek_z s (a1 + 1) 0 c _ _ hs (by omega) (by omega) (HC2.out.drew _).text (HC2.out.drew _).pos (by decide)).mono ?_; rintro e w' ⟨he, n4, rfl⟩; rw [Nat.add_zero, HY.out] at he; subst he) | (go_at_call 57; refine (some_bad _ s st _ m c N 10 ok hs (by omega) hR'.out hN (HC2.out.drew _)).mono ?_; rintro e w' ⟨rfl, hgs⟩))
          exact ⟨rfl, .inr ⟨HRR.out, rfl⟩, (HG2.out.trans (grown_drewN _ _ _)).trans hgs⟩
      | ok h N hR hN =>
        have hlt : a1 < s.size := by rcases h with h | h <;> exact byteAt_lt h (by decide)
        rw [← hX] at h
        clear hX
        obtain ⟨Y, hY⟩ : ∃ Y, Y = byteAt s (a1 + 1) := ⟨_, rfl⟩
        have HY : Hid (byteAt s (a1 + 1) = Y) := hY.symm
        have e1 : IntKind.i64.wrap ((a1 : Int) + 1) = (a1 : Int) + 1 := IntWalk.i64_in _ (by omega)
        have e2 : IntKind.i64.wrap ((a1 : Int) + 1 + 1) = (a1 : Int) + 1 + 1 := IntWalk.i64_in _ (by omega)
        have hsg : signEnd s a1 = if Y = 43 ∨ Y = 45 then a1 + 2 else a1 + 1 := by unfold signEnd; rw [← hY]
        have hR' := Lib.hid hR
        have hsz := hR.size
        have hge := dpos_ge s (signEnd s a1) N
        clear hY hR
        rcases h with rfl | rfl
        ·
          go_upto_region 9 with (go_at_call 55; refine (peek_z s a1 0 c _ _ hs (by omega) (by omega) HCW.out.text HCW.out.pos (by decide)).mono ?_; rintro e w' ⟨he, n1, rfl⟩; rw [Nat.add_zero, HX.out] at he; subst he)
          obtain ⟨W2, hW2⟩ : ∃ W2, W2 = (W.drewN n1).setCell ⟨c, 2, none⟩ (.int .i64 ((a1 : Int) + 1)) := ⟨_, rfl⟩
          have HC2 : Hid (Cur W2 c s st (a1 + 1) m) := by rw [hW2]; exact (HCW.out.drew n1).move (a1 + 1) _ (by omega)
          have HG2 : Hid (w.grownBy W2 (some c)) := by rw [hW2]; exact (HGW.out.trans (grown_drewN _ _ _)).trans (grown_set _ ⟨c, 2, none⟩ _)
          rw [← hW2]
          clear hW2 c2 f2
          have c2 : W2.cell? ⟨c, 2, none⟩ = some (.int .i64 ((a1 : Int) + 1)) := HC2.out.pos
          have f2 := HC2.out.free 2
          by_cases y1 : Y = 43
          · rw [hsg, if_pos (.inl y1)] at hR' hsz hge
            have hrr : R = some (true, dpos s (signEnd s a1) N) := HRR.out
            rw [hsg, if_pos (.inl y1)] at hrr
            have HRD := Lib.hid hrr
            clear hrr
            subst y1
            go_wp2_with (first | (go_at_call 55; refine (peek_z s (a1 + 1) 0 c _ _ hs (by omega) (by omega) HC2.out.text HC2.out.pos (by decide)).mono ?_; rintro e w' ⟨he, n3, rfl⟩; rw [Nat.add_zero, HY.out] at he; subst he) | (go_at_call 57; refine (some_ok _ s st _ m c N 10 hs (by omega) hR'.out hN ((HC2.out.drew _).move (a1 + 2) _ (by omega))).mono ?_; rintro e w' ⟨v, f, rfl, _, _, hcs, hgs⟩))
            go_ret
            exact ⟨.inl ⟨true, _, HRD.out, rfl, hcs⟩, ((HG2.out.trans (grown_drewN _ _ _)).trans (grown_set _ ⟨c, 2, none⟩ _)).trans hgs⟩
          by_cases y2 : Y = 45
          · rw [hsg, if_pos (.inr y2)] at hR' hsz hge
            have hrr : R = some (true, dpos s (signEnd s a1) N) := HRR.out
            rw [hsg, if_pos (.inr y2)] at hrr
            have HRD := Lib.hid hrr
            clear hrr
            subst y2
            go_wp2_with (first | (go_at_call 55; refine (peek_z s (a1 + 1) 0 c _ _ hs (by omega) (by omega) HC2.out.text HC2.out.pos (by decide)).mono ?_; rintro e w' ⟨he, n3, rfl⟩; rw [Nat.add_zero, HY.out] at he; subst he) | (go_at_call 55; refine (peek_z s (a1 + 1) 0 c _ _ hs (by omega) (by omega) (HC2.out.drew _).text (HC2.out.drew _).pos (by decide)).mono ?_; rintro e w' ⟨he, n4, rfl⟩; rw [Nat.add_zero, HY.out] at he; subst he) | (go_at_call 57; refine (some_ok _ s st _ m c N 10 hs (by omega) hR'.out hN ((HC2.out.drew _).move (a1 + 2) _ (by omega))).mono ?_; rintro e w' ⟨v, f, rfl, _, _, hcs, hgs⟩))
            go_ret
            exact ⟨.inl ⟨true, _, HRD.out, rfl, hcs⟩, ((HG2.out.trans (grown_drewN _ _ _)).trans (grown_set _ ⟨c, 2, none⟩ _)).trans hgs⟩
          have z1 : (Y == 43) = false := by simpa using y1
          have z2 : (Y == 45) = false := by simpa using y2
          rw [hsg, if_neg (fun h => h.elim y1 y2)] at hR' hsz hge
          have hrr : R = some (true, dpos s (signEnd s a1) N) := HRR.out
          rw [hsg, if_neg (fun h => h.elim y1 y2)] at hrr
          have HRD := Lib.hid hrr
          clear hrr
          clear y1 y2
          go_wp2_with (first | (go_at_call 55; refine (peek_z s (a1 + 1) 0 c _ _ hs (by omega) (by omega) HC2.out.text HC2.out.pos (by decide)).mono ?_; rintro e w' ⟨he, n3, rfl⟩; rw [Nat.add_zero, HY.out] at he; subst he) | (go_at_call 55; refine (peek_z s (a1 + 1) 0 c _ _ hs (by omega) (by omega) (HC2.out.drew _).text (HC2.out.drew _).pos (by decide)).mono ?_; rintro e w' ⟨he, n4, rfl⟩; rw [Nat.add_zero, HY.out] at he; subst he) | (go_at_call 57; refine (some_ok _ s st _ m c N 10 hs (by omega) hR'.out hN (HC2.out.drew _)).mono ?_; rintro e w' ⟨v, f, rfl, _, _, hcs, hgs⟩))
          go_ret
          exact ⟨.inl ⟨true, _, HRD.out, rfl, hcs⟩, (HG2.out.trans (grown_drewN _ _ _)).trans hgs⟩
        ·
          go_upto_region 9 with (first | (go_at_call 55; refine (peek_z s a1 0 c _ _ hs (by omega) (by omega) HCW.out.text HCW.out.pos (by decide)).mono ?_; rintro e w' ⟨he, n1, rfl⟩; rw [Nat.add_zero, HX.out] at he; subst he) | (go_at_call 55; refine (peek_z s a1 0 c _ _ hs (by omega) (by omega) (HCW.out.drew _).text (HCW.out.drew _).pos (by decide)).mono ?_; rintro e w' ⟨he, n2, rfl⟩; rw [Nat.add_zero, HX.out] at he; subst he))
          obtain ⟨nn, hnn⟩ : ∃ nn, nn = n1 + n2 := ⟨_, rfl⟩
          rw [← hnn]
          obtain ⟨W2, hW2⟩ : ∃ W2, W2 = (W.drewN nn).setCell ⟨c, 2, none⟩ (.int .i64 ((a1 : Int) + 1)) := ⟨_, rfl⟩
          have HC2 : Hid (Cur W2 c s st (a1 + 1) m) := by rw [hW2]; exact (HCW.out.drew nn).move (a1 + 1) _ (by omega)
          have HG2 : Hid (w.grownBy W2 (some c)) := by rw [hW2]; exact (HGW.out.trans (grown_drewN _ _ _)).trans (grown_set _ ⟨c, 2, none⟩ _)
          rw [← hW2]
          clear hW2 c2 f2
          have c2 : W2.cell? ⟨c, 2, none⟩ = some (.int .i64 ((a1 : Int) + 1)) := HC2.out.pos
          have f2 := HC2.out.free 2
          by_cases y1 : Y = 43
          · rw [hsg, if_pos (.inl y1)] at hR' hsz hge
            have hrr : R = some (true, dpos s (signEnd s a1) N) := HRR.out
            rw [hsg, if_pos (.inl y1)] at hrr
            have HRD := Lib.hid hrr
            clear hrr
            subst y1
            go_wp2_with (first | (go_at_call 55; refine (peek_z s (a1 + 1) 0 c _ _ hs (by omega) (by omega) HC2.out.text HC2.out.pos (by decide)).mono ?_; rintro e w' ⟨he, n3, rfl⟩; rw [Nat.add_zero, HY.out] at he; subst he) | (go_at_call 57; refine (some_ok _ s st _ m c N 10 hs (by omega) hR'.out hN ((HC2.out.drew _).move (a1 + 2) _ (by omega))).mono ?_; rintro e w' ⟨v, f, rfl, _, _, hcs, hgs⟩))
            go_ret
            exact ⟨.inl ⟨true, _, HRD.out, rfl, hcs⟩, ((HG2.out.trans (grown_drewN _ _ _)).trans (grown_set _ ⟨c, 2, none⟩ _)).trans hgs⟩
          by_cases y2 : Y = 45
          · rw [hsg, if_pos (.inr y2)] at hR' hsz hge
            have hrr : R = some (true, dpos s (signEnd s a1) N) := HRR.out
            rw [hsg, if_pos (.inr y2)] at hrr
            have HRD := Lib.hid hrr
            clear hrr
            subst y2
            go_wp2_with (first | (go_at_call 55; refine (peek_z s (a1 + 1) 0 c _ _ hs (by omega) (by omega) HC2.out.text HC2.out.pos (by decide)).mono ?_; rintro e w' ⟨he, n3, rfl⟩; rw [Nat.add_zero, HY.out] at he; subst he) | (go_at_call 55; refine (peek_z s (a1 + 1) 0 c _ _ hs (by omega) (by omega) (HC2.out.drew _).text (HC2.out.drew _).pos (by decide)).mono ?_; rintro e w' ⟨he, n4, rfl⟩; rw [Nat.add_zero, HY.out] at he; subst he) | (go_at_call 57; refine (some_ok _ s st _ m c N 10 hs (by omega) hR'.out hN ((HC2.out.drew _).move (a1 + 2) _ (by omega))).mono ?_; rintro e w' ⟨v, f, rfl, _, _, hcs, hgs⟩))
            go_ret
            exact ⟨.inl ⟨true, _, HRD.out, rfl, hcs⟩, ((HG2.out.trans (grown_drewN _ _ _)).trans (grown_set _ ⟨c, 2, none⟩ _)).trans hgs⟩
          have z1 : (Y == 43) = false := by simpa using y1
          have z2 : (Y == 45) = false := by simpa using y2
          rw [hsg, if_neg (fun h => h.elim y1 y2)] at hR' hsz hge
          have hrr : R = some (true, dpos s (signEnd s a1) N) := HRR.out
          rw [hsg, if_neg (fun h => h.elim y1 y2)] at hrr
          have HRD := Lib.hid hrr
          clear hrr
          clear y1 y2
          go_wp2_with (first | (go_at_call 55; refine (peek_z s (a1 + 1) 0 c _ _ hs (by omega) (by omega) HC2.out.text HC2.out.pos (by decide)).mono ?_; rintro e w' ⟨he, n3, rfl⟩; rw [Nat.add_zero, HY.out] at he; subst he) | (go_at_call 55; refine (peek_z s (a1 + 1) 0 c _ _ hs (by omega) (by omega) (HC2.out.drew _).text (HC2.out.drew _).pos (by decide)).mono ?_; rintro e w' ⟨he, n4, rfl⟩; rw [Nat.add_zero, HY.out] at he; subst he) | (go_at_call 57; refine (some_ok _ s st _ m c N 10 hs (by omega) hR'.out hN (HC2.out.drew _)).mono ?_; rintro e w' ⟨v, f, rfl, _, _, hcs, hgs⟩))
          go_ret
          exact ⟨.inl ⟨true, _, HRD.out, rfl, hcs⟩, (HG2.out.trans (grown_drewN _ _ _)).trans hgs⟩
    · have n46 : (byteAt s a == 46) = false := by simpa using h46
      clear h h46
      go_enter Tryz.func58, Tryz.ntmps58
      go_upto_region 6 with (go_at_call 55; refine (peek_z s a 0 c _ _ hs (by omega) (by omega) HC.out.text HC.out.pos (by decide)).mono ?_; rintro e w' ⟨he, n, rfl⟩; rw [Nat.add_zero] at he; subst he)
      obtain ⟨W, hW⟩ : ∃ W, W = w.drewN n := ⟨_, rfl⟩
      obtain ⟨a1, ha1⟩ : ∃ a1, a1 = a := ⟨_, rfl⟩
      have HCW : Hid (Cur W c s st a1 m) := by rw [hW, ha1]; exact HC.out.drew n
      have HGW : Hid (w.grownBy W (some c)) := by rw [hW]; exact grown_drewN _ _ _
      rw [← hW]
      rw [← ha1] at hx ha
      clear hW ha1 n46
      have c2 := HCW.out.pos
      have f2 := HCW.out.free 2
      obtain ⟨X, hX⟩ : ∃ X, X = byteAt s a1 := ⟨_, rfl⟩
      have HX : Hid (byteAt s a1 = X) := hX.symm
      cases hx with
      | no h1 h2 =>
        rw [← hX] at h1 h2
        have x1 : (X != 101) = true := by simpa using h1
        have x2 : (X != 69) = true := by simpa using h2
        clear h1 h2 hX
        go_wp2_with (first | (go_at_call 55; refine (peek_z s a1 0 c _ _ hs (by omega) (by omega) HCW.out.text HCW.out.pos (by decide)).mono ?_; rintro e w' ⟨he, n1, rfl⟩; rw [Nat.add_zero, HX.out] at he; subst he) | (go_at_call 55; refine (peek_z s a1 0 c _ _ hs (by omega) (by omega) (HCW.out.drew _).text (HCW.out.drew _).pos (by decide)).mono ?_; rintro e w' ⟨he, n2, rfl⟩; rw [Nat.add_zero, HX.out] at he; subst he))
        go_ret
        exact ⟨.inl ⟨false, a1, HRR.out, rfl, HCW.out.drew _⟩, HGW.out.trans (grown_drewN _ _ _)⟩
      | bad h N ok hR hN =>
        have hlt : a1 < s.size := by rcases h with h | h <;> exact byteAt_lt h (by decide)
        rw [← hX] at h
        clear hX
        obtain ⟨Y, hY⟩ : ∃ Y, Y = byteAt s (a1 + 1) := ⟨_, rfl⟩
        have HY : Hid (byteAt s (a1 + 1) = Y) := hY.symm
        have e1 : IntKind.i64.wrap ((a1 : Int) + 1) = (a1 : Int) + 1 := IntWalk.i64_in _ (by omega)
        have e2 : IntKind.i64.wrap ((a1 : Int) + 1 + 1) = (a1 : Int) + 1 + 1 := IntWalk.i64_in _ (by omega)
        have hsg : signEnd s a1 = if Y = 43 ∨ Y = 45 then a1 + 2 else a1 + 1 := by unfold signEnd; rw [← hY]
        have hR' := Lib.hid hR
        have hsz := hR.size
        have hge := dpos_ge s (signEnd s a1) N
        clear hY hR
        rcases h with rfl | rfl
        ·
          go_upto_region 9 with (go_at_call 55; refine (peek_z s a1 0 c _ _ hs (by omega) (by omega) HCW.out.text HCW.out.pos (by decide)).mono ?_; rintro e w' ⟨he, n1, rfl⟩; rw [Nat.add_zero, HX.out] at he; subst he)
          obtain ⟨W2, hW2⟩ : ∃ W2, W2 = (W.drewN n1).setCell ⟨c, 2, none⟩ (.int .i64 ((a1 : Int) + 1)) := ⟨_, rfl⟩
          have HC2 : Hid (Cur W2 c s st (a1 + 1) m) := by rw [hW2]; exact (HCW.out.drew n1).move (a1 + 1) _ (by omega)
          have HG2 : Hid (w.grownBy W2 (some c)) := by rw [hW2]; exact (HGW.out.trans (grown_drewN _ _ _)).trans (grown_set _ ⟨c, 2, none⟩ _)
          rw [← hW2]
          clear hW2 c2 f2
          have c2 : W2.cell? ⟨c, 2, none⟩ = some (.int .i64 ((a1 : Int) + 1)) := HC2.out.pos
          have f2 := HC2.out.free 2
          by_cases y1 : Y = 43
          · rw [hsg, if_pos (.inl y1)] at hR' hsz hge
            subst y1
            go_wp2_with (first | (go_at_call 55; refine (peek_z s (a1 + 1) 0 c _ _ hs (by omega) (by omega) HC2.out.text HC2.out.pos (by decide)).mono ?_; rintro e w' ⟨he, n3, rfl⟩; rw [Nat.add_zero, HY.out] at he; subst he) | (go_at_call 57; refine (some_bad _ s st _ m c N 10 ok hs (by omega) hR'.out hN ((HC2.out.drew _).move (a1 + 2) _ (by omega))).mono ?_; rintro e w' ⟨rfl, hgs⟩))
            exact ⟨rfl, .inr ⟨HRR.out, rfl⟩, ((HG2.out.trans (grown_drewN _ _ _)).trans (grown_set _ ⟨c, 2, none⟩ _)).trans hgs⟩
          by_cases y2 : Y = 45
          · rw [hsg, if_pos (.inr y2)] at hR' hsz hge
            subst y2
            go_wp2_with (first | (go_at_call 55; refine (peek_z s (a1 + 1) 0 c _ _ hs (by omega) (by omega) HC2.out.text HC2.out.pos (by decide)).mono ?_; rintro e w' ⟨he, n3, rfl⟩; rw [Nat.add_zero, HY.out] at he; subst he) | (go_at_call 55; refine (peek_z s (a1 + 1) 0 c _ _ hs (by omega) (by omega) (HC2.out.drew _).text (HC2.out.drew _).pos (by decide)).mono ?_; rintro e w' ⟨he, n4, rfl⟩; rw [Nat.add_zero, HY.out] at he; subst he) | (go_at_call 57; refine (some_bad _ s st _ m c N 10 ok hs (by omega) hR'.out hN ((HC2.out.drew _).move (a1 + 2) _ (by omega))).mono ?_; rintro e w' ⟨rfl, hgs⟩))
            exact ⟨rfl, .inr ⟨HRR.out, rfl⟩, ((HG2.out.trans (grown_drewN _ _ _)).trans (grown_set _ ⟨c, 2, none⟩ _)).trans hgs⟩
          have z1 : (Y == 43) = false := by simpa using y1
          have z2 : (Y == 45) = false := by simpa using y2
          rw [hsg, if_neg (fun h => h.elim y1 y2)] at hR' hsz hge
          clear y1 y2
          go_wp2_with (first | (go_at_call 55; refine (peek_z s (a1 + 1) 0 c _ _ hs (by omega) (by omega) HC2.out.text HC2.out.pos (by decide)).mono ?_; rintro e w' ⟨he, n3, rfl⟩; rw [Nat.add_zero, HY.out] at he; subst he) | (go_at_call 55; refine (peek_z s (a1 + 1) 0 c _ _ hs (by omega) (by omega) (HC2.out.drew _).text (HC2.out.drew _).pos (by decide)).mono ?_; rintro e w' ⟨he, n4, rfl⟩; rw [Nat.add_zero, HY.out] at he; subst he) | (go_at_call 57; refine (some_bad _ s st _ m c N 10 ok hs (by omega) hR'.out hN (HC2.out.drew _)).mono ?_; rintro e w' ⟨rfl, hgs⟩))
          exact ⟨rfl, .inr ⟨HRR.out, rfl⟩, (HG2.out.trans (grown_drewN _ _ _)).trans hgs⟩
        ·
          go_upto_region 9 with (first | (go_at_call 55; refine (peek_z s a1 0 c _ _ hs (by omega) (by omega) HCW.out.text HCW.out.pos (by decide)).mono ?_; rintro e w' ⟨he, n1, rfl⟩; rw [Nat.add_zero, HX.out] at he; subst he) | (go_at_call 55; refine (peek_z s a1 0 c _ _ hs (by omega) (by omega) (HCW.out.drew _).text (HCW.out.drew _).pos (by decide)).mono ?_; rintro e w' ⟨he, n2, rfl⟩; rw [Nat.add_zero, HX.out] at he; subst he))
          obtain ⟨nn, hnn⟩ : ∃ nn, nn = n1 + n2 := ⟨_, rfl⟩
          rw [← hnn]
          obtain ⟨W2, hW2⟩ : ∃ W2, W2 = (W.drewN nn).setCell ⟨c, 2, none⟩ (.int .i64 ((a1 : Int) + 1)) := ⟨_, rfl⟩
          have HC2 : Hid (Cur W2 c s st (a1 + 1) m) := by rw [hW2]; exact (HCW.out.drew nn).move (a1 + 1) _ (by omega)
          have HG2 : Hid (w.grownBy W2 (some c)) := by rw [hW2]; exact (HGW.out.trans (grown_drewN _ _ _)).trans (grown_set _ ⟨c, 2, none⟩ _)
          rw [← hW2]
          clear hW2 c2 f2
          have c2 : W2.cell? ⟨c, 2, none⟩ = some (.int .i64 ((a1 : Int) + 1)) := HC2.out.pos
          have f2 := HC2.out.free 2
          by_cases y1 : Y = 43
          · rw [hsg, if_pos (.inl y1)] at hR' hsz hge
            subst y1
            go_wp2_with (first | (go_at_call 55; refine (peek_z s (a1 + 1) 0 c _ _ hs (by omega) (by omega) HC2.out.text HC2.out.pos (by decide)).mono ?_; rintro e w' ⟨he, n3, rfl⟩; rw [Nat.add_zero, HY.out] at he; subst he) | (go_at_call 57; refine (some_bad _ s st _ m c N 10 ok hs (by omega) hR'.out hN ((HC2.out.drew _).move (a1 + 2) _ (by omega))).mono ?_; rintro e w' ⟨rfl, hgs⟩))
            exact ⟨rfl, .inr ⟨HRR.out, rfl⟩, ((HG2.out.trans (grown_drewN _ _ _)).trans (grown_set _ ⟨c, 2, none⟩ _)).trans hgs⟩
          by_cases y2 : Y = 45
          · rw [hsg, if_pos (.inr y2)] at hR' hsz hge
            subst y2
            go_wp2_with (first | (go_at_call 55; refine (peek_z s (a1 + 1) 0 c _ _ hs (by omega) (by omega) HC2.out.text HC2.out.pos (by decide)).mono ?_; rintro e w' ⟨he, n3, rfl⟩; rw [Nat.add_zero, HY.out] at he; subst he) | (go_at_call 55; refine (peek_z s (a1 + 1) 0 c _ _ hs (by omega) (by omega) (HC2.out.drew _).text (HC2.out.drew _).pos (by decide)).mono ?_; rintro e w' ⟨he, n4, rfl⟩; rw [Nat.add_zero, HY.out] at he; subst he) | (go_at_call 57; refine (some_bad _ s st _ m c N 10 ok hs (by omega) hR'.out hN ((HC2.out.drew _).move (a1 + 2) _ (by omega))).mono ?_; rintro e w' ⟨rfl, hgs⟩))
            exact ⟨rfl, .inr ⟨HRR.out, rfl⟩, ((HG2.out.trans (grown_drewN _ _ _)).trans (grown_set _ ⟨c, 2, none⟩ _)).trans hgs⟩
          have z1 : (Y == 43) = false := by simpa using y1
          have z2 : (Y == 45) = false := by simpa using y2
          rw [hsg, if_neg (fun h => h.elim y1 y2)] at hR' hsz hge
          clear y1 y2
          go_wp2_with (first | (go_at_call 55; refine (peek_z s (a1 + 1) 0 c _ _ hs (by omega) (by omega) HC2.out.text HC2.out.pos (by decide)).mono ?_; rintro e w' ⟨he, n3, rfl⟩; rw [Nat.add_zero, HY.out] at he; subst he) | (go_at_call 55; refine (peek_z s (a1 + 1) 0 c _ _ hs (by omega) (by omega) (HC2.out.drew _).text (HC2.out.drew _).pos (by decide)).mono ?_; rintro e w' ⟨he, n4, rfl⟩; rw [Nat.add_zero, HY.out] at he; subst he) | (go_at_call 57; refine (some_bad _ s st _ m c N 10 ok hs (by omega) hR'.out hN (HC2.out.drew _)).mono ?_; rintro e w' ⟨rfl, hgs⟩))
          exact ⟨rfl, .inr ⟨HRR.out, rfl⟩, (HG2.out.trans (grown_drewN _ _ _)).trans hgs⟩
      | ok h N hR hN =>
        have hlt : a1 < s.size := by rcases h with h | h <;> exact byteAt_lt h (by decide)
        rw [← hX] at h
        clear hX
        obtain ⟨Y, hY⟩ : ∃ Y, Y = byteAt s (a1 + 1) := ⟨_, rfl⟩
        have HY : Hid (byteAt s (a1 + 1) = Y) := hY.symm
        have e1 : IntKind.i64.wrap ((a1 : Int) + 1) = (a1 : Int) + 1 := IntWalk.i64_in _ (by omega)
        have e2 : IntKind.i64.wrap ((a1 : Int) + 1 + 1) = (a1 : Int) + 1 + 1 := IntWalk.i64_in _ (by omega)
        have hsg : signEnd s a1 = if Y = 43 ∨ Y = 45 then a1 + 2 else a1 + 1 := by unfold signEnd; rw [← hY]
        have hR' := Lib.hid hR
        have hsz := hR.size
        have hge := dpos_ge s (signEnd s a1) N
        clear hY hR
        rcases h with rfl | rfl
        ·
          go_upto_region 9 with (go_at_call 55; refine (peek_z s a1 0 c _ _ hs (by omega) (by omega) HCW.out.text HCW.out.pos (by decide)).mono ?_; rintro e w' ⟨he, n1, rfl⟩; rw [Nat.add_zero, HX.out] at he; subst he)
          obtain ⟨W2, hW2⟩ : ∃ W2, W2 = (W.drewN n1).setCell ⟨c, 2, none⟩ (.int .i64 ((a1 : Int) + 1)) := ⟨_, rfl⟩
          have HC2 : Hid (Cur W2 c s st (a1 + 1) m) := by rw [hW2]; exact (HCW.out.drew n1).move (a1 + 1) _ (by omega)
          have HG2 : Hid (w.grownBy W2 (some c)) := by rw [hW2]; exact (HGW.out.trans (grown_drewN _ _ _)).trans (grown_set _ ⟨c, 2, none⟩ _)
          rw [← hW2]
          clear hW2 c2 f2
          have c2 : W2.cell? ⟨c, 2, none⟩ = some (.int .i64 ((a1 : Int) + 1)) := HC2.out.pos
          have f2 := HC2.out.free 2
          by_cases y1 : Y = 43
          · rw [hsg, if_pos (.inl y1)] at hR' hsz hge
            have hrr : R = some (true, dpos s (signEnd s a1) N) := HRR.out
            rw [hsg, if_pos (.inl y1)] at hrr
            have HRD := Lib.hid hrr
            clear hrr
            subst y1
            go_wp2_with (first | (go_at_call 55; refine (peek_z s (a1 + 1) 0 c _ _ hs (by omega) (by omega) HC2.out.text HC2.out.pos (by decide)).mono ?_; rintro e w' ⟨he, n3, rfl⟩; rw [Nat.add_zero, HY.out] at he; subst he) | (go_at_call 57; refine (some_ok _ s st _ m c N 10 hs (by omega) hR'.out hN ((HC2.out.drew _).move (a1 + 2) _ (by omega))).mono ?_; rintro e w' ⟨v, f, rfl, _, _, hcs, hgs⟩))
            go_ret
            exact ⟨.inl ⟨true, _, HRD.out, rfl, hcs⟩, ((HG2.out.trans (grown_drewN _ _ _)).trans (grown_set _ ⟨c, 2, none⟩ _)).trans hgs⟩
          by_cases y2 : Y = 45
          · rw [hsg, if_pos (.inr y2)] at hR' hsz hge
            have hrr : R = some (true, dpos s (signEnd s a1) N) := HRR.out
            rw [hsg, if_pos (.inr y2)] at hrr
            have HRD := Lib.hid hrr
            clear hrr
            subst y2
            go_wp2_with (first | (go_at_call 55; refine (peek_z s (a1 + 1) 0 c _ _ hs (by omega) (by omega) HC2.out.text HC2.out.pos (by decide)).mono ?_; rintro e w' ⟨he, n3, rfl⟩; rw [Nat.add_zero, HY.out] at he; subst he) | (go_at_call 55; refine (peek_z s (a1 + 1) 0 c _ _ hs (by omega) (by omega) (HC2.out.drew _).text (HC2.out.drew _).pos (by decide)).mono ?_; rintro e w' ⟨he, n4, rfl⟩; rw [Nat.add_zero, HY.out] at he; subst he) | (go_at_call 57; refine (some_ok _ s st _ m c N 10 hs (by omega) hR'.out hN ((HC2.out.drew _).move (a1 + 2) _ (by omega))).mono ?_; rintro e w' ⟨v, f, rfl, _, _, hcs, hgs⟩))
            go_ret
            exact ⟨.inl ⟨true, _, HRD.out, rfl, hcs⟩, ((HG2.out.trans (grown_drewN _ _ _)).trans (grown_set _ ⟨c, 2, none⟩ _)).trans hgs⟩
          have z1 : (Y == 43) = false := by simpa using y1
          have z2 : (Y == 45) = false := by simpa using y2
          rw [hsg, if_neg (fun h => h.elim y1 y2)] at hR' hsz hge
          have hrr : R = some (true, dpos s (signEnd s a1) N) := HRR.out
          rw [hsg, if_neg (fun h => h.elim y1 y2)] at hrr
          have HRD := Lib.hid hrr
          clear hrr
          clear y1 y2
          go_wp2_with (first | (go_at_call 55; refine (peek_z s (a1 + 1) 0 c _ _ hs (by omega) (by omega) HC2.out.text HC2.out.pos (by decide)).mono ?_; rintro e w' ⟨he, n3, rfl⟩; rw [Nat.add_zero, HY.out] at he; subst he) | (go_at_call 55; refine (peek_z s (a1 + 1) 0 c _ _ hs (by omega) (by omega) (HC2.out.drew _).text (HC2.out.drew _).pos (by decide)).mono ?_; rintro e w' ⟨he, n4, rfl⟩; rw [Nat.add_zero, HY.out] at he; subst he) | (go_at_call 57; refine (some_ok _ s st _ m c N 10 hs (by omega) hR'.out hN (HC2.out.drew _)).mono ?_; rintro e w' ⟨v, f, rfl, _, _, hcs, hgs⟩))
          go_ret
          exact ⟨.inl ⟨true, _, HRD.out, rfl, hcs⟩, (HG2.out.trans (grown_drewN _ _ _)).trans hgs⟩
        ·
          go_upto_region 9 with (first | (go_at_call 55; refine (peek_z s a1 0 c _ _ hs (by omega) (by omega) HCW.out.text HCW.out.pos (by decide)).mono ?_; rintro e w' ⟨he, n1, rfl⟩; rw [Nat.add_zero, HX.out] at he; subst he) | (go_at_call 55; refine (peek_z s a1 0 c _ _ hs (by omega) (by omega) (HCW.out.drew _).text (HCW.out.drew _).pos (by decide)).mono ?_; rintro e w' ⟨he, n2, rfl⟩; rw [Nat.add_zero, HX.out] at he; subst he))
          obtain ⟨nn, hnn⟩ : ∃ nn, nn = n1 + n2 := ⟨_, rfl⟩
          rw [← hnn]
          obtain ⟨W2, hW2⟩ : ∃ W2, W2 = (W.drewN nn).setCell ⟨c, 2, none⟩ (.int .i64 ((a1 : Int) + 1)) := ⟨_, rfl⟩
          have HC2 : Hid (Cur W2 c s st (a1 + 1) m) := by rw [hW2]; exact (HCW.out.drew nn).move (a1 + 1) _ (by omega)
          have HG2 : Hid (w.grownBy W2 (some c)) := by rw [hW2]; exact (HGW.out.trans (grown_drewN _ _ _)).trans (grown_set _ ⟨c, 2, none⟩ _)
          rw [← hW2]
          clear hW2 c2 f2
          have c2 : W2.cell? ⟨c, 2, none⟩ = some (.int .i64 ((a1 : Int) + 1)) := HC2.out.pos
          have f2 := HC2.out.free 2
          by_cases y1 : Y = 43
          · rw [hsg, if_pos (.inl y1)] at hR' hsz hge
            have hrr : R = some (true, dpos s (signEnd s a1) N) := HRR.out
            rw [hsg, if_pos (.inl y1)] at hrr
            have HRD := Lib.hid hrr
            clear hrr
            subst y1
            go_wp2_with (first | (go_at_call 55; refine (peek_z s (a1 + 1) 0 c _ _ hs (by omega) (by omega) HC2.out.text HC2.out.pos (by decide)).mono ?_; rintro e w' ⟨he, n3, rfl⟩; rw [Nat.add_zero, HY.out] at he; subst he) | (go_at_call 57; refine (some_ok _ s st _ m c N 10 hs (by omega) hR'.out hN ((HC2.out.drew _).move (a1 + 2) _ (by omega))).mono ?_; rintro e w' ⟨v, f, rfl, _, _, hcs, hgs⟩))
            go_ret
            exact ⟨.inl ⟨true, _, HRD.out, rfl, hcs⟩, ((HG2.out.trans (grown_drewN _ _ _)).trans (grown_set _ ⟨c, 2, none⟩ _)).trans hgs⟩
          by_cases y2 : Y = 45
          · rw [hsg, if_pos (.inr y2)] at hR' hsz hge
            have hrr : R = some (true, dpos s (signEnd s a1) N) := HRR.out
            rw [hsg, if_pos (.inr y2)] at hrr
            have HRD := Lib.hid hrr
            clear hrr
            subst y2
            go_wp2_with (first | (go_at_call 55; refine (peek_z s (a1 + 1) 0 c _ _ hs (by omega) (by omega) HC2.out.text HC2.out.pos (by decide)).mono ?_; rintro e w' ⟨he, n3, rfl⟩; rw [Nat.add_zero, HY.out] at he; subst he) | (go_at_call 55; refine (peek_z s (a1 + 1) 0 c _ _ hs (by omega) (by omega) (HC2.out.drew _).text (HC2.out.drew _).pos (by decide)).mono ?_; rintro e w' ⟨he, n4, rfl⟩; rw [Nat.add_zero, HY.out] at he; subst he) | (go_at_call 57; refine (some_ok _ s st _ m c N 10 hs (by omega) hR'.out hN ((HC2.out.drew _).move (a1 + 2) _ (by omega))).mono ?_; rintro e w' ⟨v, f, rfl, _, _, hcs, hgs⟩))
            go_ret
            exact ⟨.inl ⟨true, _, HRD.out, rfl, hcs⟩, ((HG2.out.trans (grown_drewN _ _ _)).trans (grown_set _ ⟨c, 2, none⟩ _)).trans hgs⟩
          have z1 : (Y == 43) = false := by simpa using y1
          have z2 : (Y == 45) = false := by simpa using y2
          rw [hsg, if_neg (fun h => h.elim y1 y2)] at hR' hsz hge
          have hrr : R = some (true, dpos s (signEnd s a1) N) := HRR.out
          rw [hsg, if_neg (fun h => h.elim y1 y2)] at hrr
          have HRD := Lib.hid hrr
          clear hrr
          clear y1 y2
          go_wp2_with (first | (go_at_call 55; refine (peek_z s (a1 + 1) 0 c _ _ hs (by omega) (by omega) HC2.out.text HC2.out.pos (by decide)).mono ?_; rintro e w' ⟨he, n3, rfl⟩; rw [Nat.add_zero, HY.out] at he; subst he) | (go_at_call 55; refine (peek_z s (a1 + 1) 0 c _ _ hs (by omega) (by omega) (HC2.out.drew _).text (HC2.out.drew _).pos (by decide)).mono ?_; rintro e w' ⟨he, n4, rfl⟩; rw [Nat.add_zero, HY.out] at he; subst he) | (go_at_call 57; refine (some_ok _ s st _ m c N 10 hs (by omega) hR'.out hN (HC2.out.drew _)).mono ?_; rintro e w' ⟨v, f, rfl, _, _, hcs, hgs⟩))
          go_ret
          exact ⟨.inl ⟨true, _, HRD.out, rfl, hcs⟩, (HG2.out.trans (grown_drewN _ _ _)).trans hgs⟩
  | badPoint h46 hdg N ok hR hN =>
    have hlt : a < s.size := byteAt_lt h46 (by decide)
    have e1 : IntKind.i64.wrap ((a : Int) + 1) = (a : Int) + 1 := IntWalk.i64_in _ (by omega)
    have H0 := Lib.hid h46
    have H1 := Lib.hid hdg
    have hR' := Lib.hid hR
    have c2 := HC.out.pos
    have f2 := HC.out.free 2
    clear h46 hdg hR
    go_enter Tryz.func58, Tryz.ntmps58
    go_wp2_with (first | (go_at_call 28; refine (isDigit_any _ _).mono ?_; rintro e w' ⟨he, rfl⟩; rw [H1.out] at he; subst he) | (go_at_call 55; refine (peek_z s a 0 c _ _ hs (by omega) (by omega) HC.out.text HC.out.pos (by decide)).mono ?_; rintro e w' ⟨he, n, rfl⟩; rw [Nat.add_zero, H0.out] at he; subst he) | (go_at_call 55; refine (peek_z s a 1 c _ _ hs (by omega) (by omega) (HC.out.drew _).text (HC.out.drew _).pos (by decide)).mono ?_; rintro e w' ⟨he, n0, rfl⟩; subst he) | (go_at_call 57; refine (some_bad _ s st _ m c N 10 ok hs (by omega) hR'.out hN ((HC.out.drew _).move (a + 1) _ (by omega))).mono ?_; rintro e w' ⟨rfl, hgs⟩))
    exact ⟨rfl, .inr ⟨HRR.out, rfl⟩, ((grown_drewN _ _ _).trans (grown_set _ ⟨c, 2, none⟩ _)).trans hgs⟩
  | point h46 hdg N hR hN r hx =>
    have hlt : a < s.size := byteAt_lt h46 (by decide)
    have e1 : IntKind.i64.wrap ((a : Int) + 1) = (a : Int) + 1 := IntWalk.i64_in _ (by omega)
    have hsz1 := hR.size
    have H0 := Lib.hid h46
    have H1 := Lib.hid hdg
    have hR0 := Lib.hid hR
    have c2 := HC.out.pos
    have f2 := HC.out.free 2
    clear h46 hdg hR
    go_enter Tryz.func58, Tryz.ntmps58
    go_upto_region 6 with (first | (go_at_call 28; refine (isDigit_any _ _).mono ?_; rintro e w' ⟨he, rfl⟩; rw [H1.out] at he; subst he) | (go_at_call 55; refine (peek_z s a 0 c _ _ hs (by omega) (by omega) HC.out.text HC.out.pos (by decide)).mono ?_; rintro e w' ⟨he, n, rfl⟩; rw [Nat.add_zero, H0.out] at he; subst he) | (go_at_call 55; refine (peek_z s a 1 c _ _ hs (by omega) (by omega) (HC.out.drew _).text (HC.out.drew _).pos (by decide)).mono ?_; rintro e w' ⟨he, n0, rfl⟩; subst he) | (go_at_call 57; refine (some_ok _ s st _ m c N 10 hs (by omega) hR0.out hN ((HC.out.drew _).move (a + 1) _ (by omega))).mono ?_; rintro e W ⟨v, f, rfl, _, _, hcs, hgs⟩))
    obtain ⟨a1, ha1⟩ : ∃ a1, a1 = dpos s (a + 1) N := ⟨_, rfl⟩
    have HCW : Hid (Cur W c s st a1 m) := by rw [ha1]; exact hcs
    have HGW : Hid (w.grownBy W (some c)) := ((grown_drewN _ _ _).trans (grown_set _ ⟨c, 2, none⟩ _)).trans hgs
    rw [← ha1] at hx hsz1
    have ha := hsz1
    clear ha1 hcs hgs c2 f2 e1 hsz1 hlt
    have c2 := HCW.out.pos
    have f2 := HCW.out.free 2
    obtain ⟨X, hX⟩ : ∃ X, X = byteAt s a1 := ⟨_, rfl⟩
    have HX : Hid (byteAt s a1 = X) := hX.symm
    cases hx with
    | no h1 h2 =>
      rw [← hX] at h1 h2
      have x1 : (X != 101) = true := by simpa using h1
      have x2 : (X != 69) = true := by simpa using h2
      clear h1 h2 hX
      go_wp2_with (first | (go_at_call 55; refine (peek_z s a1 0 c _ _ hs (by omega) (by omega) HCW.out.text HCW.out.pos (by decide)).mono ?_; rintro e w' ⟨he, n1, rfl⟩; rw [Nat.add_zero, HX.out] at he; subst he) | (go_at_call 55; refine (peek_z s a1 0 c _ _ hs (by omega) (by omega) (HCW.out.drew _).text (HCW.out.drew _).pos (by decide)).mono ?_; rintro e w' ⟨he, n2, rfl⟩; rw [Nat.add_zero, HX.out] at he; subst he))
      go_ret
      exact ⟨.inl ⟨true, a1, HRR.out, rfl, HCW.out.drew _⟩, HGW.out.trans (grown_drewN _ _ _)⟩
    | bad h N ok hR hN =>
      have hlt : a1 < s.size := by rcases h with h | h <;> exact byteAt_lt h (by decide)
      rw [← hX] at h
      clear hX
      obtain ⟨Y, hY⟩ : ∃ Y, Y = byteAt s (a1 + 1) := ⟨_, rfl⟩
      have HY : Hid (byteAt s (a1 + 1) = Y) := hY.symm
      have e1 : IntKind.i64.wrap ((a1 : Int) + 1) = (a1 : Int) + 1 := IntWalk.i64_in _ (by omega)
      have e2 : IntKind.i64.wrap ((a1 : Int) + 1 + 1) = (a1 : Int) + 1 + 1 := IntWalk.i64_in _ (by omega)
      have hsg : signEnd s a1 = if Y = 43 ∨ Y = 45 then a1 + 2 else a1 + 1 := by unfold signEnd; rw [← hY]
      have hR' := Lib.hid hR
      have hsz := hR.size
      have hge := dpos_ge s (signEnd s a1) N
      clear hY hR
      rcases h with rfl | rfl
      ·
        go_upto_region 9 with (go_at_call 55; refine (peek_z s a1 0 c _ _ hs (by omega) (by omega) HCW.out.text HCW.out.pos (by decide)).mono ?_; rintro e w' ⟨he, n1, rfl⟩; rw [Nat.add_zero, HX.out] at he; subst he)
        obtain ⟨W2, hW2⟩ : ∃ W2, W2 = (W.drewN n1).setCell ⟨c, 2, none⟩ (.int .i64 ((a1 : Int) + 1)) := ⟨_, rfl⟩
        have HC2 : Hid (Cur W2 c s st (a1 + 1) m) := by rw [hW2]; exact (HCW.out.drew n1).move (a1 + 1) _ (by omega)
        have HG2 : Hid (w.grownBy W2 (some c)) := by rw [hW2]; exact (HGW.out.trans (grown_drewN _ _ _)).trans (grown_set _ ⟨c, 2, none⟩ _)
        rw [← hW2]
        clear hW2 c2 f2
        have c2 : W2.cell? ⟨c, 2, none⟩ = some (.int .i64 ((a1 : Int) + 1)) := HC2.out.pos
        have f2 := HC2.out.free 2
        by_cases y1 : Y = 43
        · rw [hsg, if_pos (.inl y1)] at hR' hsz hge
          subst y1
          go_wp2_with (first | (go_at_call 55; refine (peek_z s (a1 + 1) 0 c _ _ hs (by omega) (by omega) HC2.out.text HC2.out.pos (by decide)).mono ?_; rintro e w' ⟨he, n3, rfl⟩; rw [Nat.add_zero, HY.out] at he; subst he) | (go_at_call 57; refine (some_bad _ s st _ m c N 10 ok hs (by omega) hR'.out hN ((HC2.out.drew _).move (a1 + 2) _ (by omega))).mono ?_; rintro e w' ⟨rfl, hgs⟩))
          exact ⟨rfl, .inr ⟨HRR.out, rfl⟩, ((HG2.out.trans (grown_drewN _ _ _)).trans (grown_set _ ⟨c, 2, none⟩ _)).trans hgs⟩
        by_cases y2 : Y = 45
        · rw [hsg, if_pos (.inr y2)] at hR' hsz hge
          subst y2
          go_wp2_with (first | (go_at_call 55; refine (peek_z s (a1 + 1) 0 c _ _ hs (by omega) (by omega) HC2.out.text HC2.out.pos (by decide)).mono ?_; rintro e w' ⟨he, n3, rfl⟩; rw [Nat.add_zero, HY.out] at he; subst he) | (go_at_call 55; refine (peek_z s (a1 + 1) 0 c _ _ hs (by omega) (by omega) (HC2.out.drew _).text (HC2.out.drew _).pos (by decide)).mono ?_; rintro e w' ⟨he, n4, rfl⟩; rw [Nat.add_zero, HY.out] at he; subst he) | (go_at_call 57; refine (some_bad _ s st _ m c N 10 ok hs (by omega) hR'.out hN ((HC2.out.drew _).move (a1 + 2) _ (by omega))).mono ?_; rintro e w' ⟨rfl, hgs⟩))
          exact ⟨rfl, .inr ⟨HRR.out, rfl⟩, ((HG2.out.trans (grown_drewN _ _ _)).trans (grown_set _ ⟨c, 2, none⟩ _)).trans hgs⟩
        have z1 : (Y == 43) = false := by simpa using y1
        have z2 : (Y == 45) = false := by simpa using y2
        rw [hsg, if_neg (fun h => h.elim y1 y2)] at hR' hsz hge
        clear y1 y2
        go_wp2_with (first | (go_at_call 55; refine (peek_z s (a1 + 1) 0 c _ _ hs (by omega) (by omega) HC2.out.text HC2.out.pos (by decide)).mono ?_; rintro e w' ⟨he, n3, rfl⟩; rw [Nat.add_zero, HY.out] at he; subst he) | (go_at_call 55; refine (peek_z s (a1 + 1) 0 c _ _ hs (by omega) (by omega) (HC2.out.drew _).text (HC2.out.drew _).pos (by decide)).mono ?_; rintro e w' ⟨he, n4, rfl⟩; rw [Nat.add_zero, HY.out] at he; subst he) | (go_at_call 57; refine (some_bad _ s st _ m c N 10 ok hs (by omega) hR'.out hN (HC2.out.drew _)).mono ?_; rintro e w' ⟨rfl, hgs⟩))
        exact ⟨rfl, .inr ⟨HRR.out, rfl⟩, (HG2.out.trans (grown_drewN _ _ _)).trans hgs⟩
      ·
        go_upto_region 9 with (first | (go_at_call 55; refine (peek_z s a1 0 c _ _ hs (by omega) (by omega) HCW.out.text HCW.out.pos (by decide)).mono ?_; rintro e w' ⟨he, n1, rfl⟩; rw [Nat.add_zero, HX.out] at he; subst he) | (go_at_call 55; refine (peek_z s a1 0 c _ _ hs (by omega) (by omega) (HCW.out.drew _).text (HCW.out.drew _).pos (by decide)).mono ?_; rintro e w' ⟨he, n2, rfl⟩; rw [Nat.add_zero, HX.out] at he; subst he))
        obtain ⟨nn, hnn⟩ : ∃ nn, nn = n1 + n2 := ⟨_, rfl⟩
        rw [← hnn]
        obtain ⟨W2, hW2⟩ : ∃ W2, W2 = (W.drewN nn).setCell ⟨c, 2, none⟩ (.int .i64 ((a1 : Int) + 1)) := ⟨_, rfl⟩
        have HC2 : Hid (Cur W2 c s st (a1 + 1) m) := by rw [hW2]; exact (HCW.out.drew nn).move (a1 + 1) _ (by omega)
        have HG2 : Hid (w.grownBy W2 (some c)) := by rw [hW2]; exact (HGW.out.trans (grown_drewN _ _ _)).trans (grown_set _ ⟨c, 2, none⟩ _)
        rw [← hW2]
        clear hW2 c2 f2
        have c2 : W2.cell? ⟨c, 2, none⟩ = some (.int .i64 ((a1 : Int) + 1)) := HC2.out.pos
        have f2 := HC2.out.free 2
        by_cases y1 : Y = 43
        · rw [hsg, if_pos (.inl y1)] at hR' hsz hge
          subst y1
          go_wp2_with (first | (go_at_call 55; refine (peek_z s (a1 + 1) 0 c _ _ hs (by omega) (by omega) HC2.out.text HC2.out.pos (by decide)).mono ?_; rintro e w' ⟨he, n3, rfl⟩; rw [Nat.add_zero, HY.out] at he; subst he) | (go_at_call 57; refine (some_bad _ s st _ m c N 10 ok hs (by omega) hR'.out hN ((HC2.out.drew _).move (a1 + 2) _ (by omega))).mono ?_; rintro e w' ⟨rfl, hgs⟩))
          exact ⟨rfl, .inr ⟨HRR.out, rfl⟩, ((HG2.out.trans (grown_drewN _ _ _)).trans (grown_set _ ⟨c, 2, none⟩ _)).trans hgs⟩
        by_cases y2 : Y = 45
        · rw [hsg, if_pos (.inr y2)] at hR' hsz hge
          subst y2
          go_wp2_with (first | (go_at_call 55; refine (peek_z s (a1 + 1) 0 c _ _ hs (by omega) (by omega) HC2.out.text HC2.out.pos (by decide)).mono ?_; rintro e w' ⟨he, n3, rfl⟩; rw [Nat.add_zero, HY.out] at he; subst he) | (go_at_call 55; refine (peek_z s (a1 + 1) 0 c _ _ hs (by omega) (by omega) (HC2.out.drew _).text (HC2.out.drew _).pos (by decide)).mono ?_; rintro e w' ⟨he, n4, rfl⟩; rw [Nat.add_zero, HY.out] at he; subst he) | (go_at_call 57; refine (some_bad _ s st _ m c N 10 ok hs (by omega) hR'.out hN ((HC2.out.drew _).move (a1 + 2) _ (by omega))).mono ?_; rintro e w' ⟨rfl, hgs⟩))
          exact ⟨rfl, .inr ⟨HRR.out, rfl⟩, ((HG2.out.trans (grown_drewN _ _ _)).trans (grown_set _ ⟨c, 2, none⟩ _)).trans hgs⟩
        have z1 : (Y == 43) = false := by simpa using y1
        have z2 : (Y == 45) = false := by simpa using y2
        rw [hsg, if_neg (fun h => h.elim y1 y2)] at hR' hsz hge
        clear y1 y2
        go_wp2_with (first | (go_at_call 55; refine (peek_z s (a1 + 1) 0 c _ _ hs (by omega) (by omega) HC2.out.text HC2.out.pos (by decide)).mono ?_; rintro e w' ⟨he, n3, rfl⟩; rw [Nat.add_zero, HY.out] at he; subst he) | (go_at_call 55; refine (peek_z s (a1 + 1) 0 c _ _ hs (by omega) (by omega) (HC2.out.drew _).text (HC2.out.drew _).pos (by decide)).mono ?_; rintro e w' ⟨he, n4, rfl⟩; rw [Nat.add_zero, HY.out] at he; subst he) | (go_at_call 57; refine (some_bad _ s st _ m c N 10 ok hs (by omega) hR'.out hN (HC2.out.drew _)).mono ?_; rintro e w' ⟨rfl, hgs⟩))
        exact ⟨rfl, .inr ⟨HRR.out, rfl⟩, (HG2.out.trans (grown_drewN _ _ _)).trans hgs⟩
    | ok h N hR hN =>
      have hlt : a1 < s.size := by rcases h with h | h <;> exact byteAt_lt h (by decide)
      rw [← hX] at h
      clear hX
      obtain ⟨Y, hY⟩ : ∃ Y, Y = byteAt s (a1 + 1) := ⟨_, rfl⟩
      have HY : Hid (byteAt s (a1 + 1) = Y) := hY.symm
      have e1 : IntKind.i64.wrap ((a1 : Int) + 1) = (a1 : Int) + 1 := IntWalk.i64_in _ (by omega)
      have e2 : IntKind.i64.wrap ((a1 : Int) + 1 + 1) = (a1 : Int) + 1 + 1 := IntWalk.i64_in _ (by omega)
      have hsg : signEnd s a1 = if Y = 43 ∨ Y = 45 then a1 + 2 else a1 + 1 := by unfold signEnd; rw [← hY]
      have hR' := Lib.hid hR
      have hsz := hR.size
      have hge := dpos_ge s (signEnd s a1) N
      clear hY hR
      rcases h with rfl | rfl
      ·
        go_upto_region 9 with (go_at_call 55; refine (peek_z s a1 0 c _ _ hs (by omega) (by omega) HCW.out.text HCW.out.pos (by decide)).mono ?_; rintro e w' ⟨he, n1, rfl⟩; rw [Nat.add_zero, HX.out] at he; subst he)
        obtain ⟨W2, hW2⟩ : ∃ W2, W2 = (W.drewN n1).setCell ⟨c, 2, none⟩ (.int .i64 ((a1 : Int) + 1)) := ⟨_, rfl⟩
        have HC2 : Hid (Cur W2 c s st (a1 + 1) m) := by rw [hW2]; exact (HCW.out.drew n1).move (a1 + 1) _ (by omega)
        have HG2 : Hid (w.grownBy W2 (some c)) := by rw [hW2]; exact (HGW.out.trans (grown_drewN _ _ _)).trans (grown_set _ ⟨c, 2, none⟩ _)
        rw [← hW2]
        clear hW2 c2 f2
        have c2 : W2.cell? ⟨c, 2, none⟩ = some (.int .i64 ((a1 : Int) + 1)) := HC2.out.pos
        have f2 := HC2.out.free 2
        by_cases y1 : Y = 43
        · rw [hsg, if_pos (.inl y1)] at hR' hsz hge
          have hrr : R = some (true, dpos s (signEnd s a1) N) := HRR.out
          rw [hsg, if_pos (.inl y1)] at hrr
          have HRD := Lib.hid hrr
          clear hrr
          subst y1
          go_wp2_with (first | (go_at_call 55; refine (peek_z s (a1 + 1) 0 c _ _ hs (by omega) (by omega) HC2.out.text HC2.out.pos (by decide)).mono ?_; rintro e w' ⟨he, n3, rfl⟩; rw [Nat.add_zero, HY.out] at he; subst he) | (go_at_call 57; refine (some_ok _ s st _ m c N 10 hs (by omega) hR'.out hN ((HC2.out.drew _).move (a1 + 2) _ (by omega))).mono ?_; rintro e w' ⟨v, f, rfl, _, _, hcs, hgs⟩))
          go_ret
          exact ⟨.inl ⟨true, _, HRD.out, rfl, hcs⟩, ((HG2.out.trans (grown_drewN _ _ _)).trans (grown_set _ ⟨c, 2, none⟩ _)).trans hgs⟩
        by_cases y2 : Y = 45
        · rw [hsg, if_pos (.inr y2)] at hR' hsz hge
          have hrr : R = some (true, dpos s (signEnd s a1) N) := HRR.out
          rw [hsg, if_pos (.inr y2)] at hrr
          have HRD := Lib.hid hrr
          clear hrr
          subst y2
          go_wp2_with (first | (go_at_call 55; refine (peek_z s (a1 + 1) 0 c _ _ hs (by omega) (by omega) HC2.out.text HC2.out.pos (by decide)).mono ?_; rintro e w' ⟨he, n3, rfl⟩; rw [Nat.add_zero, HY.out] at he; subst he) | (go_at_call 55; refine (peek_z s (a1 + 1) 0 c _ _ hs (by omega) (by omega) (HC2.out.drew _).text (HC2.out.drew _).pos (by decide)).mono ?_; rintro e w' ⟨he, n4, rfl⟩; rw [Nat.add_zero, HY.out] at he; subst he) | (go_at_call 57; refine (some_ok _ s st _ m c N 10 hs (by omega) hR'.out hN ((HC2.out.drew _).move (a1 + 2) _ (by omega))).mono ?_; rintro e w' ⟨v, f, rfl, _, _, hcs, hgs⟩))
          go_ret
          exact ⟨.inl ⟨true, _, HRD.out, rfl, hcs⟩, ((HG2.out.trans (grown_drewN _ _ _)).trans (grown_set _ ⟨c, 2, none⟩ _)).trans hgs⟩
        have z1 : (Y == 43) = false := by simpa using y1
        have z2 : (Y == 45) = false := by simpa using y2
        rw [hsg, if_neg (fun h => h.elim y1 y2)] at hR' hsz hge
        have hrr : R = some (true, dpos s (signEnd s a1) N) := HRR.out
        rw [hsg, if_neg (fun h => h.elim y1 y2)] at hrr
        have HRD := Lib.hid hrr
        clear hrr
        clear y1 y2
        go_wp2_with (first | (go_at_call 55; refine (peek_z s (a1 + 1) 0 c _ _ hs (by omega) (by omega) HC2.out.text HC2.out.pos (by decide)).mono ?_; rintro e w' ⟨he, n3, rfl⟩; rw [Nat.add_zero, HY.out] at he; subst he) | (go_at_call 55; refine (peek_z s (a1 + 1) 0 c _ _ hs (by omega) (by omega) (HC2.out.drew _).text (HC2.out.drew _).pos (by decide)).mono ?_; rintro e w' ⟨he, n4, rfl⟩; rw [Nat.add_zero, HY.out] at he; subst he) | (go_at_call 57; refine (some_ok _ s st _ m c N 10 hs (by omega) hR'.out hN (HC2.out.drew _)).mono ?_; rintro e w' ⟨v, f, rfl, _, _, hcs, hgs⟩))
        go_ret
        exact ⟨.inl ⟨true, _, HRD.out, rfl, hcs⟩, (HG2.out.trans (grown_drewN _ _ _)).trans hgs⟩
      ·
        go_upto_region 9 with (first | (go_at_call 55; refine (peek_z s a1 0 c _ _ hs (by omega) (by omega) HCW.out.text HCW.out.pos (by decide)).mono ?_; rintro e w' ⟨he, n1, rfl⟩; rw [Nat.add_zero, HX.out] at he; subst he) | (go_at_call 55; refine (peek_z s a1 0 c _ _ hs (by omega) (by omega) (HCW.out.drew _).text (HCW.out.drew _).pos (by decide)).mono ?_; rintro e w' ⟨he, n2, rfl⟩; rw [Nat.add_zero, HX.out] at he; subst he))
        obtain ⟨nn, hnn⟩ : ∃ nn, nn = n1 + n2 := ⟨_, rfl⟩
        rw [← hnn]
        obtain ⟨W2, hW2⟩ : ∃ W2, W2 = (W.drewN nn).setCell ⟨c, 2, none⟩ (.int .i64 ((a1 : Int) + 1)) := ⟨_, rfl⟩
        have HC2 : Hid (Cur W2 c s st (a1 + 1) m) := by rw [hW2]; exact (HCW.out.drew nn).move (a1 + 1) _ (by omega)
        have HG2 : Hid (w.grownBy W2 (some c)) := by rw [hW2]; exact (HGW.out.trans (grown_drewN _ _ _)).trans (grown_set _ ⟨c, 2, none⟩ _)
        rw [← hW2]
        clear hW2 c2 f2
        have c2 : W2.cell? ⟨c, 2, none⟩ = some (.int .i64 ((a1 : Int) + 1)) := HC2.out.pos
        have f2 := HC2.out.free 2
        by_cases y1 : Y = 43
        · rw [hsg, if_pos (.inl y1)] at hR' hsz hge
          have hrr : R = some (true, dpos s (signEnd s a1) N) := HRR.out
          rw [hsg, if_pos (.inl y1)] at hrr
          have HRD := Lib.hid hrr
          clear hrr
          subst y1
          go_wp2_with (first | (go_at_call 55; refine (peek_z s (a1 + 1) 0 c _ _ hs (by omega) (by omega) HC2.out.text HC2.out.pos (by decide)).mono ?_; rintro e w' ⟨he, n3, rfl⟩; rw [Nat.add_zero, HY.out] at he; subst he) | (go_at_call 57; refine (some_ok _ s st _ m c N 10 hs (by omega) hR'.out hN ((HC2.out.drew _).move (a1 + 2) _ (by omega))).mono ?_; rintro e w' ⟨v, f, rfl, _, _, hcs, hgs⟩))
          go_ret
          exact ⟨.inl ⟨true, _, HRD.out, rfl, hcs⟩, ((HG2.out.trans (grown_drewN _ _ _)).trans (grown_set _ ⟨c, 2, none⟩ _)).trans hgs⟩
        by_cases y2 : Y = 45
        · rw [hsg, if_pos (.inr y2)] at hR' hsz hge
          have hrr : R = some (true, dpos s (signEnd s a1) N) := HRR.out
          rw [hsg, if_pos (.inr y2)] at hrr
          have HRD := Lib.hid hrr
          clear hrr
          subst y2
          go_wp2_with (first | (go_at_call 55; refine (peek_z s (a1 + 1) 0 c _ _ hs (by omega) (by omega) HC2.out.text HC2.out.pos (by decide)).mono ?_; rintro e w' ⟨he, n3, rfl⟩; rw [Nat.add_zero, HY.out] at he; subst he) | (go_at_call 55; refine (peek_z s (a1 + 1) 0 c _ _ hs (by omega) (by omega) (HC2.out.drew _).text (HC2.out.drew _).pos (by decide)).mono ?_; rintro e w' ⟨he, n4, rfl⟩; rw [Nat.add_zero, HY.out] at he; subst he) | (go_at_call 57; refine (some_ok _ s st _ m c N 10 hs (by omega) hR'.out hN ((HC2.out.drew _).move (a1 + 2) _ (by omega))).mono ?_; rintro e w' ⟨v, f, rfl, _, _, hcs, hgs⟩))
          go_ret
          exact ⟨.inl ⟨true, _, HRD.out, rfl, hcs⟩, ((HG2.out.trans (grown_drewN _ _ _)).trans (grown_set _ ⟨c, 2, none⟩ _)).trans hgs⟩
        have z1 : (Y == 43) = false := by simpa using y1
        have z2 : (Y == 45) = false := by simpa using y2
        rw [hsg, if_neg (fun h => h.elim y1 y2)] at hR' hsz hge
        have hrr : R = some (true, dpos s (signEnd s a1) N) := HRR.out
        rw [hsg, if_neg (fun h => h.elim y1 y2)] at hrr
        have HRD := Lib.hid hrr
        clear hrr
        clear y1 y2
        go_wp2_with (first | (go_at_call 55; refine (peek_z s (a1 + 1) 0 c _ _ hs (by omega) (by omega) HC2.out.text HC2.out.pos (by decide)).mono ?_; rintro e w' ⟨he, n3, rfl⟩; rw [Nat.add_zero, HY.out] at he; subst he) | (go_at_call 55; refine (peek_z s (a1 + 1) 0 c _ _ hs (by omega) (by omega) (HC2.out.drew _).text (HC2.out.drew _).pos (by decide)).mono ?_; rintro e w' ⟨he, n4, rfl⟩; rw [Nat.add_zero, HY.out] at he; subst he) | (go_at_call 57; refine (some_ok _ s st _ m c N 10 hs (by omega) hR'.out hN (HC2.out.drew _)).mono ?_; rintro e w' ⟨v, f, rfl, _, _, hcs, hgs⟩))
        go_ret
        exact ⟨.inl ⟨true, _, HRD.out, rfl, hcs⟩, (HG2.out.trans (grown_drewN _ _ _)).trans hgs⟩

end Tk
end Go.Proofs.YtmphkifhnjfkmaaGreatDoor

namespace Go.Proofs.YtmphkifhnjfkmaaGreatDoor
open Go.ChangeShapes Go.WideShapes Go.ChangeAt Go.RowKit Go.Sort Go.Lib
namespace Tk

theorem formatUint_zero (w : World) :
    Calls Tryz.prog 77 #[.int .u64 0, .int .i64 10] w fun e w' => e = .returned (.string ⟨(Lib.decDigits 0).toArray⟩) ∧ w.grownBy w' none := by
  have h : Calls Tryz.prog 99 #[.int .u64 0, .int .i64 10] w fun e w' => e = .returned (.string ⟨(Lib.decDigits 0).toArray⟩) ∧ w.grownBy w' none := by
    go_enter Tryz.func99, Tryz.ntmps99
    go_wp2_with (go_at_call 115; refine (Tryz.internal_strconv_small 0 (by decide) _).mono ?_; rintro e w' ⟨rfl, rfl⟩)
    go_ret
    exact ⟨rfl, World.grownBy.refl _ _⟩
  have H := Lib.hid h
  clear h
  go_enter Tryz.func77, Tryz.ntmps77
  go_wp2_with (go_at_call 99; refine H.out.mono ?_; rintro e w' ⟨rfl, hg⟩)
  go_ret
  exact ⟨rfl, hg⟩

theorem formatUint_all (u : Nat) (hu64 : u < 18446744073709551616) (w : World) (htab : Lib.TabIs Tryz.prog w "internal/strconv.uint64pow10" .u64 Lib.pow10Tab) :
    Calls Tryz.prog 77 #[.int .u64 u, .int .i64 10] w fun e w' => e = .returned (.string ⟨(Lib.decDigits u).toArray⟩) ∧ w.grownBy w' none := by
  rcases Nat.eq_zero_or_pos u with h | h
  · subst h
    exact formatUint_zero w
  · exact formatUint_any u h hu64 w htab

theorem wideText_low (u : Nat) (hu64 : u < 18446744073709551616) (w : World) (htab : Lib.TabIs Tryz.prog w "internal/strconv.uint64pow10" .u64 Lib.pow10Tab) :
    Calls Tryz.prog 60 #[.agg #[.int .u64 0, .int .u64 u]] w fun e w' => e = .returned (.string ⟨(Lib.decDigits u).toArray⟩) ∧ w.grownBy w' none := by
  have ht := Lib.tabIs_alloc htab (.cells #[.int .u64 0, .int .u64 u] 74)
  have HT := Lib.hid ht
  clear ht
  go_enter Tryz.func60, Tryz.ntmps60
  go_wp2_with (go_at_call 77; refine (formatUint_all u hu64 _ HT.out).mono ?_; rintro e w' ⟨rfl, hg⟩)
  go_ret
  exact ⟨rfl, (World.grownBy_alloc w _ none).trans hg⟩

end Tk
end Go.Proofs.YtmphkifhnjfkmaaGreatDoor

namespace Go.Proofs.YtmphkifhnjfkmaaGreatDoor
open Go.ChangeShapes Go.WideShapes Go.ChangeAt Go.RowKit Go.Sort Go.Lib
namespace Tk

set_option maxRecDepth 100000 in
theorem len64_chunk (w : World) : Calls Tryz.prog 119 #[.int .u64 10000000000000000000] w fun e w' => e = .returned (.int .i64 64) ∧ w = w' := by
  go_enter Tryz.func119, Tryz.ntmps119
  go_wp2_with fail
  go_ret
  refine ⟨congrArg (fun x => Ending.returned (Value.int IntKind.i64 x)) ?_, rfl⟩
  have h : Lib.len8 138 = 8 := by decide +kernel
  show wrap64 (56 + wrap64 (Lib.len8 138)) = 64
  rw [h]
  decide +kernel

theorem lz_chunk (w : World) : Calls Tryz.prog 100 #[.int .u64 10000000000000000000] w fun e w' => e = .returned (.int .i64 0) ∧ w = w' := by
  go_enter Tryz.func100, Tryz.ntmps100
  go_wp2_with (go_at_call 119; refine (len64_chunk _).mono ?_; rintro e w' ⟨rfl, rfl⟩)
  go_ret
  exact ⟨rfl, rfl⟩

set_option maxHeartbeats 4000000 in
set_option maxRecDepth 100000 in
theorem div_zero (lo : Nat) (hlo : lo < 18446744073709551616) (w : World) : Calls Tryz.prog 78 #[.int .u64 0, .int .u64 lo, .int .u64 10000000000000000000] w fun e w' => e = .returned (.tuple #[.int .u64 ((lo / 10000000000000000000 : Nat) : Int), .int .u64 ((lo % 10000000000000000000 : Nat) : Int)]) ∧ ∃ n, w' = w.drewN n := by
  go_enter Tryz.func78, Tryz.ntmps78
  go_wp2_with fail
  go_region
  go_wp2_with fail
  go_ret2
  exact ⟨by rfl, 1, rfl⟩

/-- The estimate of a digit of base 2^32, brought down: the fuel, the divisor's low half, the next half of the dividend, the digit, the rest. -/
def dQ : Nat → Int → Int → Int → Int → Int
  | 0, _, _, q, _ => q
  | n + 1, y, c, q, r => if decide (4294967296 ≤ q) || decide (IntKind.u64.wrap (IntKind.u64.wrap (4294967296 * r) + c) < IntKind.u64.wrap (q * y)) then
      (if 4294967296 ≤ IntKind.u64.wrap (r + 2328306436) then IntKind.u64.wrap (q - 1) else dQ n y c (IntKind.u64.wrap (q - 1)) (IntKind.u64.wrap (r + 2328306436)))
    else q

def dFuel (n : Nat) (r : Int) : Prop := 0 ≤ r ∧ (3 ≤ n ∨ (r < 4294967296 ∧ 4294967296 ≤ r + n * 2147483648))

theorem dFuel_step {n : Nat} {r : Int} (h : dFuel n r) (hr : IntKind.u64.wrap (r + 2328306436) < 4294967296) : ∃ m, n = m + 1 ∧ dFuel m (IntKind.u64.wrap (r + 2328306436)) := by
  obtain ⟨h0, h⟩ := h
  rw [IntKind.wrap_u64] at hr ⊢
  have hn : n ≠ 0 := by rintro rfl; omega
  obtain ⟨m, rfl⟩ : ∃ m, n = m + 1 := ⟨n - 1, by omega⟩
  refine ⟨m, rfl, by omega, ?_⟩
  rcases h with h | h
  · right; constructor <;> omega
  · right; constructor <;> omega

theorem dFuel_pos {n : Nat} {r : Int} (h : dFuel n r) : ∃ m, n = m + 1 := by
  obtain ⟨h0, h⟩ := h
  have hn : n ≠ 0 := by rintro rfl; omega
  exact ⟨n - 1, by omega⟩

/-- The dividend's high half, and the divisor's low half, as the walk spells them. -/
def dU (hi lo : Int) : Int := bits .or .u64 (IntKind.u64.wrap hi) (lo / 18446744073709551616)
def dY : Int := bits .and .u64 10000000000000000000 4294967295
def dD (y c u : Int) : Int := dQ 4 y c (IntKind.u64.wrap (u.tdiv 2328306436)) (IntKind.u64.wrap (u - IntKind.u64.wrap (IntKind.u64.wrap (u.tdiv 2328306436) * 2328306436)))

def d1 (hi lo : Int) : Int := dD dY (lo / 4294967296) (dU hi lo)
def dV (hi lo : Int) : Int := IntKind.u64.wrap (IntKind.u64.wrap (IntKind.u64.wrap (dU hi lo * 4294967296) + lo / 4294967296) - IntKind.u64.wrap (d1 hi lo * 10000000000000000000))
def d2 (hi lo : Int) : Int := dD dY (bits .and .u64 lo 4294967295) (dV hi lo)
/-- The quotient and the rest of a division by 10^19, as the machine computes them. -/
def divHi (hi lo : Int) : Int := IntKind.u64.wrap (IntKind.u64.wrap (d1 hi lo * 4294967296) + d2 hi lo)
def divLo (hi lo : Int) : Int := IntKind.u64.wrap (IntKind.u64.wrap (IntKind.u64.wrap (dV hi lo * 4294967296) + bits .and .u64 lo 4294967295) - IntKind.u64.wrap (d2 hi lo * 10000000000000000000))

theorem wrap_lt (x : Int) : 0 ≤ IntKind.u64.wrap x ∧ IntKind.u64.wrap x < 18446744073709551616 := by
  rw [IntKind.wrap_u64]
  omega

set_option maxHeartbeats 4000000 in
set_option maxRecDepth 1000000 in
theorem div_chunk (hi lo : Int) (i0 : 0 < hi) (i1 : hi < 10000000000000000000) (l0 : 0 ≤ lo) (l1 : lo < 18446744073709551616) (w : World) : Calls Tryz.prog 78 #[.int .u64 hi, .int .u64 lo, .int .u64 10000000000000000000] w fun e w' => e = .returned (.tuple #[.int .u64 (divHi hi lo), .int .u64 (divLo hi lo)]) ∧ w = w' := by
  have i2 : (hi == 0) = false := by simpa using (by omega : hi ≠ 0)
  have i3 : decide ((10000000000000000000 : Int) ≤ hi) = false := by simpa using i1
  clear i0 i1
  go_enter Tryz.func78, Tryz.ntmps78
  go_upto_block 0 with (go_at_call 100; refine (lz_chunk _).mono ?_; rintro e w' ⟨rfl, rfl⟩)
  obtain ⟨Y, hY⟩ : ∃ Y, Y = bits BinOp.and IntKind.u64 10000000000000000000 4294967295 := ⟨_, rfl⟩
  obtain ⟨U, hU⟩ : ∃ U, U = bits BinOp.or IntKind.u64 (IntKind.u64.wrap hi) (lo / 18446744073709551616) := ⟨_, rfl⟩
  obtain ⟨C, hC⟩ : ∃ C, C = lo / 4294967296 := ⟨_, rfl⟩
  rw [← hY, ← hU, ← hC]
  obtain ⟨q, hq⟩ : ∃ q, q = IntKind.u64.wrap (U.tdiv 2328306436) := ⟨_, rfl⟩
  rw [← hq]
  obtain ⟨r, hr⟩ : ∃ r, r = IntKind.u64.wrap (U - IntKind.u64.wrap (q * 2328306436)) := ⟨_, rfl⟩
  rw [← hr]
  have HY := Lib.hid hY
  have HU := Lib.hid hU
  have HC := Lib.hid hC
  have HQ := Lib.hid hq
  have HR := Lib.hid hr
  clear hY hU hC hq hr
  obtain ⟨Q, hQ⟩ : ∃ Q, Q = dQ 4 Y C q r := ⟨_, rfl⟩
  have HQQ := Lib.hid hQ
  clear hQ
  go_cut [15, 16] from 67 to 85 (fun qv _ wx => qv = .int .u64 Q ∧ wx = w)
  case first =>
    go_wp2_with fail
    go_loopg [15, 16] 4 (fun k qv rv wr => ∃ a b : Int, qv = .int .u64 a ∧ rv = .int .u64 b ∧ dFuel k b ∧ Hid (dQ k Y C a b = Q) ∧ wr = w)
    case atStart => exact ⟨q, r, rfl, rfl, ⟨by have := HR.out; rw [IntKind.wrap_u64] at this; omega, .inl (by omega)⟩, HQQ.out.symm, rfl⟩
    case round =>
      obtain ⟨a, b, rfl, rfl, hf, HF, rfl⟩ := hrel
      have hF := HF.out
      clear HF
      obtain ⟨k1, rfl⟩ := dFuel_pos hf
      unfold dQ at hF
      cases b1 : decide ((4294967296 : Int) ≤ a)
      · cases b2 : decide (IntKind.u64.wrap (IntKind.u64.wrap (4294967296 * b) + C) < IntKind.u64.wrap (a * Y))
        · rw [b1, b2, if_neg (by decide)] at hF
          have HF := Lib.hid hF
          clear hF hf
          go_wp2_with fail
          go_meet
          exact ⟨by rw [HF.out], rfl⟩
        · rw [b1, b2, if_pos (by decide)] at hF
          by_cases b3 : (4294967296 : Int) ≤ IntKind.u64.wrap (b + 2328306436)
          · rw [if_pos b3] at hF
            have HF := Lib.hid hF
            clear hF hf
            go_wp2_with fail
            go_meet
            exact ⟨by rw [HF.out], rfl⟩
          · rw [if_neg b3] at hF
            obtain ⟨m, hm, hf'⟩ := dFuel_step hf (by omega)
            obtain rfl : k1 = m := by omega
            have HF := Lib.hid hF
            clear hF hf hm
            go_wp2_with fail
            go_roundg k1
            case measure => omega
            case rel => exact ⟨_, _, rfl, rfl, hf', HF, rfl⟩
      · cases b2 : decide (IntKind.u64.wrap (IntKind.u64.wrap (4294967296 * b) + C) < IntKind.u64.wrap (a * Y))
        all_goals
          rw [b1, b2, if_pos (by decide)] at hF
          by_cases b3 : (4294967296 : Int) ≤ IntKind.u64.wrap (b + 2328306436)
          · rw [if_pos b3] at hF
            have HF := Lib.hid hF
            clear hF hf
            go_wp2_with fail
            go_meet
            exact ⟨by rw [HF.out], rfl⟩
          · rw [if_neg b3] at hF
            obtain ⟨m, hm, hf'⟩ := dFuel_step hf (by omega)
            obtain rfl : k1 = m := by omega
            have HF := Lib.hid hF
            clear hF hf hm
            go_wp2_with fail
            go_roundg k1
            case measure => omega
            case rel => exact ⟨_, _, rfl, rfl, hf', HF, rfl⟩
  case rest =>
    obtain ⟨rfl, rfl⟩ := hcut
    go_upto_block 2 with (fail)
    obtain ⟨V, hV⟩ : ∃ V, V = IntKind.u64.wrap (IntKind.u64.wrap (IntKind.u64.wrap (U * 4294967296) + C) - IntKind.u64.wrap (Q * 10000000000000000000)) := ⟨_, rfl⟩
    obtain ⟨L, hL⟩ : ∃ L, L = bits BinOp.and IntKind.u64 lo 4294967295 := ⟨_, rfl⟩
    rw [← hV, ← hL]
    obtain ⟨q2, hq2⟩ : ∃ q2, q2 = IntKind.u64.wrap (V.tdiv 2328306436) := ⟨_, rfl⟩
    rw [← hq2]
    obtain ⟨r2, hr2⟩ : ∃ r2, r2 = IntKind.u64.wrap (V - IntKind.u64.wrap (q2 * 2328306436)) := ⟨_, rfl⟩
    rw [← hr2]
    have HV := Lib.hid hV
    have HL := Lib.hid hL
    have Hq2 := Lib.hid hq2
    have HR2 := Lib.hid hr2
    obtain ⟨Q2, hQ2⟩ : ∃ Q2, Q2 = dQ 4 Y L q2 r2 := ⟨_, rfl⟩
    have HQ2 := Lib.hid hQ2
    clear hV hL hq2 hr2 hQ2
    go_cut [18, 16] from 102 to 120 (fun qv _ wx => qv = .int .u64 Q2 ∧ wx = wc)
    case first =>
      go_wp2_with fail
      go_loopg [18, 16] 4 (fun k qv rv wr => ∃ a b : Int, qv = .int .u64 a ∧ rv = .int .u64 b ∧ dFuel k b ∧ Hid (dQ k Y L a b = Q2) ∧ wr = wc)
      case atStart => exact ⟨q2, r2, rfl, rfl, ⟨by have := HR2.out; rw [IntKind.wrap_u64] at this; omega, .inl (by omega)⟩, HQ2.out.symm, rfl⟩
      case round =>
        obtain ⟨a, b, rfl, rfl, hf, HF, rfl⟩ := hrel
        have hF := HF.out
        clear HF
        obtain ⟨k1, rfl⟩ := dFuel_pos hf
        unfold dQ at hF
        cases b1 : decide ((4294967296 : Int) ≤ a)
        · cases b2 : decide (IntKind.u64.wrap (IntKind.u64.wrap (4294967296 * b) + L) < IntKind.u64.wrap (a * Y))
          · rw [b1, b2, if_neg (by decide)] at hF
            have HF := Lib.hid hF
            clear hF hf
            go_wp2_with fail
            go_meet
            exact ⟨by rw [HF.out], rfl⟩
          · rw [b1, b2, if_pos (by decide)] at hF
            by_cases b3 : (4294967296 : Int) ≤ IntKind.u64.wrap (b + 2328306436)
            · rw [if_pos b3] at hF
              have HF := Lib.hid hF
              clear hF hf
              go_wp2_with fail
              go_meet
              exact ⟨by rw [HF.out], rfl⟩
            · rw [if_neg b3] at hF
              obtain ⟨m, hm, hf'⟩ := dFuel_step hf (by omega)
              obtain rfl : k1 = m := by omega
              have HF := Lib.hid hF
              clear hF hf hm
              go_wp2_with fail
              go_roundg k1
              case measure => omega
              case rel => exact ⟨_, _, rfl, rfl, hf', HF, rfl⟩
        · cases b2 : decide (IntKind.u64.wrap (IntKind.u64.wrap (4294967296 * b) + L) < IntKind.u64.wrap (a * Y))
          all_goals
            rw [b1, b2, if_pos (by decide)] at hF
            by_cases b3 : (4294967296 : Int) ≤ IntKind.u64.wrap (b + 2328306436)
            · rw [if_pos b3] at hF
              have HF := Lib.hid hF
              clear hF hf
              go_wp2_with fail
              go_meet
              exact ⟨by rw [HF.out], rfl⟩
            · rw [if_neg b3] at hF
              obtain ⟨m, hm, hf'⟩ := dFuel_step hf (by omega)
              obtain rfl : k1 = m := by omega
              have HF := Lib.hid hF
              clear hF hf hm
              go_wp2_with fail
              go_roundg k1
              case measure => omega
              case rel => exact ⟨_, _, rfl, rfl, hf', HF, rfl⟩
    case rest =>
      obtain ⟨rfl, rfl⟩ := hcut
      go_wp2_with fail
      have e1 : Q = d1 hi lo := by rw [HQQ.out, HR.out, HQ.out, HU.out, HC.out, HY.out]; rfl
      have e2 : V = dV hi lo := by rw [HV.out, e1, HU.out, HC.out]; rfl
      have e3 : Q2 = d2 hi lo := by rw [HQ2.out, HR2.out, Hq2.out, HL.out, HY.out, e2]; rfl
      have e4 : L = bits BinOp.and IntKind.u64 lo 4294967295 := HL.out
      go_ret2
      rw [e1, e2, e3, e4]
      exact ⟨rfl, rfl⟩

end Tk
end Go.Proofs.YtmphkifhnjfkmaaGreatDoor

namespace Go.Proofs.YtmphkifhnjfkmaaGreatDoor
open Go.ChangeShapes Go.WideShapes Go.ChangeAt Go.RowKit Go.Sort Go.Lib
namespace Tk

def dvH (hi lo : Int) : Int := if hi = 0 then lo / 10000000000000000000 else divHi hi lo
def dvL (hi lo : Int) : Int := if hi = 0 then lo % 10000000000000000000 else divLo hi lo

theorem dvH_lt (hi lo : Int) (l0 : 0 ≤ lo) (l1 : lo < 18446744073709551616) : 0 ≤ dvH hi lo ∧ dvH hi lo < 18446744073709551616 := by
  unfold dvH
  split
  · omega
  · exact wrap_lt _

theorem dvL_lt (hi lo : Int) : 0 ≤ dvL hi lo ∧ dvL hi lo < 18446744073709551616 := by
  unfold dvL
  split
  · omega
  · exact wrap_lt _

theorem div_any (hi lo : Int) (h0 : 0 ≤ hi) (h1 : hi < 10000000000000000000) (l0 : 0 ≤ lo) (l1 : lo < 18446744073709551616) (w : World) :
    Calls Tryz.prog 78 #[.int .u64 hi, .int .u64 lo, .int .u64 10000000000000000000] w fun e w' => e = .returned (.tuple #[.int .u64 (dvH hi lo), .int .u64 (dvL hi lo)]) ∧ ∃ n, w' = w.drewN n := by
  by_cases h : hi = 0
  · subst h
    obtain ⟨n, rfl⟩ : ∃ n : Nat, lo = n := ⟨lo.toNat, by omega⟩
    refine (div_zero n (by omega) w).mono ?_
    rintro e w' ⟨rfl, hw⟩
    refine ⟨?_, hw⟩
    have e1 : ((n / 10000000000000000000 : Nat) : Int) = dvH 0 n := by unfold dvH; rw [if_pos rfl]; omega
    have e2 : ((n % 10000000000000000000 : Nat) : Int) = dvL 0 n := by unfold dvL; rw [if_pos rfl]; omega
    rw [e1, e2]
  · refine (div_chunk hi lo (by omega) h1 l0 l1 w).mono ?_
    rintro e w' ⟨rfl, rfl⟩
    refine ⟨?_, 0, rfl⟩
    unfold dvH dvL
    rw [if_neg h, if_neg h]

/-- Noughts in front, up to 19 digits. -/
def padF : Nat → ByteArray → ByteArray
  | 0, d => d
  | n + 1, d => if d.size < 19 then padF n (⟨#[48]⟩ ++ d) else d

theorem padF_done (n : Nat) {d : ByteArray} (h : ¬ d.size < 19) : padF n d = d := by
  cases n
  · rfl
  · unfold padF; rw [if_neg h]

theorem padF_size (n : Nat) : ∀ d : ByteArray, d.size ≤ 20 → (padF n d).size ≤ 20 := by
  induction n with
  | zero => intro d h; exact h
  | succ n ih =>
    intro d h
    unfold padF
    split
    · exact ih _ (by rw [ByteArray.size_append]; show 1 + d.size ≤ 20; omega)
    · exact h

theorem digits_size (m : Nat) (hm : m < 18446744073709551616) : (⟨(Lib.decDigits m).toArray⟩ : ByteArray).size ≤ 20 := by
  show (Lib.decDigits m).toArray.size ≤ 20
  rw [List.size_toArray, Lib.decDigits_length]
  rcases Nat.eq_zero_or_pos m with h | h
  · subst h; decide +kernel
  · have := Lib.numDigits_eq m h hm
    split at this <;> omega

set_option maxHeartbeats 4000000 in
theorem text_step (hi lo : Int) (T : ByteArray) (hT : T.size ≤ 100) (h0 : 0 < hi) (h1 : hi < 18446744073709551616) (l0 : 0 ≤ lo) (l1 : lo < 18446744073709551616)
    (ih : ∀ w : World, Pow10 w → Calls Tryz.prog 60 #[.agg #[.int .u64 (hi / 10000000000000000000), .int .u64 (dvH (hi % 10000000000000000000) lo)]] w fun e w' => e = .returned (.string T) ∧ w.grownBy w' none)
    (w : World) (ht : Pow10 w) :
    Calls Tryz.prog 60 #[.agg #[.int .u64 hi, .int .u64 lo]] w fun e w' => e = .returned (.string (T ++ padF 19 ⟨(Lib.decDigits (dvL (hi % 10000000000000000000) lo).toNat).toArray⟩)) ∧ w.grownBy w' none := by
  have hb : (hi == 0) = false := by simpa using (by omega : hi ≠ 0)
  obtain ⟨A, hA⟩ : ∃ A, A = hi / 10000000000000000000 := ⟨_, rfl⟩
  obtain ⟨B, hB⟩ : ∃ B, B = hi % 10000000000000000000 := ⟨_, rfl⟩
  have e1 : IntKind.u64.wrap (hi.tdiv 10000000000000000000) = A := by
    rw [IntKind.wrap_u64, Int.tdiv_eq_ediv_of_nonneg (by omega), hA]; omega
  have e2 : IntKind.u64.wrap (hi.tmod 10000000000000000000) = B := by
    rw [IntKind.wrap_u64, Int.tmod_eq_emod_of_nonneg (by omega), hB]; omega
  have e3 : hi.tmod 10000000000000000000 = B := by
    rw [Int.tmod_eq_emod_of_nonneg (by omega), hB]
  rw [← hA, ← hB] at ih
  rw [← hB]
  have HD := Lib.hid (fun w => div_any B lo (by omega) (by omega) l0 l1 w)
  obtain ⟨m, hm⟩ : ∃ m : Nat, dvL B lo = m := ⟨(dvL B lo).toNat, by have := (dvL_lt B lo).1; omega⟩
  have hmt : m < 18446744073709551616 := by have := (dvL_lt B lo).2; omega
  have hmn : (dvL B lo).toNat = m := by omega
  rw [hmn]
  obtain ⟨D, hD⟩ : ∃ D, D = padF 19 ⟨(Lib.decDigits m).toArray⟩ := ⟨_, rfl⟩
  rw [← hD]
  have HP := Lib.hid hD
  have hDs : D.size ≤ 20 := by rw [hD]; exact padF_size 19 _ (digits_size m hmt)
  have HM := Lib.hid hm
  have HI := Lib.hid ih
  have HF := Lib.hid (fun w => formatUint_all m hmt w)
  have HT : Hid (Pow10 (w.alloc (.cells #[.int .u64 hi, .int .u64 lo] 74))) := tabIs_grown pow10_at ht (World.grownBy_alloc w _ none) (by simp)
  clear hA hB hD hm ih ht hmt hmn h0 h1 l0 l1
  go_enter Tryz.func60, Tryz.ntmps60
  go_upto_region 5 with (go_at_call 78; refine (HD.out _).mono ?_; rintro e w' ⟨rfl, n, rfl⟩; rw [HM.out])
  go_wp2_with (go_at_call 77; refine (HF.out _ (tabIs_grown pow10_at HT.out (grown_drewN _ n none) (by simp))).mono ?_; rintro e w1 ⟨rfl, hg1⟩)
  have HG1 : Hid (w.grownBy w1 none) := ((World.grownBy_alloc w _ none).trans (grown_drewN _ n none)).trans hg1
  have HT1 : Hid (Pow10 w1) := tabIs_grown pow10_at HT.out ((grown_drewN _ n none).trans hg1) (by simp)
  clear hg1
  go_loopg [6] 19 (fun k dv wr => ∃ d : ByteArray, dv = .string d ∧ 19 ≤ k + d.size ∧ Hid (padF k d = D) ∧ wr = w1)
  case atStart => exact ⟨_, rfl, by omega, HP.out.symm, rfl⟩
  case round =>
    obtain ⟨d, rfl, hk, HF2, rfl⟩ := hrel
    have hF := HF2.out
    clear HF2
    by_cases hlt : d.size < 19
    · have l : (d.size : Int) < 19 := by omega
      obtain ⟨k1, rfl⟩ : ∃ k', gk = k' + 1 := ⟨gk - 1, by omega⟩
      unfold padF at hF
      rw [if_pos hlt] at hF
      have HF2 := Lib.hid hF
      clear hF
      go_wp2_with fail
      go_roundg k1
      case measure => omega
      case rel => exact ⟨_, rfl, by rw [ByteArray.size_append]; show 19 ≤ k1 + (1 + d.size); omega, HF2, rfl⟩
    · have l : ¬ ((d.size : Int) < 19) := by omega
      rw [padF_done _ hlt] at hF
      have hds : d.size ≤ 20 := by rw [hF]; exact hDs
      have HF2 := Lib.hid hF
      clear hF
      go_wp2_with (go_at_call 60; refine (HI.out _ HT1.out).mono ?_; rintro e w2 ⟨rfl, hg2⟩)
      go_ret
      exact ⟨congrArg (fun x => Ending.returned (Value.string (T ++ x))) HF2.out, HG1.out.trans hg2⟩

/-- The decimal digits of hi * 2^64 + lo, as the program makes them. -/
def wideZ (hi lo : Nat) : ByteArray :=
  if hi = 0 then ⟨(Lib.decDigits lo).toArray⟩
  else
    let l := dvH ((hi : Int) % 10000000000000000000) lo
    (if hi < 10000000000000000000 then ⟨(Lib.decDigits l.toNat).toArray⟩
      else ⟨(Lib.decDigits (dvH 1 l).toNat).toArray⟩ ++ padF 19 ⟨(Lib.decDigits (dvL 1 l).toNat).toArray⟩) ++ padF 19 ⟨(Lib.decDigits (dvL ((hi : Int) % 10000000000000000000) lo).toNat).toArray⟩

theorem text_low (lo : Int) (l0 : 0 ≤ lo) (l1 : lo < 18446744073709551616) (w : World) (ht : Pow10 w) :
    Calls Tryz.prog 60 #[.agg #[.int .u64 0, .int .u64 lo]] w fun e w' => e = .returned (.string ⟨(Lib.decDigits lo.toNat).toArray⟩) ∧ w.grownBy w' none := by
  obtain ⟨n, rfl⟩ : ∃ n : Nat, lo = n := ⟨lo.toNat, by omega⟩
  exact wideText_low n (by omega) w ht

theorem text_any (hi lo : Nat) (h1 : hi < 18446744073709551616) (l1 : lo < 18446744073709551616) (w : World) (ht : Pow10 w) :
    Calls Tryz.prog 60 #[.agg #[.int .u64 hi, .int .u64 lo]] w fun e w' => e = .returned (.string (wideZ hi lo)) ∧ w.grownBy w' none := by
  unfold wideZ
  by_cases h0 : hi = 0
  · subst h0
    rw [if_pos rfl]
    exact wideText_low lo l1 w ht
  · rw [if_neg h0]
    have hl := dvH_lt ((hi : Int) % 10000000000000000000) lo (by omega) (by omega)
    refine text_step hi lo _ ?_ (by omega) (by omega) (by omega) (by omega) ?_ w ht
    · split
      · exact Nat.le_trans (digits_size _ (by omega)) (by omega)
      · have hm := dvH_lt 1 (dvH ((hi : Int) % 10000000000000000000) lo) hl.1 hl.2
        have hr := dvL_lt 1 (dvH ((hi : Int) % 10000000000000000000) lo)
        rw [ByteArray.size_append]
        have a1 := digits_size (dvH 1 (dvH ((hi : Int) % 10000000000000000000) lo)).toNat (by omega)
        have a2 := padF_size 19 _ (digits_size (dvL 1 (dvH ((hi : Int) % 10000000000000000000) lo)).toNat (by omega))
        omega
    intro w ht
    by_cases hs : hi < 10000000000000000000
    · rw [if_pos hs]
      have e0 : (hi : Int) / 10000000000000000000 = 0 := by omega
      rw [e0]
      exact text_low _ hl.1 hl.2 w ht
    · rw [if_neg hs]
      have e0 : (hi : Int) / 10000000000000000000 = 1 := by omega
      rw [e0]
      have hm := dvH_lt 1 (dvH ((hi : Int) % 10000000000000000000) lo) hl.1 hl.2
      refine text_step 1 _ _ (Nat.le_trans (digits_size _ (by omega)) (by omega)) (by decide) (by decide) hl.1 hl.2 ?_ w ht
      intro w ht
      have hm := dvH_lt 1 (dvH ((hi : Int) % 10000000000000000000) lo) hl.1 hl.2
      exact text_low _ hm.1 hm.2 w ht

end Tk
end Go.Proofs.YtmphkifhnjfkmaaGreatDoor

namespace Go.Proofs.YtmphkifhnjfkmaaGreatDoor
open Go.ChangeShapes Go.WideShapes Go.ChangeAt Go.RowKit Go.WideMaps Go.Maps
namespace Tk

set_option maxHeartbeats 4000000 in
theorem number_hex_bad (w : World) (c : Nat) (s : ByteArray) (st a m N : Nat) (ok : Bool) (hc : Cur w c s st a m) (hs : s.size ≤ 20000) (ha : a + 2 ≤ s.size) (h0 : Lib.hasPrefix (s.extract a s.size).data.toList zx.data.toList = true) (hR : RunU s (a + 2) N 16 ok) (hN : ok = false ∨ N = 0) :
    Calls Tryz.prog 31 #[.pointer (some ⟨c, 0, none⟩)] w fun e w' => e = .panicked (faultC st 33) ∧ w.grownBy w' (some c) := by
  have hlt := hc.lt
  obtain ⟨wx, hwx⟩ : ∃ wx, wx = w.alloc (.cells #[.int .i64 0, .string ⟨#[]⟩, .int .i64 0, .bool false] 31) := ⟨_, rfl⟩
  have HGx : Hid (w.grownBy wx (some c)) := by rw [hwx]; exact World.grownBy_alloc w _ _
  have HCx : Hid (Cur wx c s st a m) := by rw [hwx]; exact hc.kept (World.grownBy_alloc w _ none) (by simp)
  have HRx : Hid (Res wx w.heap.size) := by rw [hwx]; exact Res.new w
  have HWx := Lib.hid hwx
  have H0 := Lib.hid h0
  have HR := Lib.hid hR
  clear hc hwx hR h0
  have c2 := HCx.out.pos
  have f2 := HCx.out.free 2
  have e1 : IntKind.i64.wrap ((a : Int) + 2) = (a : Int) + 2 := IntWalk.i64_in _ (by omega)
  go_enter Tryz.func31, Tryz.ntmps31
  go_upto_region 2 with (fail)
  rw [← HWx.out]
  go_upto_region 7 with (go_at_call 20; refine (has_any s zx c a _ (by omega) HCx.out.text HCx.out.pos).mono ?_; rintro e w' ⟨he, n, rfl⟩; rw [H0.out] at he; subst he)
  obtain ⟨W2, hW2⟩ : ∃ W2, W2 = (wx.drewN n).setCell ⟨c, 2, none⟩ (.int .i64 ((a : Int) + 2)) := ⟨_, rfl⟩
  have HC2 : Hid (Cur W2 c s st (a + 2) m) := by rw [hW2]; exact (HCx.out.drew _).move (a + 2) _ (by omega)
  have HG2 : Hid (wx.grownBy W2 (some c)) := by rw [hW2]; exact (grown_drewN wx _ _).trans (grown_set _ ⟨c, 2, none⟩ _)
  go_upto_region 8 with (fail)
  rw [← hW2]
  clear hW2 c2 f2
  go_wp2_with (go_at_call 57; refine (some_bad _ s st (a + 2) m c N 16 ok hs (by omega) HR.out hN HC2.out).mono ?_; rintro e w1 ⟨rfl, hg1⟩)
  exact ⟨rfl, rfl, HGx.out.trans (HG2.out.trans hg1)⟩

set_option maxHeartbeats 4000000 in
theorem number_hex_over (w : World) (c : Nat) (s : ByteArray) (st a m N : Nat) (hc : Cur w c s st a m) (hs : s.size ≤ 20000) (ha : a + 2 ≤ s.size) (h0 : Lib.hasPrefix (s.extract a s.size).data.toList zx.data.toList = true) (hR : RunU s (a + 2) N 16 true) (hN : 1 ≤ N) (hv : (numW s (a + 2) 16 N).2 = false) :
    Calls Tryz.prog 31 #[.pointer (some ⟨c, 0, none⟩)] w fun e w' => e = .panicked (faultC st 33) ∧ w.grownBy w' (some c) := by
  have hlt := hc.lt
  obtain ⟨wx, hwx⟩ : ∃ wx, wx = w.alloc (.cells #[.int .i64 0, .string ⟨#[]⟩, .int .i64 0, .bool false] 31) := ⟨_, rfl⟩
  have HGx : Hid (w.grownBy wx (some c)) := by rw [hwx]; exact World.grownBy_alloc w _ _
  have HCx : Hid (Cur wx c s st a m) := by rw [hwx]; exact hc.kept (World.grownBy_alloc w _ none) (by simp)
  have HRx : Hid (Res wx w.heap.size) := by rw [hwx]; exact Res.new w
  have HV := Lib.hid hv
  have HWx := Lib.hid hwx
  have H0 := Lib.hid h0
  have HR := Lib.hid hR
  clear hc hwx hR h0 hv
  have c2 := HCx.out.pos
  have f2 := HCx.out.free 2
  have e1 : IntKind.i64.wrap ((a : Int) + 2) = (a : Int) + 2 := IntWalk.i64_in _ (by omega)
  go_enter Tryz.func31, Tryz.ntmps31
  go_upto_region 2 with (fail)
  rw [← HWx.out]
  go_upto_region 7 with (go_at_call 20; refine (has_any s zx c a _ (by omega) HCx.out.text HCx.out.pos).mono ?_; rintro e w' ⟨he, n, rfl⟩; rw [H0.out] at he; subst he)
  obtain ⟨W2, hW2⟩ : ∃ W2, W2 = (wx.drewN n).setCell ⟨c, 2, none⟩ (.int .i64 ((a : Int) + 2)) := ⟨_, rfl⟩
  have HC2 : Hid (Cur W2 c s st (a + 2) m) := by rw [hW2]; exact (HCx.out.drew _).move (a + 2) _ (by omega)
  have HG2 : Hid (wx.grownBy W2 (some c)) := by rw [hW2]; exact (grown_drewN wx _ _).trans (grown_set _ ⟨c, 2, none⟩ _)
  go_upto_region 8 with (fail)
  rw [← hW2]
  clear hW2 c2 f2
  go_wp2_with (first | (go_at_call 57; refine (some_ok _ s st (a + 2) m c N 16 hs (by omega) HR.out hN HC2.out).mono ?_; rintro e w1 ⟨v, f, rfl, rfl, hf, hC1, hg1⟩; rw [HV.out] at hf; subst hf) | (go_at_call 52; refine (fail_any _ c s st _ m 33 (hC1.kept (World.grownBy_alloc w1 _ none) (by simp))).mono ?_; rintro e w2 ⟨rfl, rfl⟩))
  exact ⟨rfl, rfl, HGx.out.trans ((HG2.out.trans hg1).trans (World.grownBy_alloc _ _ _))⟩

set_option maxHeartbeats 4000000 in
theorem number_hex_ok (w : World) (c : Nat) (s : ByteArray) (st a m N : Nat) (hc : Cur w c s st a m) (hs : s.size ≤ 20000) (ha : a + 2 ≤ s.size) (h0 : Lib.hasPrefix (s.extract a s.size).data.toList zx.data.toList = true) (hR : RunU s (a + 2) N 16 true) (hN : 1 ≤ N) (hv : (numW s (a + 2) 16 N).2 = true) (ht : Pow10 w) (hcg : c ≠ 8) :
    Calls Tryz.prog 31 #[.pointer (some ⟨c, 0, none⟩)] w fun e w' => e = .returned (.agg #[.int .i64 3, .string (wideZ ((numW s (a + 2) 16 N).1 / 18446744073709551616) ((numW s (a + 2) 16 N).1 % 18446744073709551616)), .int .i64 0, .bool false]) ∧ Cur w' c s st (dpos s (a + 2) N) m ∧ w.grownBy w' (some c) := by
  have hlt := hc.lt
  obtain ⟨wx, hwx⟩ : ∃ wx, wx = w.alloc (.cells #[.int .i64 0, .string ⟨#[]⟩, .int .i64 0, .bool false] 31) := ⟨_, rfl⟩
  have HGx : Hid (w.grownBy wx (some c)) := by rw [hwx]; exact World.grownBy_alloc w _ _
  have HCx : Hid (Cur wx c s st a m) := by rw [hwx]; exact hc.kept (World.grownBy_alloc w _ none) (by simp)
  have HRx : Hid (Res wx w.heap.size) := by rw [hwx]; exact Res.new w
  have HTx : Hid (Pow10 wx) := by rw [hwx]; exact tabIs_grown pow10_at ht (World.grownBy_alloc w _ none) (by simp)
  have HV := Lib.hid hv
  have HWx := Lib.hid hwx
  have H0 := Lib.hid h0
  have HR := Lib.hid hR
  clear hc hwx hR h0 hv ht
  have c2 := HCx.out.pos
  have f2 := HCx.out.free 2
  have e1 : IntKind.i64.wrap ((a : Int) + 2) = (a : Int) + 2 := IntWalk.i64_in _ (by omega)
  go_enter Tryz.func31, Tryz.ntmps31
  go_upto_region 2 with (fail)
  rw [← HWx.out]
  go_upto_region 7 with (go_at_call 20; refine (has_any s zx c a _ (by omega) HCx.out.text HCx.out.pos).mono ?_; rintro e w' ⟨he, n, rfl⟩; rw [H0.out] at he; subst he)
  obtain ⟨W2, hW2⟩ : ∃ W2, W2 = (wx.drewN n).setCell ⟨c, 2, none⟩ (.int .i64 ((a : Int) + 2)) := ⟨_, rfl⟩
  have HC2 : Hid (Cur W2 c s st (a + 2) m) := by rw [hW2]; exact (HCx.out.drew _).move (a + 2) _ (by omega)
  have HG2 : Hid (wx.grownBy W2 (some c)) := by rw [hW2]; exact (grown_drewN wx _ _).trans (grown_set _ ⟨c, 2, none⟩ _)
  go_upto_region 8 with (fail)
  rw [← hW2]
  clear hW2 c2 f2
  have hwl := numW_lt s (a + 2) 16 N
  obtain ⟨x, hx⟩ : ∃ x, x = (numW s (a + 2) 16 N).1 / 18446744073709551616 := ⟨_, rfl⟩
  obtain ⟨y, hy⟩ : ∃ y, y = (numW s (a + 2) 16 N).1 % 18446744073709551616 := ⟨_, rfl⟩
  have hx64 : x < 18446744073709551616 := by omega
  have hy64 : y < 18446744073709551616 := by omega
  have HX := Lib.hid hx
  have HY := Lib.hid hy
  have HTT := Lib.hid (fun w => text_any x y hx64 hy64 w)
  clear hx hy hx64 hy64 hwl
  go_wp2_with (go_at_call 57; refine (some_ok _ s st (a + 2) m c N 16 hs (by omega) HR.out hN HC2.out).mono ?_; rintro e w1 ⟨v, f, rfl, rfl, hf, hC1, hg1⟩; rw [HV.out] at hf; subst hf; rw [← HX.out, ← HY.out])
  have HG3 : Hid (wx.grownBy (w1.alloc (.cells #[.int .u64 x, .int .u64 y] 74)) (some c)) := (HG2.out.trans hg1).trans (World.grownBy_alloc _ _ _)
  refine (HTT.out _ (tabIs_grown pow10_at HTx.out HG3.out (by intro e; exact hcg (Option.some.inj e).symm))).mono ?_
  rintro e w2 ⟨rfl, hg2⟩
  have HG4 : Hid (wx.grownBy w2 (some c)) := HG3.out.trans (grown_row hg2 c)
  have HR2 : Hid (Res w2 w.heap.size) := HRx.out.kept HG4.out (by intro e; have := Option.some.inj e; omega)
  have HC3 : Hid (Cur w2 c s st (dpos s (a + 2) N) m) := (hC1.kept (World.grownBy_alloc w1 _ none) (by simp)).kept hg2 (by simp)
  clear hg2 hg1 hC1
  have r0 := HR2.out.c0
  have r1 := HR2.out.c1
  have r2 := HR2.out.c2
  have r3 := HR2.out.c3
  have g0 := HR2.out.free 0
  have g1 := HR2.out.free 1
  have g2 := HR2.out.free 2
  have g3 := HR2.out.free 3
  go_wp2_with fail
  refine bodyPost_ret (v := .agg #[.int .i64 3, .string (wideZ x y), .int .i64 0, .bool false]) (by simp [results, Tryz.results31, go_sem, r0, r1, r2, r3]) rfl ⟨?_, ?_, ?_⟩
  · rw [HX.out, HY.out]
  · exact cur_res HC3.out (by omega) _ _ _ _
  · exact grown_res (HGx.out.trans HG4.out) _ _ _ _

set_option maxHeartbeats 4000000 in
theorem number_bin_bad (w : World) (c : Nat) (s : ByteArray) (st a m N : Nat) (ok : Bool) (hc : Cur w c s st a m) (hs : s.size ≤ 20000) (ha : a + 2 ≤ s.size) (h0 : Lib.hasPrefix (s.extract a s.size).data.toList zx.data.toList = false) (hb : Lib.hasPrefix (s.extract a s.size).data.toList zb.data.toList = true) (hR : RunU s (a + 2) N 2 ok) (hN : ok = false ∨ N = 0) :
    Calls Tryz.prog 31 #[.pointer (some ⟨c, 0, none⟩)] w fun e w' => e = .panicked (faultC st 33) ∧ w.grownBy w' (some c) := by
  have hlt := hc.lt
  obtain ⟨wx, hwx⟩ : ∃ wx, wx = w.alloc (.cells #[.int .i64 0, .string ⟨#[]⟩, .int .i64 0, .bool false] 31) := ⟨_, rfl⟩
  have HGx : Hid (w.grownBy wx (some c)) := by rw [hwx]; exact World.grownBy_alloc w _ _
  have HCx : Hid (Cur wx c s st a m) := by rw [hwx]; exact hc.kept (World.grownBy_alloc w _ none) (by simp)
  have HRx : Hid (Res wx w.heap.size) := by rw [hwx]; exact Res.new w
  have HWx := Lib.hid hwx
  have H0 := Lib.hid h0
  have HBn := Lib.hid hb
  have HR := Lib.hid hR
  clear hc hwx hR h0 hb
  have c2 := HCx.out.pos
  have f2 := HCx.out.free 2
  have e1 : IntKind.i64.wrap ((a : Int) + 2) = (a : Int) + 2 := IntWalk.i64_in _ (by omega)
  go_enter Tryz.func31, Tryz.ntmps31
  go_upto_region 2 with (fail)
  rw [← HWx.out]
  go_upto_region 4 with (go_at_call 20; refine (has_any s zx c a _ (by omega) HCx.out.text HCx.out.pos).mono ?_; rintro e w' ⟨he, n, rfl⟩; rw [H0.out] at he; subst he)
  go_upto_region 7 with (go_at_call 20; refine (has_any s zb c a _ (by omega) (HCx.out.drew n).text (HCx.out.drew n).pos).mono ?_; rintro e w' ⟨he, n', rfl⟩; rw [HBn.out] at he; subst he)
  obtain ⟨W2, hW2⟩ : ∃ W2, W2 = (wx.drewN (n + n')).setCell ⟨c, 2, none⟩ (.int .i64 ((a : Int) + 2)) := ⟨_, rfl⟩
  have HC2 : Hid (Cur W2 c s st (a + 2) m) := by rw [hW2]; exact (HCx.out.drew _).move (a + 2) _ (by omega)
  have HG2 : Hid (wx.grownBy W2 (some c)) := by rw [hW2]; exact (grown_drewN wx _ _).trans (grown_set _ ⟨c, 2, none⟩ _)
  go_upto_region 8 with (fail)
  rw [← hW2]
  clear hW2 c2 f2
  go_wp2_with (go_at_call 57; refine (some_bad _ s st (a + 2) m c N 2 ok hs (by omega) HR.out hN HC2.out).mono ?_; rintro e w1 ⟨rfl, hg1⟩)
  exact ⟨rfl, rfl, HGx.out.trans (HG2.out.trans hg1)⟩

set_option maxHeartbeats 4000000 in
theorem number_bin_over (w : World) (c : Nat) (s : ByteArray) (st a m N : Nat) (hc : Cur w c s st a m) (hs : s.size ≤ 20000) (ha : a + 2 ≤ s.size) (h0 : Lib.hasPrefix (s.extract a s.size).data.toList zx.data.toList = false) (hb : Lib.hasPrefix (s.extract a s.size).data.toList zb.data.toList = true) (hR : RunU s (a + 2) N 2 true) (hN : 1 ≤ N) (hv : (numW s (a + 2) 2 N).2 = false) :
    Calls Tryz.prog 31 #[.pointer (some ⟨c, 0, none⟩)] w fun e w' => e = .panicked (faultC st 33) ∧ w.grownBy w' (some c) := by
  have hlt := hc.lt
  obtain ⟨wx, hwx⟩ : ∃ wx, wx = w.alloc (.cells #[.int .i64 0, .string ⟨#[]⟩, .int .i64 0, .bool false] 31) := ⟨_, rfl⟩
  have HGx : Hid (w.grownBy wx (some c)) := by rw [hwx]; exact World.grownBy_alloc w _ _
  have HCx : Hid (Cur wx c s st a m) := by rw [hwx]; exact hc.kept (World.grownBy_alloc w _ none) (by simp)
  have HRx : Hid (Res wx w.heap.size) := by rw [hwx]; exact Res.new w
  have HV := Lib.hid hv
  have HWx := Lib.hid hwx
  have H0 := Lib.hid h0
  have HBn := Lib.hid hb
  have HR := Lib.hid hR
  clear hc hwx hR h0 hb hv
  have c2 := HCx.out.pos
  have f2 := HCx.out.free 2
  have e1 : IntKind.i64.wrap ((a : Int) + 2) = (a : Int) + 2 := IntWalk.i64_in _ (by omega)
  go_enter Tryz.func31, Tryz.ntmps31
  go_upto_region 2 with (fail)
  rw [← HWx.out]
  go_upto_region 4 with (go_at_call 20; refine (has_any s zx c a _ (by omega) HCx.out.text HCx.out.pos).mono ?_; rintro e w' ⟨he, n, rfl⟩; rw [H0.out] at he; subst he)
  go_upto_region 7 with (go_at_call 20; refine (has_any s zb c a _ (by omega) (HCx.out.drew n).text (HCx.out.drew n).pos).mono ?_; rintro e w' ⟨he, n', rfl⟩; rw [HBn.out] at he; subst he)
  obtain ⟨W2, hW2⟩ : ∃ W2, W2 = (wx.drewN (n + n')).setCell ⟨c, 2, none⟩ (.int .i64 ((a : Int) + 2)) := ⟨_, rfl⟩
  have HC2 : Hid (Cur W2 c s st (a + 2) m) := by rw [hW2]; exact (HCx.out.drew _).move (a + 2) _ (by omega)
  have HG2 : Hid (wx.grownBy W2 (some c)) := by rw [hW2]; exact (grown_drewN wx _ _).trans (grown_set _ ⟨c, 2, none⟩ _)
  go_upto_region 8 with (fail)
  rw [← hW2]
  clear hW2 c2 f2
  go_wp2_with (first | (go_at_call 57; refine (some_ok _ s st (a + 2) m c N 2 hs (by omega) HR.out hN HC2.out).mono ?_; rintro e w1 ⟨v, f, rfl, rfl, hf, hC1, hg1⟩; rw [HV.out] at hf; subst hf) | (go_at_call 52; refine (fail_any _ c s st _ m 33 (hC1.kept (World.grownBy_alloc w1 _ none) (by simp))).mono ?_; rintro e w2 ⟨rfl, rfl⟩))
  exact ⟨rfl, rfl, HGx.out.trans ((HG2.out.trans hg1).trans (World.grownBy_alloc _ _ _))⟩

set_option maxHeartbeats 4000000 in
theorem number_bin_ok (w : World) (c : Nat) (s : ByteArray) (st a m N : Nat) (hc : Cur w c s st a m) (hs : s.size ≤ 20000) (ha : a + 2 ≤ s.size) (h0 : Lib.hasPrefix (s.extract a s.size).data.toList zx.data.toList = false) (hb : Lib.hasPrefix (s.extract a s.size).data.toList zb.data.toList = true) (hR : RunU s (a + 2) N 2 true) (hN : 1 ≤ N) (hv : (numW s (a + 2) 2 N).2 = true) (ht : Pow10 w) (hcg : c ≠ 8) :
    Calls Tryz.prog 31 #[.pointer (some ⟨c, 0, none⟩)] w fun e w' => e = .returned (.agg #[.int .i64 3, .string (wideZ ((numW s (a + 2) 2 N).1 / 18446744073709551616) ((numW s (a + 2) 2 N).1 % 18446744073709551616)), .int .i64 0, .bool false]) ∧ Cur w' c s st (dpos s (a + 2) N) m ∧ w.grownBy w' (some c) := by
  have hlt := hc.lt
  obtain ⟨wx, hwx⟩ : ∃ wx, wx = w.alloc (.cells #[.int .i64 0, .string ⟨#[]⟩, .int .i64 0, .bool false] 31) := ⟨_, rfl⟩
  have HGx : Hid (w.grownBy wx (some c)) := by rw [hwx]; exact World.grownBy_alloc w _ _
  have HCx : Hid (Cur wx c s st a m) := by rw [hwx]; exact hc.kept (World.grownBy_alloc w _ none) (by simp)
  have HRx : Hid (Res wx w.heap.size) := by rw [hwx]; exact Res.new w
  have HTx : Hid (Pow10 wx) := by rw [hwx]; exact tabIs_grown pow10_at ht (World.grownBy_alloc w _ none) (by simp)
  have HV := Lib.hid hv
  have HWx := Lib.hid hwx
  have H0 := Lib.hid h0
  have HBn := Lib.hid hb
  have HR := Lib.hid hR
  clear hc hwx hR h0 hb hv ht
  have c2 := HCx.out.pos
  have f2 := HCx.out.free 2
  have e1 : IntKind.i64.wrap ((a : Int) + 2) = (a : Int) + 2 := IntWalk.i64_in _ (by omega)
  go_enter Tryz.func31, Tryz.ntmps31
  go_upto_region 2 with (fail)
  rw [← HWx.out]
  go_upto_region 4 with (go_at_call 20; refine (has_any s zx c a _ (by omega) HCx.out.text HCx.out.pos).mono ?_; rintro e w' ⟨he, n, rfl⟩; rw [H0.out] at he; subst he)
  go_upto_region 7 with (go_at_call 20; refine (has_any s zb c a _ (by omega) (HCx.out.drew n).text (HCx.out.drew n).pos).mono ?_; rintro e w' ⟨he, n', rfl⟩; rw [HBn.out] at he; subst he)
  obtain ⟨W2, hW2⟩ : ∃ W2, W2 = (wx.drewN (n + n')).setCell ⟨c, 2, none⟩ (.int .i64 ((a : Int) + 2)) := ⟨_, rfl⟩
  have HC2 : Hid (Cur W2 c s st (a + 2) m) := by rw [hW2]; exact (HCx.out.drew _).move (a + 2) _ (by omega)
  have HG2 : Hid (wx.grownBy W2 (some c)) := by rw [hW2]; exact (grown_drewN wx _ _).trans (grown_set _ ⟨c, 2, none⟩ _)
  go_upto_region 8 with (fail)
  rw [← hW2]
  clear hW2 c2 f2
  have hwl := numW_lt s (a + 2) 2 N
  obtain ⟨x, hx⟩ : ∃ x, x = (numW s (a + 2) 2 N).1 / 18446744073709551616 := ⟨_, rfl⟩
  obtain ⟨y, hy⟩ : ∃ y, y = (numW s (a + 2) 2 N).1 % 18446744073709551616 := ⟨_, rfl⟩
  have hx64 : x < 18446744073709551616 := by omega
  have hy64 : y < 18446744073709551616 := by omega
  have HX := Lib.hid hx
  have HY := Lib.hid hy
  have HTT := Lib.hid (fun w => text_any x y hx64 hy64 w)
  clear hx hy hx64 hy64 hwl
  go_wp2_with (go_at_call 57; refine (some_ok _ s st (a + 2) m c N 2 hs (by omega) HR.out hN HC2.out).mono ?_; rintro e w1 ⟨v, f, rfl, rfl, hf, hC1, hg1⟩; rw [HV.out] at hf; subst hf; rw [← HX.out, ← HY.out])
  have HG3 : Hid (wx.grownBy (w1.alloc (.cells #[.int .u64 x, .int .u64 y] 74)) (some c)) := (HG2.out.trans hg1).trans (World.grownBy_alloc _ _ _)
  refine (HTT.out _ (tabIs_grown pow10_at HTx.out HG3.out (by intro e; exact hcg (Option.some.inj e).symm))).mono ?_
  rintro e w2 ⟨rfl, hg2⟩
  have HG4 : Hid (wx.grownBy w2 (some c)) := HG3.out.trans (grown_row hg2 c)
  have HR2 : Hid (Res w2 w.heap.size) := HRx.out.kept HG4.out (by intro e; have := Option.some.inj e; omega)
  have HC3 : Hid (Cur w2 c s st (dpos s (a + 2) N) m) := (hC1.kept (World.grownBy_alloc w1 _ none) (by simp)).kept hg2 (by simp)
  clear hg2 hg1 hC1
  have r0 := HR2.out.c0
  have r1 := HR2.out.c1
  have r2 := HR2.out.c2
  have r3 := HR2.out.c3
  have g0 := HR2.out.free 0
  have g1 := HR2.out.free 1
  have g2 := HR2.out.free 2
  have g3 := HR2.out.free 3
  go_wp2_with fail
  refine bodyPost_ret (v := .agg #[.int .i64 3, .string (wideZ x y), .int .i64 0, .bool false]) (by simp [results, Tryz.results31, go_sem, r0, r1, r2, r3]) rfl ⟨?_, ?_, ?_⟩
  · rw [HX.out, HY.out]
  · exact cur_res HC3.out (by omega) _ _ _ _
  · exact grown_res (HGx.out.trans HG4.out) _ _ _ _

end Tk
end Go.Proofs.YtmphkifhnjfkmaaGreatDoor

namespace Go.Proofs.YtmphkifhnjfkmaaGreatDoor
open Go.ChangeShapes Go.WideShapes Go.ChangeAt Go.RowKit Go.WideMaps Go.Maps
namespace Tk

theorem frac_bad (w : World) (c : Nat) (s : ByteArray) (st a m : Nat) (hF : Frac s a none) (hc : Cur w c s st a m) (hs : s.size ≤ 20000) (ha : a ≤ s.size) :
    Calls Tryz.prog 58 #[.pointer (some ⟨c, 0, none⟩)] w fun e w' => e = .panicked (faultC st 33) ∧ w.grownBy w' (some c) := by
  refine (fraction_total w c s st a m none hF hc hs ha).mono ?_
  rintro e w' ⟨⟨_, _, h, _⟩ | ⟨_, he⟩, hg⟩
  · cases h
  · exact ⟨he, hg⟩

theorem frac_ok (w : World) (c : Nat) (s : ByteArray) (st a m : Nat) (f : Bool) (q : Nat) (hF : Frac s a (some (f, q))) (hc : Cur w c s st a m) (hs : s.size ≤ 20000) (ha : a ≤ s.size) :
    Calls Tryz.prog 58 #[.pointer (some ⟨c, 0, none⟩)] w fun e w' => e = .returned (.bool f) ∧ Cur w' c s st q m ∧ w.grownBy w' (some c) := by
  refine (fraction_total w c s st a m _ hF hc hs ha).mono ?_
  rintro e w' ⟨⟨_, _, h, he, hcu⟩ | ⟨h, _⟩, hg⟩
  · cases h
    exact ⟨he, hcu, hg⟩
  · cases h

set_option maxHeartbeats 4000000 in
theorem number_dec_bad (w : World) (c : Nat) (s : ByteArray) (st a m N : Nat) (ok : Bool) (hc : Cur w c s st a m) (hs : s.size ≤ 20000) (ha : a ≤ s.size) (h0 : Lib.hasPrefix (s.extract a s.size).data.toList zx.data.toList = false) (hb : Lib.hasPrefix (s.extract a s.size).data.toList zb.data.toList = false) (hR : RunU s a N 10 ok) (hN : ok = false ∨ N = 0) :
    Calls Tryz.prog 31 #[.pointer (some ⟨c, 0, none⟩)] w fun e w' => e = .panicked (faultC st 33) ∧ w.grownBy w' (some c) := by
  have hlt := hc.lt
  obtain ⟨wx, hwx⟩ : ∃ wx, wx = w.alloc (.cells #[.int .i64 0, .string ⟨#[]⟩, .int .i64 0, .bool false] 31) := ⟨_, rfl⟩
  have HGx : Hid (w.grownBy wx (some c)) := by rw [hwx]; exact World.grownBy_alloc w _ _
  have HCx : Hid (Cur wx c s st a m) := by rw [hwx]; exact hc.kept (World.grownBy_alloc w _ none) (by simp)
  have HRx : Hid (Res wx w.heap.size) := by rw [hwx]; exact Res.new w
  have HWx := Lib.hid hwx
  have H0 := Lib.hid h0
  have HBn := Lib.hid hb
  have HR := Lib.hid hR
  clear hc hwx hR h0 hb
  go_enter Tryz.func31, Tryz.ntmps31
  go_upto_region 2 with (fail)
  rw [← HWx.out]
  go_upto_region 4 with (go_at_call 20; refine (has_any s zx c a _ (by omega) HCx.out.text HCx.out.pos).mono ?_; rintro e w' ⟨he, n, rfl⟩; rw [H0.out] at he; subst he)
  go_upto_region 6 with (go_at_call 20; refine (has_any s zb c a _ (by omega) (HCx.out.drew n).text (HCx.out.drew n).pos).mono ?_; rintro e w' ⟨he, n', rfl⟩; rw [HBn.out] at he; subst he)
  obtain ⟨W2, hW2⟩ : ∃ W2, W2 = wx.drewN (n + n') := ⟨_, rfl⟩
  have HC2 : Hid (Cur W2 c s st a m) := by rw [hW2]; exact HCx.out.drew _
  have HG2 : Hid (wx.grownBy W2 (some c)) := by rw [hW2]; exact grown_drewN wx _ _
  rw [← hW2]
  clear hW2
  go_wp2_with (go_at_call 57; refine (some_bad _ s st a m c N 10 ok hs (by omega) HR.out hN HC2.out).mono ?_; rintro e w1 ⟨rfl, hg1⟩)
  exact ⟨rfl, rfl, HGx.out.trans (HG2.out.trans hg1)⟩

set_option maxHeartbeats 4000000 in
theorem number_dec_fracbad (w : World) (c : Nat) (s : ByteArray) (st a m N : Nat) (hc : Cur w c s st a m) (hs : s.size ≤ 20000) (ha : a ≤ s.size) (h0 : Lib.hasPrefix (s.extract a s.size).data.toList zx.data.toList = false) (hb : Lib.hasPrefix (s.extract a s.size).data.toList zb.data.toList = false) (hR : RunU s a N 10 true) (hN : 1 ≤ N) (hF : Frac s (dpos s a N) none) :
    Calls Tryz.prog 31 #[.pointer (some ⟨c, 0, none⟩)] w fun e w' => e = .panicked (faultC st 33) ∧ w.grownBy w' (some c) := by
  have hlt := hc.lt
  obtain ⟨wx, hwx⟩ : ∃ wx, wx = w.alloc (.cells #[.int .i64 0, .string ⟨#[]⟩, .int .i64 0, .bool false] 31) := ⟨_, rfl⟩
  have HGx : Hid (w.grownBy wx (some c)) := by rw [hwx]; exact World.grownBy_alloc w _ _
  have HCx : Hid (Cur wx c s st a m) := by rw [hwx]; exact hc.kept (World.grownBy_alloc w _ none) (by simp)
  have HRx : Hid (Res wx w.heap.size) := by rw [hwx]; exact Res.new w
  have HF := Lib.hid hF
  have HSZ := Lib.hid hR.size
  have HWx := Lib.hid hwx
  have H0 := Lib.hid h0
  have HBn := Lib.hid hb
  have HR := Lib.hid hR
  clear hc hwx hR h0 hb hF
  go_enter Tryz.func31, Tryz.ntmps31
  go_upto_region 2 with (fail)
  rw [← HWx.out]
  go_upto_region 4 with (go_at_call 20; refine (has_any s zx c a _ (by omega) HCx.out.text HCx.out.pos).mono ?_; rintro e w' ⟨he, n, rfl⟩; rw [H0.out] at he; subst he)
  go_upto_region 6 with (go_at_call 20; refine (has_any s zb c a _ (by omega) (HCx.out.drew n).text (HCx.out.drew n).pos).mono ?_; rintro e w' ⟨he, n', rfl⟩; rw [HBn.out] at he; subst he)
  obtain ⟨W2, hW2⟩ : ∃ W2, W2 = wx.drewN (n + n') := ⟨_, rfl⟩
  have HC2 : Hid (Cur W2 c s st a m) := by rw [hW2]; exact HCx.out.drew _
  have HG2 : Hid (wx.grownBy W2 (some c)) := by rw [hW2]; exact grown_drewN wx _ _
  rw [← hW2]
  clear hW2
  go_wp2_with (first | (go_at_call 57; refine (some_ok _ s st a m c N 10 hs (by omega) HR.out hN HC2.out).mono ?_; rintro e w1 ⟨v, f, rfl, rfl, hf, hC1, hg1⟩; clear hf) | (go_at_call 58; refine (frac_bad _ c s st _ m HF.out (hC1.kept (World.grownBy_alloc w1 _ none) (by simp)) hs HSZ.out).mono ?_; rintro e w2 ⟨rfl, hg2⟩))
  exact ⟨rfl, rfl, HGx.out.trans (((HG2.out.trans hg1).trans (World.grownBy_alloc _ _ _)).trans hg2)⟩

set_option maxHeartbeats 4000000 in
theorem number_dec_over (w : World) (c : Nat) (s : ByteArray) (st a m N : Nat) (q : Nat) (hc : Cur w c s st a m) (hs : s.size ≤ 20000) (ha : a ≤ s.size) (h0 : Lib.hasPrefix (s.extract a s.size).data.toList zx.data.toList = false) (hb : Lib.hasPrefix (s.extract a s.size).data.toList zb.data.toList = false) (hR : RunU s a N 10 true) (hN : 1 ≤ N) (hF : Frac s (dpos s a N) (some (false, q))) (hv : (numW s a 10 N).2 = false) :
    Calls Tryz.prog 31 #[.pointer (some ⟨c, 0, none⟩)] w fun e w' => e = .panicked (faultC st 33) ∧ w.grownBy w' (some c) := by
  have hlt := hc.lt
  obtain ⟨wx, hwx⟩ : ∃ wx, wx = w.alloc (.cells #[.int .i64 0, .string ⟨#[]⟩, .int .i64 0, .bool false] 31) := ⟨_, rfl⟩
  have HGx : Hid (w.grownBy wx (some c)) := by rw [hwx]; exact World.grownBy_alloc w _ _
  have HCx : Hid (Cur wx c s st a m) := by rw [hwx]; exact hc.kept (World.grownBy_alloc w _ none) (by simp)
  have HRx : Hid (Res wx w.heap.size) := by rw [hwx]; exact Res.new w
  have HF := Lib.hid hF
  have HV := Lib.hid hv
  have HSZ := Lib.hid hR.size
  have HWx := Lib.hid hwx
  have H0 := Lib.hid h0
  have HBn := Lib.hid hb
  have HR := Lib.hid hR
  clear hc hwx hR h0 hb hF hv
  go_enter Tryz.func31, Tryz.ntmps31
  go_upto_region 2 with (fail)
  rw [← HWx.out]
  go_upto_region 4 with (go_at_call 20; refine (has_any s zx c a _ (by omega) HCx.out.text HCx.out.pos).mono ?_; rintro e w' ⟨he, n, rfl⟩; rw [H0.out] at he; subst he)
  go_upto_region 6 with (go_at_call 20; refine (has_any s zb c a _ (by omega) (HCx.out.drew n).text (HCx.out.drew n).pos).mono ?_; rintro e w' ⟨he, n', rfl⟩; rw [HBn.out] at he; subst he)
  obtain ⟨W2, hW2⟩ : ∃ W2, W2 = wx.drewN (n + n') := ⟨_, rfl⟩
  have HC2 : Hid (Cur W2 c s st a m) := by rw [hW2]; exact HCx.out.drew _
  have HG2 : Hid (wx.grownBy W2 (some c)) := by rw [hW2]; exact grown_drewN wx _ _
  rw [← hW2]
  clear hW2
  go_wp2_with (first | (go_at_call 57; refine (some_ok _ s st a m c N 10 hs (by omega) HR.out hN HC2.out).mono ?_; rintro e w1 ⟨v, f, rfl, rfl, hf, hC1, hg1⟩; rw [HV.out] at hf; subst hf) | (go_at_call 58; refine (frac_ok _ c s st _ m false q HF.out (hC1.kept (World.grownBy_alloc w1 _ none) (by simp)) hs HSZ.out).mono ?_; rintro e w2 ⟨rfl, hC2, hg2⟩) | (go_at_call 52; refine (fail_any _ c s st _ m 33 hC2).mono ?_; rintro e w3 ⟨rfl, rfl⟩))
  exact ⟨rfl, rfl, HGx.out.trans (((HG2.out.trans hg1).trans (World.grownBy_alloc _ _ _)).trans hg2)⟩

set_option maxHeartbeats 4000000 in
theorem number_dec_ok (w : World) (c : Nat) (s : ByteArray) (st a m N : Nat) (q : Nat) (hc : Cur w c s st a m) (hs : s.size ≤ 20000) (ha : a ≤ s.size) (h0 : Lib.hasPrefix (s.extract a s.size).data.toList zx.data.toList = false) (hb : Lib.hasPrefix (s.extract a s.size).data.toList zb.data.toList = false) (hR : RunU s a N 10 true) (hN : 1 ≤ N) (hF : Frac s (dpos s a N) (some (false, q))) (hv : (numW s a 10 N).2 = true) (ht : Pow10 w) (hcg : c ≠ 8) :
    Calls Tryz.prog 31 #[.pointer (some ⟨c, 0, none⟩)] w fun e w' => e = .returned (.agg #[.int .i64 3, .string (wideZ ((numW s a 10 N).1 / 18446744073709551616) ((numW s a 10 N).1 % 18446744073709551616)), .int .i64 0, .bool false]) ∧ Cur w' c s st q m ∧ w.grownBy w' (some c) := by
  have hlt := hc.lt
  obtain ⟨wx, hwx⟩ : ∃ wx, wx = w.alloc (.cells #[.int .i64 0, .string ⟨#[]⟩, .int .i64 0, .bool false] 31) := ⟨_, rfl⟩
  have HGx : Hid (w.grownBy wx (some c)) := by rw [hwx]; exact World.grownBy_alloc w _ _
  have HCx : Hid (Cur wx c s st a m) := by rw [hwx]; exact hc.kept (World.grownBy_alloc w _ none) (by simp)
  have HRx : Hid (Res wx w.heap.size) := by rw [hwx]; exact Res.new w
  have HTx : Hid (Pow10 wx) := by rw [hwx]; exact tabIs_grown pow10_at ht (World.grownBy_alloc w _ none) (by simp)
  have HF := Lib.hid hF
  have HV := Lib.hid hv
  have HSZ := Lib.hid hR.size
  have HWx := Lib.hid hwx
  have H0 := Lib.hid h0
  have HBn := Lib.hid hb
  have HR := Lib.hid hR
  clear hc hwx hR h0 hb hF hv ht
  go_enter Tryz.func31, Tryz.ntmps31
  go_upto_region 2 with (fail)
  rw [← HWx.out]
  go_upto_region 4 with (go_at_call 20; refine (has_any s zx c a _ (by omega) HCx.out.text HCx.out.pos).mono ?_; rintro e w' ⟨he, n, rfl⟩; rw [H0.out] at he; subst he)
  go_upto_region 6 with (go_at_call 20; refine (has_any s zb c a _ (by omega) (HCx.out.drew n).text (HCx.out.drew n).pos).mono ?_; rintro e w' ⟨he, n', rfl⟩; rw [HBn.out] at he; subst he)
  obtain ⟨W2, hW2⟩ : ∃ W2, W2 = wx.drewN (n + n') := ⟨_, rfl⟩
  have HC2 : Hid (Cur W2 c s st a m) := by rw [hW2]; exact HCx.out.drew _
  have HG2 : Hid (wx.grownBy W2 (some c)) := by rw [hW2]; exact grown_drewN wx _ _
  rw [← hW2]
  clear hW2
  have hwl := numW_lt s a 10 N
  obtain ⟨x, hx⟩ : ∃ x, x = (numW s a 10 N).1 / 18446744073709551616 := ⟨_, rfl⟩
  obtain ⟨y, hy⟩ : ∃ y, y = (numW s a 10 N).1 % 18446744073709551616 := ⟨_, rfl⟩
  have hx64 : x < 18446744073709551616 := by omega
  have hy64 : y < 18446744073709551616 := by omega
  have HX := Lib.hid hx
  have HY := Lib.hid hy
  have HTT := Lib.hid (fun w => text_any x y hx64 hy64 w)
  clear hx hy hx64 hy64 hwl
  go_wp2_with (go_at_call 57; refine (some_ok _ s st a m c N 10 hs (by omega) HR.out hN HC2.out).mono ?_; rintro e w1 ⟨v, f, rfl, rfl, hf, hC1, hg1⟩; rw [HV.out] at hf; subst hf; rw [← HX.out, ← HY.out])
  have HG3 : Hid (wx.grownBy (w1.alloc (.cells #[.int .u64 x, .int .u64 y] 74)) (some c)) := (HG2.out.trans hg1).trans (World.grownBy_alloc _ _ _)
  have HWd : Hid ((w1.alloc (.cells #[.int .u64 x, .int .u64 y] 74)).cell? ⟨w1.heap.size, 0, none⟩ = some (.int .u64 x) ∧ (w1.alloc (.cells #[.int .u64 x, .int .u64 y] 74)).cell? ⟨w1.heap.size, 1, none⟩ = some (.int .u64 y)) := ⟨by simp [go_sem], by simp [go_sem]⟩
  refine (frac_ok _ c s st _ m false q HF.out (hC1.kept (World.grownBy_alloc w1 _ none) (by simp)) hs HSZ.out).mono ?_
  rintro e w2 ⟨rfl, hC2, hg2⟩
  have hlt1 := hC1.lt
  have hB1 : w1.heap.size ≠ c := by omega
  have k0 : w2.cell? ⟨w1.heap.size, 0, none⟩ = some (.int .u64 x) := cell_grown HWd.out.1 hg2 (fun e => hB1 (Option.some.inj e))
  have k1 : w2.cell? ⟨w1.heap.size, 1, none⟩ = some (.int .u64 y) := cell_grown HWd.out.2 hg2 (fun e => hB1 (Option.some.inj e))
  have HG4 : Hid (wx.grownBy w2 (some c)) := HG3.out.trans hg2
  have HC3 := Lib.hid hC2
  clear hg1 hg2 hC1 hC2 HWd
  go_wp2_with fail
  refine (HTT.out _ (tabIs_grown pow10_at HTx.out HG4.out (by intro e; exact hcg (Option.some.inj e).symm))).mono ?_
  rintro e w3 ⟨rfl, hg3⟩
  have HG5 : Hid (wx.grownBy w3 (some c)) := HG4.out.trans (grown_row hg3 c)
  have HR2 : Hid (Res w3 w.heap.size) := HRx.out.kept HG5.out (by intro e; have := Option.some.inj e; omega)
  have HC4 : Hid (Cur w3 c s st q m) := HC3.out.kept hg3 (by simp)
  clear hg3 k0 k1
  have r0 := HR2.out.c0
  have r1 := HR2.out.c1
  have r2 := HR2.out.c2
  have r3 := HR2.out.c3
  have g0 := HR2.out.free 0
  have g1 := HR2.out.free 1
  have g2 := HR2.out.free 2
  have g3 := HR2.out.free 3
  go_wp2_with fail
  refine bodyPost_ret (v := .agg #[.int .i64 3, .string (wideZ x y), .int .i64 0, .bool false]) (by simp [results, Tryz.results31, go_sem, r0, r1, r2, r3]) rfl ⟨?_, ?_, ?_⟩
  · rw [HX.out, HY.out]
  · exact cur_res HC4.out (by omega) _ _ _ _
  · exact grown_res (HGx.out.trans HG5.out) _ _ _ _

end Tk
end Go.Proofs.YtmphkifhnjfkmaaGreatDoor



namespace Go.Proofs.YtmphkifhnjfkmaaGreatDoor
open Go.ChangeShapes Go.WideShapes Go.ChangeAt Go.RowKit Go.WideMaps Go.Maps
namespace Tk

/-- A text without its underscores. -/
def unU (x : ByteArray) : ByteArray := ⟨(Lib.replaceAll x.data.toList [95] []).toArray⟩
/-- A text with e for E. -/
def lowE (x : ByteArray) : ByteArray := ⟨(Lib.replaceAll x.data.toList [69] [101]).toArray⟩

theorem replaceK_nil_le (old : List UInt8) : ∀ (k : Nat) (s : List UInt8), (Lib.replaceK old [] k s).length ≤ s.length
  | 0, s => Nat.le_refl _
  | k + 1, s => by
    unfold Lib.replaceK
    split
    · exact Nat.le_refl _
    · have h := replaceK_nil_le old k (s.drop ((Lib.index s old).toNat + old.length))
      rw [List.length_drop] at h
      rw [List.append_nil, List.length_append, List.length_take]
      omega

theorem unU_size (x : ByteArray) : (unU x).size ≤ x.size := by
  show (Lib.replaceAll x.data.toList [95] []).toArray.size ≤ x.data.size
  rw [List.size_toArray]
  unfold Lib.replaceAll Lib.replace
  split
  · simp
  · refine Nat.le_trans (replaceK_nil_le _ _ _) ?_
    simp

theorem rep_under (x : ByteArray) (w : World) (hx : x.size ≤ 20000) (hm : MaxL w) :
    Calls Tryz.prog 59 #[.string x, .string ⟨#[95]⟩, .string ⟨#[]⟩] w fun e w' => e = .returned (.string (unU x)) ∧ Below w.heap.size w w' := by
  obtain ⟨mm, hm⟩ := hm
  refine (Tryz.strings_ReplaceAll x ⟨#[95]⟩ ⟨#[]⟩ mm w (by omega) hm (by decide) ?_).mono ?_
  · show x.size + _ * 0 ≤ _
    omega
  · rintro e w' ⟨rfl, h⟩
    exact ⟨rfl, h⟩

theorem rep_low (x : ByteArray) (w : World) (hx : x.size ≤ 20000) (hm : MaxL w) :
    Calls Tryz.prog 59 #[.string x, .string ⟨#[69]⟩, .string ⟨#[101]⟩] w fun e w' => e = .returned (.string (lowE x)) ∧ Below w.heap.size w w' := by
  obtain ⟨mm, hm⟩ := hm
  refine (Tryz.strings_ReplaceAll x ⟨#[69]⟩ ⟨#[101]⟩ mm w (by omega) hm (by decide) ?_).mono ?_
  · have := Lib.countB_le ⟨#[69]⟩ (by decide) x.size x (Nat.le_refl _)
    show x.size + _ * 1 ≤ _
    omega
  · rintro e w' ⟨rfl, h⟩
    exact ⟨rfl, h⟩

set_option maxHeartbeats 8000000 in
theorem number_dec_float (w : World) (c : Nat) (s : ByteArray) (st a m N q : Nat) (hc : Cur w c s st a m) (hs : s.size ≤ 20000) (ha : a ≤ s.size) (h0 : Lib.hasPrefix (s.extract a s.size).data.toList zx.data.toList = false) (hb : Lib.hasPrefix (s.extract a s.size).data.toList zb.data.toList = false) (hR : RunU s a N 10 true) (hN : 1 ≤ N) (hF : Frac s (dpos s a N) (some (true, q))) (hq0 : st ≤ q) (hq1 : q ≤ s.size) (hml : MaxL w) (hcg : 5 ≠ c) :
    Calls Tryz.prog 31 #[.pointer (some ⟨c, 0, none⟩)] w fun e w' => e = .returned (.agg #[.int .i64 4, .string (lowE (unU (s.extract st q))), .int .i64 0, .bool false]) ∧ Cur w' c s st q m ∧ w.grownBy w' (some c) := by
  have hlt := hc.lt
  obtain ⟨wx, hwx⟩ : ∃ wx, wx = w.alloc (.cells #[.int .i64 0, .string ⟨#[]⟩, .int .i64 0, .bool false] 31) := ⟨_, rfl⟩
  have HGx : Hid (w.grownBy wx (some c)) := by rw [hwx]; exact World.grownBy_alloc w _ _
  have HCx : Hid (Cur wx c s st a m) := by rw [hwx]; exact hc.kept (World.grownBy_alloc w _ none) (by simp)
  have HRx : Hid (Res wx w.heap.size) := by rw [hwx]; exact Res.new w
  have HMx : Hid (MaxL w) := hml
  have HF := Lib.hid hF
  have HSZ := Lib.hid hR.size
  have HWx := Lib.hid hwx
  have H0 := Lib.hid h0
  have HBn := Lib.hid hb
  have HR := Lib.hid hR
  clear hc hwx hR h0 hb hF hml
  go_enter Tryz.func31, Tryz.ntmps31
  go_upto_region 2 with (fail)
  rw [← HWx.out]
  go_upto_region 4 with (go_at_call 20; refine (has_any s zx c a _ (by omega) HCx.out.text HCx.out.pos).mono ?_; rintro e w' ⟨he, n, rfl⟩; rw [H0.out] at he; subst he)
  go_upto_region 6 with (go_at_call 20; refine (has_any s zb c a _ (by omega) (HCx.out.drew n).text (HCx.out.drew n).pos).mono ?_; rintro e w' ⟨he, n', rfl⟩; rw [HBn.out] at he; subst he)
  obtain ⟨W2, hW2⟩ : ∃ W2, W2 = wx.drewN (n + n') := ⟨_, rfl⟩
  have HC2 : Hid (Cur W2 c s st a m) := by rw [hW2]; exact HCx.out.drew _
  have HG2 : Hid (wx.grownBy W2 (some c)) := by rw [hW2]; exact grown_drewN wx _ _
  rw [← hW2]
  clear hW2
  go_wp2_with (go_at_call 57; refine (some_ok _ s st a m c N 10 hs (by omega) HR.out hN HC2.out).mono ?_; rintro e w1 ⟨v, f, rfl, rfl, hf, hC1, hg1⟩; clear hf)
  refine (frac_ok _ c s st _ m true q HF.out (hC1.kept (World.grownBy_alloc w1 _ none) (by simp)) hs HSZ.out).mono ?_
  rintro e w2 ⟨rfl, hC2, hg2⟩
  have HG4 : Hid (w.grownBy w2 (some c)) := HGx.out.trans (((HG2.out.trans hg1).trans (World.grownBy_alloc _ _ _)).trans hg2)
  have HC3 := Lib.hid hC2
  have HR2 : Hid (Res w2 w.heap.size) := HRx.out.kept (((HG2.out.trans hg1).trans (World.grownBy_alloc _ _ _)).trans hg2) (by intro e; have := Option.some.inj e; omega)
  have HM2 : Hid (MaxL w2) := maxL_grown HMx.out HG4.out (fun e => hcg (Option.some.inj e))
  clear hg1 hg2 hC1 hC2
  have c0 := HC3.out.text
  have c1 := HC3.out.start
  have c2 := HC3.out.pos
  have i0 : (0 : Int) ≤ st := by omega
  have i1 : (st : Int) ≤ q := by omega
  have i2 : (q : Int) ≤ s.size := by omega
  have i3 : (0 : Int) ≤ q := by omega
  have hxs : (s.extract st q).size ≤ 20000 := by rw [ByteArray.size_extract]; omega
  have hlt2 := HC3.out.lt
  have i4 : ¬ (q : Int) < st := by omega
  have i5 : ¬ (s.size : Int) < q := by omega
  go_upto_region 10 with (fail)
  go_region_held3 (fun w' => w'.cell? ⟨c, 0, none⟩ = some (.string s) ∧ w'.cell? ⟨c, 1, none⟩ = some (.int .i64 st) ∧ w'.cell? ⟨c, 2, none⟩ = some (.int .i64 q)) (first | exact ⟨c0, c1, c2⟩ | exact ⟨c4, c5, c3⟩)
    (first | (go_at_call 59; refine (rep_under _ _ ?_ ?_).mono ?_; exact hxs; exact HM2.out; rintro e w3 ⟨rfl, hb3⟩; have HC4 := Lib.hid (Cur.below (HC3.out.drew 1) hb3 hlt2); have HB3 := Lib.hid hb3; have c4 := HC4.out.text; have c5 := HC4.out.start; have c3 := HC4.out.pos; clear hb3; go_simp))
  have hgz := HG4.out.size
  have HBo : Hid (Below w2.heap.size w2 w3) := ⟨HB3.out.os, HB3.out.tape, HB3.out.output, HB3.out.size, HB3.out.block⟩
  have HG5 : Hid (w.grownBy w3 (some c)) := grown_below HG4.out (HBo.out.mono hgz)
  have HR3 : Hid (Res w3 w.heap.size) := HR2.out.kept (grown_below (World.grownBy.refl w2 (some c)) HBo.out) (by intro e; have := Option.some.inj e; omega)
  have HM3 : Hid (MaxL w3) := maxL_grown HMx.out HG5.out (fun e => hcg (Option.some.inj e))
  have hus : (unU (s.extract st q)).size ≤ 20000 := Nat.le_trans (unU_size _) hxs
  clear c0 c1 c2 c3 c4 c5
  go_wp2_with fail
  refine (rep_low _ _ hus HM3.out).mono ?_
  rintro e w4 ⟨rfl, hb4⟩
  have hlt3 := HC4.out.lt
  have hgz3 := HG5.out.size
  have HC5 : Hid (Cur w4 c s st q m) := Cur.below HC4.out hb4 hlt3
  have HG6 : Hid (w.grownBy w4 (some c)) := grown_below HG5.out (hb4.mono hgz3)
  have HR4 : Hid (Res w4 w.heap.size) := HR3.out.kept (grown_below (World.grownBy.refl w3 (some c)) hb4) (by intro e; have := Option.some.inj e; omega)
  clear hb4
  have r0 := HR4.out.c0
  have r1 := HR4.out.c1
  have r2 := HR4.out.c2
  have r3 := HR4.out.c3
  have g0 := HR4.out.free 0
  have g1 := HR4.out.free 1
  have g2 := HR4.out.free 2
  have g3 := HR4.out.free 3
  go_wp2_with fail
  refine bodyPost_ret (v := .agg #[.int .i64 4, .string (lowE (unU (s.extract st q))), .int .i64 0, .bool false]) (by simp [results, Tryz.results31, go_sem, r0, r1, r2, r3]) rfl ⟨?_, ?_, ?_⟩
  · rfl
  · exact cur_res HC5.out (by omega) _ _ _ _
  · exact grown_res HG6.out _ _ _ _

end Tk
end Go.Proofs.YtmphkifhnjfkmaaGreatDoor
