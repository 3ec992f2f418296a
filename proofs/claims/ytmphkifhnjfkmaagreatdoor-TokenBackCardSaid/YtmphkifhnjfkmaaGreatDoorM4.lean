/- Passing over blanks and comments, whatever stands there. Scan of any text that is not too large: its tokens, or the place of an error. The token at a place, or the error: all kinds but numbers. A range over a function that keeps a place of its own and may end in a panic. The digits of a base, with underscores between them: the closure that hands them on, or fails. Push of a digit to any number of 128 bits. Some digits, whatever stands there. A fraction and an exponent, whatever stands there. What stands at a place is one thing: the run of digits, the exponent, the fraction are unique. -/
import Derived.Test.YtmphkifhnjfkmaaGreatDoorM3
namespace Go.Proofs.YtmphkifhnjfkmaaGreatDoor
open Go.ChangeShapes Go.WideShapes Go.ChangeAt Go.RowKit Go.WideMaps Go.Maps
namespace Tk

def lineN (s : ByteArray) (p : Nat) : Nat := (lineEndZ s p).toNat

theorem findAt_range (s : ByteArray) (p : Nat) (hp : p ≤ s.size) : findAt s p 10 = -1 ∨ (0 ≤ findAt s p 10 ∧ findAt s p 10 < s.size - p) := by
  have h := index_below (s.extract p s.size).data.toList 10
  have hg := Lib.indexByte_ge (s.extract p s.size).data.toList 10
  rw [ext_len, Nat.min_self] at h
  unfold findAt
  rcases h with h | h
  · by_cases h0 : 0 ≤ Lib.indexByte (s.extract p s.size).data.toList 10
    · exact .inr ⟨h0, by omega⟩
    · exact .inl (by omega)
  · exact .inl h

theorem lineN_spec (s : ByteArray) (p : Nat) (hp : p ≤ s.size) : lineEndZ s p = lineN s p ∧ lineN s p ≤ s.size ∧ p ≤ lineN s p := by
  have h := findAt_range s p hp
  unfold lineN lineEndZ
  split <;> refine ⟨?_, ?_, ?_⟩ <;> omega

theorem lineN_lt (s : ByteArray) (p : Nat) (hp : p < s.size) (hb : hasP s p slash2 = true) : p < lineN s p := by
  have h := findAt_range s p (by omega)
  have h0 : findAt s p 10 ≠ 0 := by
    unfold findAt
    rw [Lib.ext_list]
    unfold hasP Lib.hasPrefix at hb
    rw [Lib.ext_list] at hb
    cases hl : s.data.toList.drop p with
    | nil => rw [hl] at hb; cases hb
    | cons x t =>
      rw [hl] at hb
      have hx : ((47 : UInt8) == x) = true := by
        have : (((47 : UInt8) == x) && _) = true := hb
        rw [Bool.and_eq_true] at this
        exact this.1
      have hx' : 47 = x := by simpa using hx
      subst hx'
      have hg := Lib.indexByte_ge t 10
      unfold Lib.indexByte
      rw [if_neg (by decide)]
      split <;> rename_i hh <;> simp at hh ⊢ <;> omega
  unfold lineN lineEndZ
  split <;> omega

/-- Where blanks and comments from place p on end, or which comment is wrong. -/
def skipF (s : ByteArray) : Nat → Nat → Nat ⊕ Nat
  | 0, p => .inl p
  | n + 1, p =>
    if p < s.size then
      (if 0 ≤ blankI (byteAt s p) then skipF s n (p + 1)
       else if hasP s p slash2 = true then (if Lib.validD (s.extract p (lineN s p)).data.toList = true then skipF s n (lineN s p) else .inr p)
       else if hasP s p slashS = true then
         (if commentEndZ s p = -1 then .inr p else if Lib.validD (s.extract p (commentEndZ s p).toNat).data.toList = true then skipF s n (commentEndZ s p).toNat else .inr p)
       else .inl p)
    else .inl p

def skipM (s : ByteArray) (p : Nat) : Nat ⊕ Nat := skipF s (s.size + 1 - p) p

set_option maxHeartbeats 8000000 in
set_option maxRecDepth 100000 in
theorem skip_total (w : World) (c : Nat) (s : ByteArray) (st a m : Nat) (hc : Cur w c s st a m) (hs : s.size ≤ 20000) (ha : a ≤ s.size) (hu : Utf8T w) (hc1 : 3 ≠ c) (hc2 : 4 ≠ c) :
    Calls Tryz.prog 10 #[.pointer (some ⟨c, 0, none⟩)] w fun e w' =>
      ((∃ b, skipM s a = .inl b ∧ e = .returned (.bool (feedB s a b)) ∧ ∃ st', Cur w' c s st' b m) ∨ (∃ q, skipM s a = .inr q ∧ e = .panicked (faultC q 32))) ∧ w.grownBy w' (some c) := by
  obtain ⟨R, hR⟩ : ∃ R, R = skipM s a := ⟨_, rfl⟩
  rw [← hR]
  have HC := Lib.hid hc
  have HR := Lib.hid hR
  have HU := Lib.hid hu
  have H1 := Lib.hid hc1
  have H2 := Lib.hid hc2
  have c2 := hc.pos
  clear hc hR hu hc1 hc2
  go_enter Tryz.func10, Tryz.ntmps10
  go_wp2_with fail
  clear c2
  go_loopw [] (fun wr => ∃ (n p st' : Nat), a ≤ p ∧ p ≤ s.size ∧ s.size < n + p ∧ Cur wr c s st' p m ∧ Hid (skipF s n p = R) ∧ w.grownBy wr (some c)) (fun wr => s.size - posOf wr c)
  case atStart => exact ⟨s.size + 1 - a, a, st, Nat.le_refl _, ha, by omega, HC.out, HR.out.symm, World.grownBy.refl _ _⟩
  case round =>
    obtain ⟨n, p, st', hap, hp, hnp, hcp, HF, hg⟩ := hrel
    have HCP := Lib.hid hcp
    have HG := Lib.hid hg
    clear hcp hg HC HR
    obtain ⟨n, rfl⟩ : ∃ n', n = n' + 1 := ⟨n - 1, by omega⟩
    have hF := HF.out
    clear HF
    unfold skipF at hF
    have c0 := HCP.out.text
    have c2 := HCP.out.pos
    have f2 := HCP.out.free 2
    have p0 : (0 : Int) ≤ p := by omega
    by_cases hps : p < s.size
    · rw [if_pos hps] at hF
      have i1 : (p : Int) < s.size := by omega
      have HB : Hid (byteAt s p = (s[p]'hps).toNat) := by show _ = _; simp [byteAt, hps]
      obtain ⟨z, hz⟩ : ∃ z, z = blankI (byteAt s p) := ⟨_, rfl⟩
      have hz' : Lib.indexByte (⟨#[32, 9, 13, 10]⟩ : ByteArray).data.toList (((s[p]'hps).toNat : Int)).toNat.toUInt8 = z := by rw [hz, HB.out]; rfl
      rw [← hz] at hF
      have hIB : ∀ w : World, Calls Tryz.prog 19 #[.string ⟨#[32, 9, 13, 10]⟩, .int .u8 ((s[p]'hps).toNat : Int)] w fun e w' => e = .returned (.int .i64 z) ∧ w' = w := fun w => hz' ▸ Tryz.strings_IndexByte ⟨#[32, 9, 13, 10]⟩ _ w
      have HIB := Lib.hid hIB
      clear hz hz' hIB
      by_cases hz : 0 ≤ z
      · rw [if_pos hz] at hF
        have HF := Lib.hid hF
        clear hF
        have hw : IntKind.i64.wrap ((p : Int) + 1) = (p : Int) + 1 := IntWalk.i64_in _ (by omega)
        go_wp2_with fail
        go_quiet (fail)
        go_upto_region 4 with (fail)
        obtain ⟨wo, hwo⟩ : ∃ wo, wo = wr.drewN nq := ⟨_, rfl⟩
        have HCo : Hid (Cur wo c s st' p m) := by rw [hwo]; exact HCP.out.drew nq
        have HGo : Hid (w.grownBy wo (some c)) := by rw [hwo]; exact HG.out.trans (grown_drewN _ _ _)
        have HUo : Hid (Utf8T wo) := utf8_grown HU.out HGo.out (fun e => H1.out (Option.some.inj e)) (fun e => H2.out (Option.some.inj e))
        rw [← hwo]
        clear hwo c0 c2 f2
        have c0 := HCo.out.text
        have c2 := HCo.out.pos
        have f2 := HCo.out.free 2
        go_quiet ((go_at_call 19; exact Calls.quiet_of_same (HIB.out _)))
        go_wp2_with fail
        have hC1 : Cur ((wo.drewN nq).setCell ⟨c, 2, none⟩ (.int .i64 ((p : Int) + 1))) c s st' (p + 1) m := (HCo.out.drew nq).move (p + 1) _ (by omega)
        refine ⟨⟨n, p + 1, st', by omega, by omega, by omega, hC1, HF, (HGo.out.trans (grown_drewN _ _ _)).trans (grown_set _ ⟨c, 2, none⟩ _)⟩, ?_⟩
        rw [hC1.posOf, HCP.out.posOf]
        omega
      · rw [if_neg hz] at hF
        have z1 : z < 0 := by omega
        cases hh : hasP s p slash2
        · rw [hh, if_neg (by decide)] at hF
          have HHp : Hid (Lib.hasPrefix (s.extract p s.size).data.toList slash2.data.toList = false) := hh
          clear hh
          cases hh : hasP s p slashS
          · rw [hh, if_neg (by decide)] at hF
            have HHq : Hid (Lib.hasPrefix (s.extract p s.size).data.toList slashS.data.toList = false) := hh
            have HF := Lib.hid hF
            clear hF hh
            go_wp2_with fail
            go_quiet (fail)
            go_upto_region 4 with (fail)
            obtain ⟨wo, hwo⟩ : ∃ wo, wo = wr.drewN nq := ⟨_, rfl⟩
            have HCo : Hid (Cur wo c s st' p m) := by rw [hwo]; exact HCP.out.drew nq
            have HGo : Hid (w.grownBy wo (some c)) := by rw [hwo]; exact HG.out.trans (grown_drewN _ _ _)
            have HUo : Hid (Utf8T wo) := utf8_grown HU.out HGo.out (fun e => H1.out (Option.some.inj e)) (fun e => H2.out (Option.some.inj e))
            rw [← hwo]
            clear hwo c0 c2 f2
            have c0 := HCo.out.text
            have c2 := HCo.out.pos
            have f2 := HCo.out.free 2
            go_quiet ((go_at_call 19; exact Calls.quiet_of_same (HIB.out _)))
            go_upto_region 8 with (go_at_call 20; refine (has_any s slash2 c p _ hp (HCo.out.drew _).text (HCo.out.drew _).pos).mono ?_; rintro e1 w' ⟨he1, n2, rfl⟩; rw [HHp.out] at he1; subst he1)
            go_wp2_with (go_at_call 20; refine (has_any s slashS c p _ hp (HCo.out.drew _).text (HCo.out.drew _).pos).mono ?_; rintro e1 w' ⟨he1, n3, rfl⟩; rw [HHq.out] at he1; subst he1)
            go_upto_region 3 with (fail)
            obtain ⟨nn, hnn⟩ : ∃ nn, nn = nq + n2 + n3 := ⟨_, rfl⟩
            rw [← hnn]
            obtain ⟨wy, hwy⟩ : ∃ wy, wy = wo.drewN nn := ⟨_, rfl⟩
            have HCy : Hid (Cur wy c s st' p m) := by rw [hwy]; exact HCo.out.drew nn
            have HGy : Hid (w.grownBy wy (some c)) := by rw [hwy]; exact HGo.out.trans (grown_drewN _ _ _)
            rw [← hwy]
            clear hwy c0 c2 f2
            have c0 := HCy.out.text
            have c2 := HCy.out.pos
            have j1 : (a : Int) ≤ p := by omega
            have j2 : (p : Int) ≤ s.size := by omega
            have j3 : (0 : Int) ≤ a := by omega
            go_quiet ((go_at_call 24; exact Calls.quiet_of_same (Tryz.strings_Contains_one _ 10 _)))
            go_wp2_with fail
            go_ret
            refine ⟨.inl ⟨p, HF.out.symm, ret_bool ?_, st', HCy.out.drew _⟩, HGy.out.trans (grown_drewN _ _ _)⟩
            unfold feedB
            rw [decide_eq_false (show ¬ p = s.size by omega), Bool.false_or]
          · rw [hh, if_pos rfl] at hF
            have HHq : Hid (Lib.hasPrefix (s.extract p s.size).data.toList slashS.data.toList = true) := hh
            clear hh
            by_cases hm : commentEndZ s p = -1
            · rw [if_pos hm] at hF
              have HF := Lib.hid hF
              have HL := Lib.hid hm
              clear hF hm
              go_wp2_with fail
              go_quiet (fail)
              go_upto_region 4 with (fail)
              obtain ⟨wo, hwo⟩ : ∃ wo, wo = wr.drewN nq := ⟨_, rfl⟩
              have HCo : Hid (Cur wo c s st' p m) := by rw [hwo]; exact HCP.out.drew nq
              have HGo : Hid (w.grownBy wo (some c)) := by rw [hwo]; exact HG.out.trans (grown_drewN _ _ _)
              have HUo : Hid (Utf8T wo) := utf8_grown HU.out HGo.out (fun e => H1.out (Option.some.inj e)) (fun e => H2.out (Option.some.inj e))
              rw [← hwo]
              clear hwo c0 c2 f2
              have c0 := HCo.out.text
              have c2 := HCo.out.pos
              have f2 := HCo.out.free 2
              go_quiet ((go_at_call 19; exact Calls.quiet_of_same (HIB.out _)))
              go_upto_region 8 with (go_at_call 20; refine (has_any s slash2 c p _ hp (HCo.out.drew _).text (HCo.out.drew _).pos).mono ?_; rintro e1 w' ⟨he1, n2, rfl⟩; rw [HHp.out] at he1; subst he1)
              go_wp2_with (first | (go_at_call 20; refine (has_any s slashS c p _ hp (HCo.out.drew _).text (HCo.out.drew _).pos).mono ?_; rintro e1 w' ⟨he1, n3, rfl⟩; rw [HHq.out] at he1; subst he1) | (go_at_call 23; refine (commentEnd_any _ c s st' p m (HCo.out.drew _) hs hp).mono ?_; rintro e1 w' ⟨he1, rfl⟩; rw [HL.out] at he1; subst he1) | (go_at_call 21; refine (comment_none _ c s st' p m (HCo.out.drew _) hs).mono ?_; rintro e1 w' ⟨rfl, hgw⟩))
              exact ⟨rfl, .inr ⟨p, HF.out.symm, rfl⟩, (HGo.out.trans (grown_drewN _ _ _)).trans hgw⟩
            · rw [if_neg hm] at hF
              obtain ⟨e, he⟩ : ∃ e, e = (commentEndZ s p).toNat := ⟨_, rfl⟩
              rw [← he] at hF
              have hce := ceF_range s (s.size + 1) p 0
              have hL : commentEndZ s p = (e : Int) := by
                rw [he]
                unfold commentEndZ at hm ⊢
                rcases hce with h | h
                · exact absurd h hm
                · omega
              have hpe : p ≤ e := by
                unfold commentEndZ at hL
                omega
              have hlt : p < e := by
                unfold commentEndZ at hL
                omega
              have hes : e ≤ s.size := by
                unfold commentEndZ at hL
                omega
              have HL := Lib.hid hL
              clear hL he hm hce
              cases hv : Lib.validD (s.extract p e).data.toList
              · rw [hv, if_neg (by decide)] at hF
                have HF := Lib.hid hF
                have HV := Lib.hid hv
                clear hF hv
                go_wp2_with fail
                go_quiet (fail)
                go_upto_region 4 with (fail)
                obtain ⟨wo, hwo⟩ : ∃ wo, wo = wr.drewN nq := ⟨_, rfl⟩
                have HCo : Hid (Cur wo c s st' p m) := by rw [hwo]; exact HCP.out.drew nq
                have HGo : Hid (w.grownBy wo (some c)) := by rw [hwo]; exact HG.out.trans (grown_drewN _ _ _)
                have HUo : Hid (Utf8T wo) := utf8_grown HU.out HGo.out (fun e => H1.out (Option.some.inj e)) (fun e => H2.out (Option.some.inj e))
                rw [← hwo]
                clear hwo c0 c2 f2
                have c0 := HCo.out.text
                have c2 := HCo.out.pos
                have f2 := HCo.out.free 2
                go_quiet ((go_at_call 19; exact Calls.quiet_of_same (HIB.out _)))
                go_upto_region 8 with (go_at_call 20; refine (has_any s slash2 c p _ hp (HCo.out.drew _).text (HCo.out.drew _).pos).mono ?_; rintro e1 w' ⟨he1, n2, rfl⟩; rw [HHp.out] at he1; subst he1)
                go_wp2_with (first | (go_at_call 20; refine (has_any s slashS c p _ hp (HCo.out.drew _).text (HCo.out.drew _).pos).mono ?_; rintro e1 w' ⟨he1, n3, rfl⟩; rw [HHq.out] at he1; subst he1) | (go_at_call 23; refine (commentEnd_any _ c s st' p m (HCo.out.drew _) hs hp).mono ?_; rintro e1 w' ⟨he1, rfl⟩; rw [HL.out] at he1; subst he1) | (go_at_call 21; refine (comment_bad _ c s st' p e m (HCo.out.drew _) hs HUo.out H1.out H2.out hpe hes HV.out).mono ?_; rintro e1 w' ⟨rfl, hgw⟩))
                exact ⟨rfl, .inr ⟨p, HF.out.symm, rfl⟩, (HGo.out.trans (grown_drewN _ _ _)).trans hgw⟩
              · rw [hv, if_pos rfl] at hF
                have HF := Lib.hid hF
                have HV := Lib.hid hv
                clear hF hv
                go_wp2_with fail
                go_quiet (fail)
                go_upto_region 4 with (fail)
                obtain ⟨wo, hwo⟩ : ∃ wo, wo = wr.drewN nq := ⟨_, rfl⟩
                have HCo : Hid (Cur wo c s st' p m) := by rw [hwo]; exact HCP.out.drew nq
                have HGo : Hid (w.grownBy wo (some c)) := by rw [hwo]; exact HG.out.trans (grown_drewN _ _ _)
                have HUo : Hid (Utf8T wo) := utf8_grown HU.out HGo.out (fun e => H1.out (Option.some.inj e)) (fun e => H2.out (Option.some.inj e))
                rw [← hwo]
                clear hwo c0 c2 f2
                have c0 := HCo.out.text
                have c2 := HCo.out.pos
                have f2 := HCo.out.free 2
                go_quiet ((go_at_call 19; exact Calls.quiet_of_same (HIB.out _)))
                go_upto_region 8 with (go_at_call 20; refine (has_any s slash2 c p _ hp (HCo.out.drew _).text (HCo.out.drew _).pos).mono ?_; rintro e1 w' ⟨he1, n2, rfl⟩; rw [HHp.out] at he1; subst he1)
                go_wp2_with (first | (go_at_call 20; refine (has_any s slashS c p _ hp (HCo.out.drew _).text (HCo.out.drew _).pos).mono ?_; rintro e1 w' ⟨he1, n3, rfl⟩; rw [HHq.out] at he1; subst he1) | (go_at_call 23; refine (commentEnd_any _ c s st' p m (HCo.out.drew _) hs hp).mono ?_; rintro e1 w' ⟨he1, rfl⟩; rw [HL.out] at he1; subst he1) | (go_at_call 21; refine (comment_ok _ c s st' p e m (HCo.out.drew _) hs HUo.out H1.out H2.out hpe hes HV.out).mono ?_; rintro e1 w' ⟨rfl, hcw, hgw⟩))
                refine ⟨⟨n, e, p, by omega, hes, by omega, hcw, HF, (HGo.out.trans (grown_drewN _ _ _)).trans hgw⟩, ?_⟩
                rw [hcw.posOf, HCP.out.posOf]
                omega
        · rw [hh, if_pos rfl] at hF
          have HHp : Hid (Lib.hasPrefix (s.extract p s.size).data.toList slash2.data.toList = true) := hh
          obtain ⟨hL, hes, hpe⟩ := lineN_spec s p hp
          have hlt := lineN_lt s p hps hh
          clear hh
          obtain ⟨e, he⟩ : ∃ e, e = lineN s p := ⟨_, rfl⟩
          rw [← he] at hF hL hes hpe hlt
          have HL := Lib.hid hL
          clear hL he
          cases hv : Lib.validD (s.extract p e).data.toList
          · rw [hv, if_neg (by decide)] at hF
            have HF := Lib.hid hF
            have HV := Lib.hid hv
            clear hF hv
            go_wp2_with fail
            go_quiet (fail)
            go_upto_region 4 with (fail)
            obtain ⟨wo, hwo⟩ : ∃ wo, wo = wr.drewN nq := ⟨_, rfl⟩
            have HCo : Hid (Cur wo c s st' p m) := by rw [hwo]; exact HCP.out.drew nq
            have HGo : Hid (w.grownBy wo (some c)) := by rw [hwo]; exact HG.out.trans (grown_drewN _ _ _)
            have HUo : Hid (Utf8T wo) := utf8_grown HU.out HGo.out (fun e => H1.out (Option.some.inj e)) (fun e => H2.out (Option.some.inj e))
            rw [← hwo]
            clear hwo c0 c2 f2
            have c0 := HCo.out.text
            have c2 := HCo.out.pos
            have f2 := HCo.out.free 2
            go_quiet ((go_at_call 19; exact Calls.quiet_of_same (HIB.out _)))
            go_wp2_with (first | (go_at_call 20; refine (has_any s slash2 c p _ hp (HCo.out.drew _).text (HCo.out.drew _).pos).mono ?_; rintro e1 w' ⟨he1, n2, rfl⟩; rw [HHp.out] at he1; subst he1) | (go_at_call 22; refine (lineEnd_any _ c s st' p m (HCo.out.drew _) hs hp).mono ?_; rintro e1 w' ⟨he1, n3, rfl⟩; rw [HL.out] at he1; subst he1) | (go_at_call 21; refine (comment_bad _ c s st' p e m (HCo.out.drew _) hs HUo.out H1.out H2.out hpe hes HV.out).mono ?_; rintro e1 w' ⟨rfl, hgw⟩))
            exact ⟨rfl, .inr ⟨p, HF.out.symm, rfl⟩, (HGo.out.trans (grown_drewN _ _ _)).trans hgw⟩
          · rw [hv, if_pos rfl] at hF
            have HF := Lib.hid hF
            have HV := Lib.hid hv
            clear hF hv
            go_wp2_with fail
            go_quiet (fail)
            go_upto_region 4 with (fail)
            obtain ⟨wo, hwo⟩ : ∃ wo, wo = wr.drewN nq := ⟨_, rfl⟩
            have HCo : Hid (Cur wo c s st' p m) := by rw [hwo]; exact HCP.out.drew nq
            have HGo : Hid (w.grownBy wo (some c)) := by rw [hwo]; exact HG.out.trans (grown_drewN _ _ _)
            have HUo : Hid (Utf8T wo) := utf8_grown HU.out HGo.out (fun e => H1.out (Option.some.inj e)) (fun e => H2.out (Option.some.inj e))
            rw [← hwo]
            clear hwo c0 c2 f2
            have c0 := HCo.out.text
            have c2 := HCo.out.pos
            have f2 := HCo.out.free 2
            go_quiet ((go_at_call 19; exact Calls.quiet_of_same (HIB.out _)))
            go_wp2_with (first | (go_at_call 20; refine (has_any s slash2 c p _ hp (HCo.out.drew _).text (HCo.out.drew _).pos).mono ?_; rintro e1 w' ⟨he1, n2, rfl⟩; rw [HHp.out] at he1; subst he1) | (go_at_call 22; refine (lineEnd_any _ c s st' p m (HCo.out.drew _) hs hp).mono ?_; rintro e1 w' ⟨he1, n3, rfl⟩; rw [HL.out] at he1; subst he1) | (go_at_call 21; refine (comment_ok _ c s st' p e m (HCo.out.drew _) hs HUo.out H1.out H2.out hpe hes HV.out).mono ?_; rintro e1 w' ⟨rfl, hcw, hgw⟩))
            refine ⟨⟨n, e, p, by omega, hes, by omega, hcw, HF, (HGo.out.trans (grown_drewN _ _ _)).trans hgw⟩, ?_⟩
            rw [hcw.posOf, HCP.out.posOf]
            omega
    · rw [if_neg hps] at hF
      obtain rfl : p = s.size := by omega
      have HF := Lib.hid hF
      clear hF
      have HE : Hid (feedB s a s.size = true) := by show _ = _; unfold feedB; simp
      have j0 : ¬ (s.size : Int) < s.size := by omega
      go_wp2_with fail
      go_quiet (fail)
      go_wp2_with fail
      go_ret
      exact ⟨.inl ⟨s.size, HF.out.symm, ret_bool HE.out.symm, st', HCP.out.drew _⟩, HG.out.trans (grown_drewN _ _ _)⟩

end Tk
end Go.Proofs.YtmphkifhnjfkmaaGreatDoor

namespace Go.Proofs.YtmphkifhnjfkmaaGreatDoor
open Go.ChangeShapes Go.WideShapes Go.ChangeAt Go.RowKit Go.WideMaps Go.Maps
namespace Tk

theorem skipF_range (s : ByteArray) : ∀ (n p b : Nat), p ≤ s.size → skipF s n p = .inl b → p ≤ b ∧ b ≤ s.size
  | 0, p, b, hp, h => by
    unfold skipF at h
    cases h
    exact ⟨Nat.le_refl _, hp⟩
  | n + 1, p, b, hp, h => by
    unfold skipF at h
    split at h
    · split at h
      · have := skipF_range s n (p + 1) b (by omega) h
        omega
      · split at h
        · split at h
          · obtain ⟨_, h2, h3⟩ := lineN_spec s p hp
            have := skipF_range s n (lineN s p) b h2 h
            omega
          · cases h
        · split at h
          · split at h
            · cases h
            · rename_i hm
              split at h
              · have hr := ceF_range s (s.size + 1) p 0
                unfold commentEndZ at hm h
                have h2 : (ceF s (s.size + 1) p 0).toNat ≤ s.size := by omega
                have := skipF_range s n _ b h2 h
                omega
              · cases h
          · cases h
            exact ⟨Nat.le_refl _, hp⟩
    · cases h
      exact ⟨Nat.le_refl _, hp⟩

theorem skip_in (w : World) (c : Nat) (s : ByteArray) (st p b m : Nat) (hc : Cur w c s st p m) (hs : s.size ≤ 20000) (hp : p ≤ s.size) (he : Env w c m) (h : skipM s p = .inl b) :
    Calls Tryz.prog 10 #[.pointer (some ⟨c, 0, none⟩)] w fun e w' => e = .returned (.bool (feedB s p b)) ∧ (∃ st', Cur w' c s st' b m) ∧ w.grownBy w' (some c) := by
  refine (skip_total w c s st p m hc hs hp he.u8 (by have := he.mc; have := he.m1; omega) (by have := he.mc; have := he.m2; omega)).mono ?_
  rintro e w' ⟨⟨b', hb, he, hcu⟩ | ⟨q, hq, _⟩, hg⟩
  · rw [h] at hb
    cases hb
    exact ⟨he, hcu, hg⟩
  · rw [h] at hq
    cases hq

theorem skip_bad (w : World) (c : Nat) (s : ByteArray) (st p q m : Nat) (hc : Cur w c s st p m) (hs : s.size ≤ 20000) (hp : p ≤ s.size) (he : Env w c m) (h : skipM s p = .inr q) :
    Calls Tryz.prog 10 #[.pointer (some ⟨c, 0, none⟩)] w fun e w' => e = .panicked (faultC q 32) ∧ w.grownBy w' (some c) := by
  refine (skip_total w c s st p m hc hs hp he.u8 (by have := he.mc; have := he.m1; omega) (by have := he.mc; have := he.m2; omega)).mono ?_
  rintro e w' ⟨⟨b', hb, _⟩ | ⟨q', hq, he⟩, hg⟩
  · rw [h] at hb
    cases hb
  · rw [h] at hq
    cases hq
    exact ⟨he, hg⟩

/-- At place p there is no token: the error. -/
def ReadBad (s : ByteArray) (p : Nat) (code : Int) : Prop :=
  ∀ (w : World) (c st m : Nat), Cur w c s st p m → Env w c m → Calls Tryz.prog 11 #[.pointer (some ⟨c, 0, none⟩)] w fun e w' =>
    ∃ (g : Nat) (lb : Array Value), e = .returned (.func (.func g) #[] lb) ∧ (∀ args w, (callFunc g args).run Tryz.prog w = .ok (.enter g args) w) ∧ w.grownBy w' (some c) ∧
      Calls Tryz.prog g lb w' fun e w2 => e = .panicked (faultC p code) ∧ w'.grownBy w2 (some c)

/-- The tokens from place p on, and the error that ends them, if one does. -/
inductive ToksU (s : ByteArray) : Nat → Bool → List Tok → Option (Nat × Int) → Prop
  | last (p : Nat) (f : Bool) (h : skipM s p = .inl s.size) : ToksU s p f [] none
  | badSkip (p : Nat) (f : Bool) (q : Nat) (h : skipM s p = .inr q) : ToksU s p f [] (some (q, 32))
  | badRead (p : Nat) (f : Bool) (b : Nat) (code : Int) (h : skipM s p = .inl b) (hb : b < s.size) (hr : ReadBad s b code) : ToksU s p f [] (some (b, code))
  | tok (p : Nat) (f : Bool) (b : Nat) (k : Int) (tx : ByteArray) (q : Nat) (ts : List Tok) (res : Option (Nat × Int)) (h : skipM s p = .inl b) (hb : b < s.size) (hr : ReadAt s b k tx q) (h1 : b < q) (h2 : q ≤ s.size) (hn : ToksU s q false ts res) : ToksU s p f (⟨k, tx, b, feedB s p b || f⟩ :: ts) res

set_option maxHeartbeats 4000000 in
set_option maxRecDepth 100000 in
theorem scan_total (w : World) (s : ByteArray) (ts : List Tok) (res : Option (Nat × Int)) (hs : s.size ≤ 20000) (hT : ToksU s 0 true ts res) (hspace : Lib.TabIs Tryz.prog w "strings.asciiSpace" .u8 Lib.asciiSpaceTab) (hsy : Syms w) (hpo : Pow10 w) (hu : Utf8T w) (hml : MaxL w) :
    Calls Tryz.prog 4 #[.string s] w fun e w' =>
      ((res = none ∧ ∃ v, e = .returned (.tuple #[v, .int .i64 0, .int .i64 0]) ∧ w'.ownsRow w.heap.size 31 4 v ts.length (cellsOf ts)) ∨
        (∃ (q : Nat) (code : Int), res = some (q, code) ∧ e = .returned (.tuple #[.slice none 0 0, .int .i64 q, .int .i64 code]))) ∧ Below w.heap.size w w' := by
  have hmf : ∀ (fn : Fn) (first cap : Array Value) (w : World), (Instr.makeFunc fn first cap).run Tryz.prog w = .ok (.func fn first cap) w := fun _ _ _ _ => rfl
  have hsi : (s.size : Int) ≤ 20000 := by omega
  obtain ⟨w3, hw3, hs3, hsp3, hstart⟩ := scan_start w s hspace hsy hpo hu hml
  have HW3 := Lib.hid hw3
  have HS3 := Lib.hid hs3
  have HT := Lib.hid hT
  have HSt := Lib.hid hstart
  clear hw3 hspace hsy hpo hu hml hT hs3 hstart
  go_enter_defers Tryz.func4, Tryz.ntmps4
  go_wp2_with (go_at_call 9; rw [← HW3.out]; refine (keywordSet_any w3 hsp3).mono ?_; rintro e w4 ⟨rfl, hown4, hb4⟩)
  have HS0 := Lib.hid (HSt.out w4 _ rfl hb4 hown4)
  have hz4 := hb4.size
  clear hown4 hb4 hsp3
  obtain ⟨c, hc⟩ : ∃ c, c = w4.heap.size := ⟨_, rfl⟩
  obtain ⟨m, hm⟩ : ∃ m, m = w3.heap.size := ⟨_, rfl⟩
  obtain ⟨w5, hw5⟩ : ∃ w5, w5 = w4.alloc (.cells #[.string s, .int .i64 0, .int .i64 0, .map (some w3.heap.size)] 40) := ⟨_, rfl⟩
  rw [← hw5, ← hc, ← hm] at HS0
  rw [← hw5, ← hc]
  clear hw5 hc hm
  go_loopw [] (fun wr => ∃ (p : Nat) (done ts' : List Tok), p ≤ s.size ∧ done.length ≤ p ∧ ScanI w w.heap.size c m s p done wr ∧ ToksU s p done.isEmpty ts' res ∧ done ++ ts' = ts) (fun wr => s.size - posOf wr c)
  case atStart => exact ⟨0, [], ts, Nat.zero_le _, Nat.le_refl _, HS0.out, HT.out, rfl⟩
  case round =>
    obtain ⟨p, done, ts', hp, hdp, hI, htk, hts⟩ := hrel
    clear HS0 HT
    obtain ⟨st, hcur⟩ := hI.cur
    obtain ⟨ao, cap, hv, hrow⟩ := hI.shape
    have HI := Lib.hid hI
    have HC := Lib.hid hcur
    have HTS := Lib.hid hts
    have hmc := hI.env.mc
    have hbm := hI.bm
    clear hI hcur hts
    cases htk with
    | last _ _ h =>
      have HV := Lib.hid hv
      have HRow := Lib.hid hrow
      have HK := Lib.hid h
      clear hv hrow h
      go_wp2_with fail
      refine (skip_in _ c s st p s.size m HC.out hs hp HI.out.env HK.out).mono ?_
      rintro e w1 ⟨he, ⟨st1, hc1⟩, hg1⟩
      rw [feedB_end] at he
      subst he
      have HI1 := Lib.hid (HI.out.kept hg1 ⟨st1, hc1⟩)
      have HV1 : Hid (Boxed w1 w.heap.size 22 (.slice ao done.length cap)) := HV.out.kept hg1 (by intro e; have := Option.some.inj e; omega)
      have HR1 : Hid (w1.ownsRow (c + 1) 31 4 (.slice ao done.length cap) done.length (cellsOf done)) := row_kept HRow.out hg1 (by omega)
      have c2 := hc1.pos
      have x0 := HV1.out.cell
      have f0 := HV1.out.frozen
      have x1 := HI1.out.place.cell
      have f1 := HI1.out.place.frozen
      have x2 := HI1.out.code.cell
      have f2 := HI1.out.code.frozen
      clear hc1 hg1
      go_wp2_with fail
      obtain ⟨wa, hwa⟩ : ∃ wa, wa = w1.setCell ⟨w.heap.size, 0, none⟩ (.slice ao done.length cap) := ⟨_, rfl⟩
      obtain ⟨wb, hwb⟩ : ∃ wb, wb = wa.setCell ⟨w.heap.size + 1, 0, none⟩ (.int .i64 0) := ⟨_, rfl⟩
      obtain ⟨wf, hwf⟩ : ∃ wf, wf = wb.setCell ⟨w.heap.size + 1 + 1, 0, none⟩ (.int .i64 0) := ⟨_, rfl⟩
      rw [← hwa, ← hwb, ← hwf]
      have g1 : w1.grownBy wa (some w.heap.size) := by rw [hwa]; exact grown_set w1 ⟨w.heap.size, 0, none⟩ _
      have g2 : wa.grownBy wb (some (w.heap.size + 1)) := by rw [hwb]; exact grown_set wa ⟨w.heap.size + 1, 0, none⟩ _
      have g3 : wb.grownBy wf (some (w.heap.size + 1 + 1)) := by rw [hwf]; exact grown_set wb ⟨w.heap.size + 1 + 1, 0, none⟩ _
      have q0 : Boxed wa w.heap.size 22 (.slice ao done.length cap) := by rw [hwa]; exact HV1.out.set _
      have q1 : Boxed wb (w.heap.size + 1) 3 (.int .i64 0) := by rw [hwb]; exact (HI1.out.place.kept g1 (by simp)).set _
      have q2 : Boxed wf (w.heap.size + 1 + 1) 23 (.int .i64 0) := by rw [hwf]; exact ((HI1.out.code.kept g1 (by simp; omega)).kept g2 (by simp)).set _
      have y0 := ((q0.kept g2 (by simp)).kept g3 (by simp; omega)).cell
      have y1 := (q1.kept g3 (by simp)).cell
      have y2 := q2.cell
      have hbl : Below w.heap.size w wf := by
        rw [hwf, hwb, hwa]
        exact ((HI1.out.below.setCell (p := ⟨w.heap.size, 0, none⟩) (Nat.le_refl _) _).setCell (p := ⟨w.heap.size + 1, 0, none⟩) (by simp) _).setCell (p := ⟨w.heap.size + 1 + 1, 0, none⟩) (by simp; omega) _
      have hrf := ownsRow_base (row_kept (row_kept (row_kept HR1.out g1 (by omega)) g2 (by omega)) g3 (by omega)) (show w.heap.size ≤ c + 1 by omega)
      have hdone : done = ts := by have := HTS.out; rwa [List.append_nil] at this
      refine leaves_cons (f := 8) (args := #[.pointer (some ⟨w.heap.size, 0, none⟩), .pointer (some ⟨w.heap.size + 1, 0, none⟩), .pointer (some ⟨w.heap.size + 1 + 1, 0, none⟩)]) (by simp) (by simp [go_sem]) ?_
      refine (caught_idle ⟨w.heap.size, 0, none⟩ ⟨w.heap.size + 1, 0, none⟩ ⟨w.heap.size + 1 + 1, 0, none⟩ _).mono ?_
      rintro e u' w'' ⟨rfl, rfl, rfl⟩
      refine ⟨.tuple #[.slice ao done.length cap, .int .i64 0, .int .i64 0], by simp [results, Tryz.results4, go_sem, y0, y1, y2], ⟨_, rfl, ?_⟩, hbl⟩
      rw [← hdone]
      exact hrf
    | badSkip _ _ q h =>
      have HV := Lib.hid hv
      have HK := Lib.hid h
      clear hv hrow h
      go_wp2_with fail
      refine (skip_bad _ c s st p q m HC.out hs hp HI.out.env HK.out).mono ?_
      rintro e w2 ⟨rfl, hg2⟩
      go_wp2_with fail
      have HV2 : Boxed w2 w.heap.size 22 (.slice ao done.length cap) := HV.out.kept hg2 (by intro e; have := Option.some.inj e; omega)
      have HP2 : Boxed w2 (w.heap.size + 1) 3 (.int .i64 0) := HI.out.place.kept hg2 (by intro e; have := Option.some.inj e; omega)
      have HE2 : Boxed w2 (w.heap.size + 1 + 1) 23 (.int .i64 0) := HI.out.code.kept hg2 (by intro e; have := Option.some.inj e; omega)
      have hbl2 : Below w.heap.size w w2 := HI.out.below.grown hg2 (by have := (Array.getElem?_eq_some_iff.1 HV.out).1; omega) (fun k e => by cases e; omega)
      have hz := hbl2.size
      refine leaves_cons (f := 8) (args := #[.pointer (some ⟨w.heap.size, 0, none⟩), .pointer (some ⟨w.heap.size + 1, 0, none⟩), .pointer (some ⟨w.heap.size + 1 + 1, 0, none⟩)]) (by simp) (by simp [go_sem]) ?_
      refine (caught_fault w.heap.size (w.heap.size + 1) (w.heap.size + 1 + 1) q 32 _ _ _ _ HV2 HP2 HE2 (by omega) (by omega) (by omega)).mono ?_
      rintro e u' w'' ⟨rfl, rfl, ra, rb, rc, rz⟩
      have hbl3 := hbl2.trans (rz w.heap.size (Nat.le_refl _) (by omega) (by omega) hz)
      refine ⟨.tuple #[.slice none 0 0, .int .i64 q, .int .i64 32], by simp [results, Tryz.results4, go_sem, ra, rb, rc], .inr ⟨_, _, rfl, rfl⟩, hbl3⟩
    | badRead _ _ b code h hb hr =>
      have HV0 := Lib.hid hv
      have HI0 := HI
      have HK := Lib.hid h
      have hpb := (skipF_range s _ p b hp h).1
      have HR := Lib.hid hr
      clear hv hrow h hr
      have hfl : ((done.length : Int) == 0) = done.isEmpty := by cases done <;> simp; omega
      obtain ⟨fb, hfb⟩ : ∃ fb, fb = feedB s p b := ⟨_, rfl⟩
      have i1 : ((b : Int) == s.size) = false := by simp; omega
      go_wp2_with fail
      refine (skip_in _ c s st p b m HC.out hs hp HI.out.env HK.out).mono ?_
      rintro e w1 ⟨he, ⟨st1, hc1⟩, hg1⟩
      rw [← hfb] at he
      subst he
      clear hfb
      have HI1 := Lib.hid (HI.out.kept hg1 ⟨st1, hc1⟩)
      have HV1 : Hid (Boxed w1 w.heap.size 22 (.slice ao done.length cap)) := HV0.out.kept hg1 (by intro e; have := Option.some.inj e; omega)
      have HC1 := Lib.hid hc1
      have c2 := hc1.pos
      have x0 := HV1.out.cell
      clear hc1 hg1
      clear HI HI0 HV0
      have HI := HI1
      have HV := HV1
      cases fb
      all_goals
        go_wp2_with (go_at_call 11; refine (HR.out _ c st1 m HC1.out HI1.out.env).mono ?_; rintro e w2 ⟨g, lb, rfl, eg, hg2a, hcl⟩)
        refine hcl.mono ?_
        rintro e w2' ⟨rfl, hg2b⟩
        have hg2 := hg2a.trans hg2b
        generalize w2' = w2z at *
        go_wp2_with fail
        have HV2 : Boxed w2z w.heap.size 22 (.slice ao done.length cap) := HV.out.kept hg2 (by intro e; have := Option.some.inj e; omega)
        have HP2 : Boxed w2z (w.heap.size + 1) 3 (.int .i64 0) := HI.out.place.kept hg2 (by intro e; have := Option.some.inj e; omega)
        have HE2 : Boxed w2z (w.heap.size + 1 + 1) 23 (.int .i64 0) := HI.out.code.kept hg2 (by intro e; have := Option.some.inj e; omega)
        have hbl2 : Below w.heap.size w w2z := HI.out.below.grown hg2 (by have := (Array.getElem?_eq_some_iff.1 HV.out).1; omega) (fun k e => by cases e; omega)
        have hz := hbl2.size
        refine leaves_cons (f := 8) (args := #[.pointer (some ⟨w.heap.size, 0, none⟩), .pointer (some ⟨w.heap.size + 1, 0, none⟩), .pointer (some ⟨w.heap.size + 1 + 1, 0, none⟩)]) (by simp) (by simp [go_sem]) ?_
        refine (caught_fault w.heap.size (w.heap.size + 1) (w.heap.size + 1 + 1) b code _ _ _ _ HV2 HP2 HE2 (by omega) (by omega) (by omega)).mono ?_
        rintro e u' w'' ⟨rfl, rfl, ra, rb, rc, rz⟩
        have hbl3 := hbl2.trans (rz w.heap.size (Nat.le_refl _) (by omega) (by omega) hz)
        refine ⟨.tuple #[.slice none 0 0, .int .i64 b, .int .i64 code], by simp [results, Tryz.results4, go_sem, ra, rb, rc], .inr ⟨_, _, rfl, rfl⟩, hbl3⟩
    | tok _ _ b k tx q ts'' _ h hb hr h1 h2 hn =>
      have HV := Lib.hid hv
      have HRow := Lib.hid hrow
      have HK := Lib.hid h
      have hpb := (skipF_range s _ p b hp h).1
      have HR := Lib.hid hr
      have HN := Lib.hid hn
      clear hv hrow h hr hn
      have hfl : ((done.length : Int) == 0) = done.isEmpty := by cases done <;> simp; omega
      obtain ⟨fb, hfb⟩ : ∃ fb, fb = feedB s p b := ⟨_, rfl⟩
      have HFB := Lib.hid hfb
      have i1 : ((b : Int) == s.size) = false := by simp; omega
      go_wp2_with fail
      refine (skip_in _ c s st p b m HC.out hs hp HI.out.env HK.out).mono ?_
      rintro e w1 ⟨he, ⟨st1, hc1⟩, hg1⟩
      rw [← hfb] at he
      subst he
      clear hfb
      have HI1 := Lib.hid (HI.out.kept hg1 ⟨st1, hc1⟩)
      have HV1 : Hid (Boxed w1 w.heap.size 22 (.slice ao done.length cap)) := HV.out.kept hg1 (by intro e; have := Option.some.inj e; omega)
      have HR1 : Hid (w1.ownsRow (c + 1) 31 4 (.slice ao done.length cap) done.length (cellsOf done)) := row_kept HRow.out hg1 (by omega)
      have HC1 := Lib.hid hc1
      have c2 := hc1.pos
      have x0 := HV1.out.cell
      clear hc1 hg1
      obtain ⟨ln, hln⟩ : ∃ ln : Bool, ln = (fb || done.isEmpty) := ⟨_, rfl⟩
      have HLN := Lib.hid hln
      obtain ⟨i0, hi, hz0, hz1, hz2⟩ := info_parts infoTok
      cases fb
      case true =>
        simp only [Bool.true_or] at hln
        subst hln
        go_wp2_with (go_at_call 11; refine (HR.out _ c st1 m HC1.out HI1.out.env).mono ?_; rintro e w2 ⟨g, lb, rfl, eg, hg2, hcl⟩)
        refine hcl.mono ?_
        rintro e w3' ⟨rfl, hC3, hg3⟩
        have hg23 := hg2.trans hg3
        have HI3 := Lib.hid (HI1.out.kept hg23 ⟨b, hC3⟩)
        have HV3 : Hid (Boxed w3' w.heap.size 22 (.slice ao done.length cap)) := HV1.out.kept hg23 (by intro e; have := Option.some.inj e; omega)
        have HR3 : Hid (w3'.ownsRow (c + 1) 31 4 (.slice ao done.length cap) done.length (cellsOf done)) := row_kept HR1.out hg23 (by omega)
        have HC3 := Lib.hid hC3
        have hlt3 := hC3.lt
        clear hcl eg hC3 hg2 hg3 hg23 c2 x0 hfl
        have x1 : ∀ o1, (w3'.alloc o1).cell? ⟨w.heap.size, 0, none⟩ = some (.slice ao done.length cap) := fun o1 => (HV3.out.alloc o1).cell
        have x2 : ∀ o1 o2, ((w3'.alloc o1).alloc o2).cell? ⟨w.heap.size, 0, none⟩ = some (.slice ao done.length cap) := fun o1 o2 => ((HV3.out.alloc o1).alloc o2).cell
        have ht : tokV k tx = .agg #[.int .i64 k, .string tx, .int .i64 0, .bool false] := rfl
        rw [ht]
        go_wp2_with (at_builtin; refine wpList_append_own _ rfl _ _ 22 rfl (c + 1) 31 i0 zeroTok 4 40 Tryz.underlying22 hi hz0 hz1 hz2 rfl (by decide) _ _ _ rfl ((HR3.out.alloc _).alloc _) ⟨w3'.heap.size + 1, 0, none⟩ 1 1 [.int .i64 k, .string tx, .int .i64 b, .bool true] rfl rfl (new_cells w3' _ _ _) (by intro u hu; simp at hu; rcases hu with rfl | rfl | rfl | rfl <;> rfl) (by unfold maxLen; omega) (by omega) (by simp; omega) ?_)
        intro v' w5 hown' hgrow _
        obtain ⟨g', cap', rfl⟩ := ownsRow_succ hown'
        have hU := (HI3.out.alloc (.cells #[.int .i64 k, .string tx, .int .i64 b, .bool true] 31)).alloc (.cells #[.int .i64 k, .string tx, .int .i64 b, .bool true] 31)
        have hP := hU.put (t := ⟨k, tx, b, true⟩) ((HV3.out.alloc _).alloc _) ((HR3.out.alloc _).alloc _) hgrow hown'
        have hv5 : Boxed w5 w.heap.size 22 (.slice ao done.length cap) := ((HV3.out.alloc _).alloc _).kept hgrow (by intro e; have := (HR3.out.lt _ e.symm).1; omega)
        have HP := Lib.hid hP
        have x5 := hv5.cell
        have f5 := hv5.frozen
        clear hown' hgrow hU hP hv5 x1 x2
        go_wp2_with fail
        obtain ⟨st5, hc5⟩ := HP.out.cur
        refine ⟨⟨q, done ++ [⟨k, tx, b, true⟩], ts'', h2, ?_, HP.out, ?_, ?_⟩, ?_⟩
        · rw [List.length_append]
          simp
          omega
        · rw [show (done ++ [(⟨k, tx, b, true⟩ : Tok)]).isEmpty = false by cases done <;> rfl]
          exact HN.out
        · rw [List.append_assoc]
          have := HTS.out
          rw [← HFB.out] at this
          exact this
        · rw [hc5.posOf, HC.out.posOf]
          omega
      case false =>
        simp only [Bool.false_or] at hln
        rw [← hln] at hfl
        clear hln
        go_wp2_with (go_at_call 11; refine (HR.out _ c st1 m HC1.out HI1.out.env).mono ?_; rintro e w2 ⟨g, lb, rfl, eg, hg2, hcl⟩)
        refine hcl.mono ?_
        rintro e w3' ⟨rfl, hC3, hg3⟩
        have hg23 := hg2.trans hg3
        have HI3 := Lib.hid (HI1.out.kept hg23 ⟨b, hC3⟩)
        have HV3 : Hid (Boxed w3' w.heap.size 22 (.slice ao done.length cap)) := HV1.out.kept hg23 (by intro e; have := Option.some.inj e; omega)
        have HR3 : Hid (w3'.ownsRow (c + 1) 31 4 (.slice ao done.length cap) done.length (cellsOf done)) := row_kept HR1.out hg23 (by omega)
        have HC3 := Lib.hid hC3
        have hlt3 := hC3.lt
        clear hcl eg hC3 hg2 hg3 hg23 c2 x0 hfl
        have x1 : ∀ o1, (w3'.alloc o1).cell? ⟨w.heap.size, 0, none⟩ = some (.slice ao done.length cap) := fun o1 => (HV3.out.alloc o1).cell
        have x2 : ∀ o1 o2, ((w3'.alloc o1).alloc o2).cell? ⟨w.heap.size, 0, none⟩ = some (.slice ao done.length cap) := fun o1 o2 => ((HV3.out.alloc o1).alloc o2).cell
        have ht : tokV k tx = .agg #[.int .i64 k, .string tx, .int .i64 0, .bool false] := rfl
        rw [ht]
        go_wp2_with (at_builtin; refine wpList_append_own _ rfl _ _ 22 rfl (c + 1) 31 i0 zeroTok 4 40 Tryz.underlying22 hi hz0 hz1 hz2 rfl (by decide) _ _ _ rfl ((HR3.out.alloc _).alloc _) ⟨w3'.heap.size + 1, 0, none⟩ 1 1 [.int .i64 k, .string tx, .int .i64 b, .bool ln] rfl rfl (new_cells w3' _ _ _) (by intro u hu; simp at hu; rcases hu with rfl | rfl | rfl | rfl <;> rfl) (by unfold maxLen; omega) (by omega) (by simp; omega) ?_)
        intro v' w5 hown' hgrow _
        obtain ⟨g', cap', rfl⟩ := ownsRow_succ hown'
        have hU := (HI3.out.alloc (.cells #[.int .i64 k, .string tx, .int .i64 b, .bool ln] 31)).alloc (.cells #[.int .i64 k, .string tx, .int .i64 b, .bool ln] 31)
        have hP := hU.put (t := ⟨k, tx, b, ln⟩) ((HV3.out.alloc _).alloc _) ((HR3.out.alloc _).alloc _) hgrow hown'
        have hv5 : Boxed w5 w.heap.size 22 (.slice ao done.length cap) := ((HV3.out.alloc _).alloc _).kept hgrow (by intro e; have := (HR3.out.lt _ e.symm).1; omega)
        have HP := Lib.hid hP
        have x5 := hv5.cell
        have f5 := hv5.frozen
        clear hown' hgrow hU hP hv5 x1 x2
        go_wp2_with fail
        obtain ⟨st5, hc5⟩ := HP.out.cur
        refine ⟨⟨q, done ++ [⟨k, tx, b, ln⟩], ts'', h2, ?_, HP.out, ?_, ?_⟩, ?_⟩
        · rw [List.length_append]
          simp
          omega
        · rw [show (done ++ [(⟨k, tx, b, ln⟩ : Tok)]).isEmpty = false by cases done <;> rfl]
          exact HN.out
        · rw [List.append_assoc]
          have := HTS.out
          rw [← HFB.out] at this
          rw [← HLN.out] at this
          exact this
        · rw [hc5.posOf, HC.out.posOf]
          omega

end Tk
end Go.Proofs.YtmphkifhnjfkmaaGreatDoor

namespace Go.Proofs.YtmphkifhnjfkmaaGreatDoor
open Go.ChangeShapes Go.WideShapes Go.ChangeAt Go.RowKit Go.WideMaps Go.Maps
namespace Tk

theorem runF_range (p : Int → Bool) (p0 : p 0 = false) (s : ByteArray) : ∀ (n a : Nat), a ≤ s.size → a ≤ runF p s n a ∧ runF p s n a ≤ s.size
  | 0, a, h => ⟨Nat.le_refl _, h⟩
  | n + 1, a, h => by
    unfold runF
    split
    · rename_i hp
      have := part_in p0 hp
      have := runF_range p p0 s n (a + 1) (by omega)
      omega
    · exact ⟨Nat.le_refl _, h⟩

theorem wordEnd_range (s : ByteArray) (p : Nat) (hp : p < s.size) (h : partB (byteAt s p) = true) : p < wordEnd s p ∧ wordEnd s p ≤ s.size := by
  have h1 : runEnd partB s p = runEnd partB s (p + 1) := runEnd_on part0 h
  have h2 := runF_range partB part0 s (s.size - (p + 1)) (p + 1) (by omega)
  have h3 : p + 1 ≤ runEnd partB s p ∧ runEnd partB s p ≤ s.size := by rw [h1]; exact h2
  have h4 := runF_range quoteB quote0 s (s.size - runEnd partB s p) (runEnd partB s p) h3.2
  have h5 : runEnd partB s p ≤ wordEnd s p ∧ wordEnd s p ≤ s.size := h4
  omega

theorem env_ne {w : World} {c m : Nat} (h : Env w c m) : 3 ≠ c ∧ 4 ≠ c ∧ 5 ≠ c ∧ c ≠ 8 ∧ c ≠ 1 ∧ c ≠ m := by
  have := h.mc; have := h.m0; have := h.m8; have := h.m1; have := h.m2; have := h.m5
  omega

theorem read_under (s : ByteArray) (p : Nat) (hs : s.size ≤ 20000) (hp : p < s.size) (hl : letB (byteAt s p) = false) (h95 : byteAt s p = 95) : ReadAt s p (wordKind (s.extract p (wordEnd s p)).data.toList) (s.extract p (wordEnd s p)) (wordEnd s p) := by
  intro w c st m hc he
  refine (reader_under w c s st p m hc hs hp hl h95).mono ?_
  rintro e w' ⟨rfl, hb, hC, hg⟩
  have he' := he.up hg (fun r e => by cases e; exact he.mc)
  refine ⟨_, _, rfl, enters_of Tryz.func26 (by kernel_rfl) rfl, hg, closure1 w' _ c s p p m (wordEnd s p) _ _ hb hC ?_⟩
  intro w1 g1 c1
  refine (word_any w1 c s p p m c1 hs (by omega) (Nat.le_refl _) (he'.up g1 (fun r e => by cases e)).kw (by have := he.mc; omega)).mono ?_
  rintro e w2 ⟨rfl, h1, h2⟩
  exact ⟨rfl, h1, h2⟩

theorem chrM_range {s : ByteArray} {a q : Nat} {r : Int} (ha : a < s.size) (h : chrM s a = some (r, q)) : a < q ∧ q ≤ s.size ∧ 0 ≤ r ∧ r ≤ 1114111 := by
  unfold chrM at h
  split at h
  · cases h
  · split at h
    · cases h
    · rename_i r' q' hch
      obtain ⟨g1, g2, g3, g4⟩ := charM_range (by omega) hch
      split at h
      · rename_i h39
        cases h
        have := byteAt_lt h39 (by decide)
        omega
      · cases h

theorem read_char_ok (s : ByteArray) (p q : Nat) (r : Int) (hs : s.size ≤ 20000) (hp : p < s.size) (hl : letB (byteAt s p) = false) (hd : digB (byteAt s p) = false) (h95 : byteAt s p ≠ 95) (h39 : byteAt s p = 39) (hm : chrM s p = some (r, q)) (hq : partB (byteAt s q) = false) : ReadAt s p 3 ⟨(Lib.itoa r).toArray⟩ q := by
  intro w c st m hc he
  have hrg := chrM_range hp hm
  refine (reader_char w c s st p m hc hs hp hl hd h95 h39).mono ?_
  rintro e w' ⟨bf, bc, rfl, q1, q2, q3, q4, hC, hg⟩
  have he' := he.up hg (fun r e => by cases e; exact he.mc)
  have hlt := hc.lt
  refine ⟨_, _, rfl, enters_of Tryz.func56 (by kernel_rfl) rfl, hg, closedChar w' bf bc _ c s p p m q _ hs hrg.2.1 q1 q2 q4 (by omega) hC hq ?_⟩
  intro w1 g1 c1
  have hE := he'.up g1 (fun r e => by cases e)
  obtain ⟨n1, n2, n3, n4, _, _⟩ := env_ne hE
  refine (character_total w1 c s p p m c1 hs hp hE.u8 n1 n2 hE.pow n4).mono ?_
  rintro e w2 ⟨⟨r', q', hr, rfl, hcu⟩ | ⟨hr, _⟩, hg2⟩
  · rw [hm] at hr
    cases hr
    exact ⟨rfl, hcu, hg2⟩
  · rw [hm] at hr
    cases hr

theorem read_char_part (s : ByteArray) (p q : Nat) (r : Int) (hs : s.size ≤ 20000) (hp : p < s.size) (hl : letB (byteAt s p) = false) (hd : digB (byteAt s p) = false) (h95 : byteAt s p ≠ 95) (h39 : byteAt s p = 39) (hm : chrM s p = some (r, q)) (hq : partB (byteAt s q) = true) : ReadBad s p 33 := by
  intro w c st m hc he
  have hrg := chrM_range hp hm
  refine (reader_char w c s st p m hc hs hp hl hd h95 h39).mono ?_
  rintro e w' ⟨bf, bc, rfl, q1, q2, q3, q4, hC, hg⟩
  have he' := he.up hg (fun r e => by cases e; exact he.mc)
  have hlt := hc.lt
  refine ⟨_, _, rfl, enters_of Tryz.func56 (by kernel_rfl) rfl, hg, closedChar_part w' bf bc _ c s p p m q ⟨(Lib.itoa r).toArray⟩ hs hrg.2.1 q1 q2 q4 (by omega) hC hq ?_⟩
  intro w1 g1 c1
  have hE := he'.up g1 (fun r e => by cases e)
  obtain ⟨n1, n2, n3, n4, _, _⟩ := env_ne hE
  refine (character_total w1 c s p p m c1 hs hp hE.u8 n1 n2 hE.pow n4).mono ?_
  rintro e w2 ⟨⟨r', q', hr, rfl, hcu⟩ | ⟨hr, _⟩, hg2⟩
  · rw [hm] at hr
    cases hr
    exact ⟨rfl, hcu, hg2⟩
  · rw [hm] at hr
    cases hr

theorem read_char_bad (s : ByteArray) (p : Nat) (hs : s.size ≤ 20000) (hp : p < s.size) (hl : letB (byteAt s p) = false) (hd : digB (byteAt s p) = false) (h95 : byteAt s p ≠ 95) (h39 : byteAt s p = 39) (hm : chrM s p = none) : ReadBad s p 31 := by
  intro w c st m hc he
  refine (reader_char w c s st p m hc hs hp hl hd h95 h39).mono ?_
  rintro e w' ⟨bf, bc, rfl, q1, q2, q3, q4, hC, hg⟩
  have he' := he.up hg (fun r e => by cases e; exact he.mc)
  refine ⟨_, _, rfl, enters_of Tryz.func56 (by kernel_rfl) rfl, hg, closedChar_bad w' bf bc _ c s p p m _ q1 q4 hC ?_⟩
  intro w1 g1 c1
  have hE := he'.up g1 (fun r e => by cases e)
  obtain ⟨n1, n2, n3, n4, _, _⟩ := env_ne hE
  refine (character_total w1 c s p p m c1 hs hp hE.u8 n1 n2 hE.pow n4).mono ?_
  rintro e w2 ⟨⟨r', q', hr, _⟩ | ⟨_, rfl⟩, hg2⟩
  · rw [hm] at hr
    cases hr
  · exact ⟨rfl, hg2⟩

theorem size_of_quote3 {s : ByteArray} {p : Nat} (h : Lib.hasPrefix (s.extract p s.size).data.toList quote3.data.toList = true) : p + 3 ≤ s.size := by
  have h1 := (List.isPrefixOf_iff_prefix.1 h).length_le
  rw [ext_len, Nat.min_self] at h1
  have h2 : quote3.data.toList.length = 3 := rfl
  omega

theorem blkM_range {s : ByteArray} {p q : Nat} (hp : p + 3 ≤ s.size) (h : blkM s p = some q) : p + 3 ≤ q ∧ q + 3 ≤ s.size := by
  have hr := findQ_range s (p + 3) hp
  unfold blkM at h
  split at h
  · cases h
  · split at h
    · cases h
      omega
    · cases h

theorem read_block_ok (s : ByteArray) (p q : Nat) (hs : s.size ≤ 20000) (hp : p < s.size) (hl : letB (byteAt s p) = false) (hd : digB (byteAt s p) = false) (h95 : byteAt s p ≠ 95) (h39 : byteAt s p ≠ 39) (h34 : byteAt s p = 34) (h3 : Lib.hasPrefix (s.extract p s.size).data.toList quote3.data.toList = true) (hm : blkM s p = some q) : ReadAt s p 5 (s.extract (p + 3) q) (q + 3) := by
  intro w c st m hc he
  have h33 := size_of_quote3 h3
  refine (reader_block w c s st p m hc hs hp hl hd h95 h39 h34 h3).mono ?_
  rintro e w' ⟨rfl, hb, hC, hg⟩
  have he' := he.up hg (fun r e => by cases e; exact he.mc)
  refine ⟨_, _, rfl, enters_of Tryz.func34 (by kernel_rfl) rfl, hg, closure4 w' _ c s p p m (q + 3) _ hb hC ?_⟩
  intro w1 g1 c1
  have hE := he'.up g1 (fun r e => by cases e)
  obtain ⟨n1, n2, n3, n4, _, _⟩ := env_ne hE
  obtain ⟨mm, hml⟩ := hE.ml
  refine (block_total w1 c s p p m mm c1 hs h33 hE.u8 n1 n2 hml n3).mono ?_
  rintro e w2 ⟨⟨q', hr, rfl, hcu⟩ | ⟨hr, _⟩, hg2⟩
  · rw [hm] at hr
    cases hr
    exact ⟨rfl, hcu, hg2⟩
  · rw [hm] at hr
    cases hr

theorem read_block_bad (s : ByteArray) (p : Nat) (hs : s.size ≤ 20000) (hp : p < s.size) (hl : letB (byteAt s p) = false) (hd : digB (byteAt s p) = false) (h95 : byteAt s p ≠ 95) (h39 : byteAt s p ≠ 39) (h34 : byteAt s p = 34) (h3 : Lib.hasPrefix (s.extract p s.size).data.toList quote3.data.toList = true) (hm : blkM s p = none) : ReadBad s p 31 := by
  intro w c st m hc he
  have h33 := size_of_quote3 h3
  refine (reader_block w c s st p m hc hs hp hl hd h95 h39 h34 h3).mono ?_
  rintro e w' ⟨rfl, hb, hC, hg⟩
  have he' := he.up hg (fun r e => by cases e; exact he.mc)
  refine ⟨_, _, rfl, enters_of Tryz.func34 (by kernel_rfl) rfl, hg, closure4_bad w' _ c s p p m _ hb hC ?_⟩
  intro w1 g1 c1
  have hE := he'.up g1 (fun r e => by cases e)
  obtain ⟨n1, n2, n3, n4, _, _⟩ := env_ne hE
  obtain ⟨mm, hml⟩ := hE.ml
  refine (block_total w1 c s p p m mm c1 hs h33 hE.u8 n1 n2 hml n3).mono ?_
  rintro e w2 ⟨⟨q', hr, _⟩ | ⟨_, rfl⟩, hg2⟩
  · rw [hm] at hr
    cases hr
  · exact ⟨rfl, hg2⟩

theorem read_line_bad (s : ByteArray) (p : Nat) (hs : s.size ≤ 20000) (hp : p < s.size) (h34 : byteAt s p = 34) (h3 : Lib.hasPrefix (s.extract p s.size).data.toList quote3.data.toList = false) (hm : litF s (s.size + 1) (p + 1) = none) : ReadBad s p 31 := by
  intro w c st m hc he
  refine (reader_line w c s st p m hc hs hp (by rw [h34]; decide) (by rw [h34]; decide) (by rw [h34]; decide) (by rw [h34]; decide) h34 h3).mono ?_
  rintro e w' ⟨rfl, hb, hC, hg⟩
  have he' := he.up hg (fun r e => by cases e; exact he.mc)
  refine ⟨_, _, rfl, enters_of Tryz.func36 (by kernel_rfl) rfl, hg, closure5_bad w' _ c s p p m _ hb hC ?_⟩
  intro w1 g1 c1
  have hE := he'.up g1 (fun r e => by cases e)
  obtain ⟨n1, n2, n3, n4, _, _⟩ := env_ne hE
  exact line_bad w1 c s p p m c1 hs hp (litF_bad hs (s.size + 1) (p + 1) (by omega) (by omega) hm) hE.u8 n1 n2

theorem read_symbol_bad (s : ByteArray) (p : Nat) (hs : s.size ≤ 20000) (hp : p < s.size) (hl : letB (byteAt s p) = false) (hd : digB (byteAt s p) = false) (h95 : byteAt s p ≠ 95) (h39 : byteAt s p ≠ 39) (h34 : byteAt s p ≠ 34) (h3 : Lib.hasPrefix (s.extract p s.size).data.toList quote3.data.toList = false) (hm : (bestN s p 43).size = 0) : ReadBad s p 30 := by
  intro w c st m hc he
  refine (reader_symbol w c s st p m hc hs hp hl hd h95 h39 h34 h3).mono ?_
  rintro e w' ⟨rfl, hb, hC, hg⟩
  have he' := he.up hg (fun r e => by cases e; exact he.mc)
  refine ⟨_, _, rfl, enters_of Tryz.func38 (by kernel_rfl) rfl, hg, closure6_bad w' _ c s p p m _ hb hC ?_⟩
  intro w1 g1 c1
  have hE := he'.up g1 (fun r e => by cases e)
  obtain ⟨n1, n2, n3, n4, n5, _⟩ := env_ne hE
  exact symbol_none w1 c s p p m c1 hs (by omega) hE.syms n5 hm

end Tk
end Go.Proofs.YtmphkifhnjfkmaaGreatDoor

namespace Go.Proofs.YtmphkifhnjfkmaaGreatDoor
open Go.RowKit
namespace Tk

/-- As 'IterSt', for an iterator that behind its N rounds returns or panics. -/
def IterSp (P : Program) (n gf : Nat) (lb : Array Value) (c N : Nat) (encs : Nat → Array Value) (C : Nat → World → Prop) (ok : Bool) (ch : List PanicEntry) (D : World → Prop) (w : World) : Prop :=
  ∀ (l : Nat) (J : Nat → World → Prop) (W : World), w.grownBy W none → (∀ k A B, J k A → A.grownBy B (some c) → J k B) →
    (∀ k W1, k < N → J k W1 → C k W1 → YieldAt Fence.wide (n - 1) P l (encs k) W1 fun e W' => e = .returned (.bool true) ∧ J (k + 1) W' ∧ C k W') →
    J 0 W → CallsIn Fence.wide n P gf (#[.func (.yield l) #[] #[]] ++ lb) W fun e W' => ((ok = true ∧ ∃ v, e = .returned v) ∨ (ok = false ∧ e = .panicked ch)) ∧ J N W' ∧ D W'

theorem wpIn_range_sp {P : Program} {n : Nat} {g : Operand} {ps : Array Tmp} {assign body : Code} {Q : Exit → Act → World → Prop} {a : Act} {w : World}
    {gf : Nat} {lb : Array Value} (hg : a.eval g = .func (.func gf) #[] lb) (eg : ∀ args w, (callFunc gf args).run P w = .ok (.enter gf args) w)
    {c N : Nat} (hcw : c < w.heap.size) {encs : Nat → Array Value} {C : Nat → World → Prop} {ok : Bool} {ch : List PanicEntry} {D : World → Prop} {n0 : Nat} (hit : IterSp P n0 gf lb c N encs C ok ch D w) (hps : ∀ k, (encs k).size = ps.size)
    (hC : ∀ k, StableNew (C k) w.heap.size) (hD : StableNew D w.heap.size)
    (I : Nat → World → Prop) (hI : ∀ k, Stable (I k) c w.heap.size) (h0 : I 0 w) (a₁ : Nat → Act)
    (hassign : ∀ (l k : Nat) (W : World) (K : Act → World → Prop), K (a₁ k) W →
      assign.wpIn (Fence.wide.inRound l) (n0 - 1) P (Exit.then K (fun _ _ _ => False)) { tmps := (ps.zip (encs k)).foldl (fun t (p, v) => t.setIfInBounds p v) a.tmps, defers := [] } W)
    (hbody : ∀ (l k : Nat) (W : World), k < N → I k W → C k W → body.wpIn (Fence.wide.inRound l) (n0 - 1) P (goesOn (I (k + 1)) (C k) W) (a₁ k) W)
    (hdone : ok = true → ∀ (B : Nat) (W : World), w.heap.size ≤ B → I N W → D W → W.heap[B]? = some (.deferred (some [])) → Q .normal { a with defers := { target := .collected B, args := #[] } :: a.defers } W)
    (hpan : ok = false → ∀ (B : Nat) (W : World), w.heap.size ≤ B → I N W → D W → W.heap[B]? = some (.deferred (some [])) → Q (.panic ch) { a with defers := { target := .collected B, args := #[] } :: a.defers } W) :
    (Code.rangeFunc g ps assign body).wpIn Fence.wide n P Q a w := by
  refine wpIn_rangeFunc ?_
  intro fn hfn
  obtain ⟨rec, hrec⟩ : ∃ rec : LoopState → Option Code → Loop, rec = fun st pe => { state := st, pending := pe, fn, tmps := a.tmps, params := ps, assign, body, defers := w.heap.size } := ⟨_, rfl⟩
  obtain ⟨W1, hW1⟩ : ∃ W1, (w.alloc (.deferred (some []))).alloc (.loop (rec .ready none)) = W1 := ⟨_, rfl⟩
  have hL1 : W1.heap[w.heap.size + 1]? = some (.loop (rec .ready none)) := by
    rw [← hW1]; have := World.alloc_heap_new (w.alloc (.deferred (some []))) (.loop (rec .ready none)); rwa [World.size_alloc] at this
  have hK1 : W1.heap[w.heap.size]? = some (.deferred (some [])) := by
    rw [← hW1]; exact (Below.heap_alloc _ _ _ (by simp)).trans (World.alloc_heap_new w _)
  have hg1 : w.grownBy W1 none := by
    rw [← hW1]; exact (World.grownBy_alloc w _ none).trans (World.grownBy_alloc _ _ none)
  have hI1 : I 0 W1 := hI 0 w W1 c h0 (grown_row hg1 c) (.inl rfl)
  refine ⟨w.heap.size + 1, [{ target := .collected w.heap.size, args := #[] }], W1, { target := .fn (.func gf) lb, args := #[.func (.yield (w.heap.size + 1)) #[] #[]] }, W1, gf,
    #[.func (.yield (w.heap.size + 1)) #[] #[]] ++ lb, W1, ?_, ?_, ?_, ?_, fun h => (by cases h), ?_⟩
  · rw [← hW1, hrec]; exact run_enterLoop_outer _ _ _ _ _
  · simp only [resolve, hg]
    simp [go_sem]
  · intro f' hf'; trivial
  · simp [invoke, go_sem, eg]
  · have hit' : CallsIn Fence.wide n0 P gf (#[.func (.yield (w.heap.size + 1)) #[] #[]] ++ lb) W1 (rangePost Fence.wide n P (w.heap.size + 1) Q { a with defers := [{ target := .collected w.heap.size, args := #[] }] ++ a.defers }) := by
      refine (hit (w.heap.size + 1)
        (fun k W => I k W ∧ W.heap[w.heap.size + 1]? = some (.loop (rec .ready none)) ∧ W.heap[w.heap.size]? = some (.deferred (some [])))
        W1 hg1 ?_ ?_ ⟨hI1, hL1, hK1⟩).mono ?_
      · rintro k A B ⟨h1, h2, h3⟩ hAB
        exact ⟨hI k A B c h1 hAB (.inl rfl), (hAB.block _ (Array.getElem?_eq_some_iff.1 h2).1 (by intro e; cases e; omega)).trans h2, (hAB.block _ (Array.getElem?_eq_some_iff.1 h3).1 (by intro e; cases e; omega)).trans h3⟩
      · rintro k W hk ⟨hi, hl, hd⟩ hc
        have hlt : w.heap.size + 1 < W.heap.size := (Array.getElem?_eq_some_iff.1 hl).1
        have hy := run_yield (P := P) (args := encs k) hl (by rw [hrec]; exact hps k)
        rw [hrec] at hy
        refine ⟨fn, _, assign, body, hy, roundIn_of_wpIn hfn (hassign _ k W _ ⟨_, run_beginRound hl (by rw [hrec]), ?_⟩)⟩
        have hl2 : (W.putObj (w.heap.size + 1) (.loop { rec .ready none with state := .busy })).heap[w.heap.size + 1]? = some (.loop { rec .ready none with state := .busy }) := World.putObj_heap_same hlt
        have hk2 : (W.putObj (w.heap.size + 1) (.loop { rec .ready none with state := .busy })).heap[w.heap.size]? = some (.deferred (some [])) := (World.putObj_heap_other (by omega)).trans hd
        refine wpIn_mono (hbody _ k _ hk (hI k _ _ _ hi (grownBy_putObj' _ _ _) (.inr (by omega))) (hC k _ _ _ hc (grownBy_putObj' _ _ _) (by omega))) ?_
        rintro e a3 W3 hp
        cases e with
        | normal =>
          obtain ⟨hk3, hi3, hc3⟩ := hp
          have hl3 := hk3.same _ _ hl2 rfl
          have hr := run_endRound (P := P) none hl3
          have hl4 : (W3.putObj (w.heap.size + 1) (.loop (rec .ready none))).heap[w.heap.size + 1]? = some (.loop (rec .ready none)) := World.putObj_heap_same (Array.getElem?_eq_some_iff.1 hl3).1
          have hk4 : (W3.putObj (w.heap.size + 1) (.loop (rec .ready none))).heap[w.heap.size]? = some (.deferred (some [])) := (World.putObj_heap_other (by omega)).trans (hk3.same _ _ hk2 rfl)
          refine ⟨_, W3.putObj (w.heap.size + 1) (.loop (rec .ready none)), ?_, rfl, ⟨hI (k + 1) _ _ _ hi3 (grownBy_putObj' _ _ _) (.inr (by omega)), hl4, hk4⟩, hC k _ _ _ hc3 (grownBy_putObj' _ _ _) (by omega)⟩
          rw [hr, hrec]
          rfl
        | ret => exact hp.elim
        | exit id => exact hp.elim
        | goto t => exact hp.elim
        | panic ch => exact hp.elim
        | outgrown => exact hp.elim
      · rintro e W2 ⟨⟨hok, v, rfl⟩ | ⟨hok, rfl⟩, ⟨hi, hl, hd⟩, hdd⟩
        · exact ⟨none, _, by have := run_endLoop (P := P) hl (by rw [hrec]; simp); rw [hrec] at this; exact this, hdone hok _ _ (Nat.le_refl _) (hI N _ _ _ hi (grownBy_putObj' _ _ _) (.inr (by omega))) (hD _ _ _ hdd (grownBy_putObj' _ _ _) (by omega)) ((World.putObj_heap_other (by omega)).trans hd)⟩
        · exact hpan hok _ _ (Nat.le_refl _) hi hdd hd
    exact callsIn_wide.2 (callsIn_wide.1 hit')

end Tk
end Go.Proofs.YtmphkifhnjfkmaaGreatDoor

namespace Go.Proofs.YtmphkifhnjfkmaaGreatDoor
open Go.ChangeShapes Go.WideShapes Go.ChangeAt Go.RowKit Go.WideMaps Go.Maps
namespace Tk

/-- The place of the k-th digit. -/
def dpos (s : ByteArray) (a : Nat) : Nat → Nat
  | 0 => a
  | k + 1 => if byteAt s (dpos s a k + 1) = 95 then dpos s a k + 2 else dpos s a k + 1

/-- N digits of a base from place a on, and what ends them: what is no digit, or an underscore that is not between two digits. -/
structure RunU (s : ByteArray) (a N : Nat) (base : Int) (ok : Bool) : Prop where
  dig : ∀ k, k < N → digitV (byteAt s (dpos s a k)) base < base
  und : ∀ k, k < N → byteAt s (dpos s a k + 1) = 95 → digitV (byteAt s (dpos s a k + 1 + 1)) base < base
  stop : ok = true → ¬ digitV (byteAt s (dpos s a N)) base < base
  bad : ok = false → digitV (byteAt s (dpos s a N)) base < base ∧ byteAt s (dpos s a N + 1) = 95 ∧ ¬ digitV (byteAt s (dpos s a N + 1 + 1)) base < base
  size : dpos s a N ≤ s.size

theorem dpos_ge (s : ByteArray) (a : Nat) : ∀ k, a + k ≤ dpos s a k
  | 0 => Nat.le_refl _
  | k + 1 => by
    have := dpos_ge s a k
    unfold dpos
    split <;> omega

theorem digit_zero (base : Int) (_ : 0 ≤ base) : ¬ digitV 0 base < base := by
  unfold digitV
  rw [if_neg (by decide), if_neg (by decide), if_neg (by decide)]
  omega

/-- Whatever stands there is so many digits, and an end. -/
theorem runU_some (s : ByteArray) (a : Nat) (base : Int) (hb : 0 ≤ base) : ∀ (n k : Nat), s.size < n + dpos s a k → dpos s a k ≤ s.size →
    (∀ j, j < k → digitV (byteAt s (dpos s a j)) base < base ∧ (byteAt s (dpos s a j + 1) = 95 → digitV (byteAt s (dpos s a j + 1 + 1)) base < base)) → ∃ N ok, RunU s a N base ok
  | 0, k, h, hk, _ => by omega
  | n + 1, k, h, hk, hd => by
    by_cases h1 : digitV (byteAt s (dpos s a k)) base < base
    · have hlt : dpos s a k < s.size := by
        rcases Nat.lt_or_ge (dpos s a k) s.size with h2 | h2
        · exact h2
        · rw [byteAt_out h2] at h1
          exact absurd h1 (digit_zero base hb)
      by_cases h2 : byteAt s (dpos s a k + 1) = 95
      · by_cases h3 : digitV (byteAt s (dpos s a k + 1 + 1)) base < base
        · have hlt3 : dpos s a k + 1 + 1 < s.size := by
            rcases Nat.lt_or_ge (dpos s a k + 1 + 1) s.size with h4 | h4
            · exact h4
            · rw [byteAt_out h4] at h3
              exact absurd h3 (digit_zero base hb)
          have e : dpos s a (k + 1) = dpos s a k + 2 := by
            show (if byteAt s (dpos s a k + 1) = 95 then dpos s a k + 2 else dpos s a k + 1) = _
            rw [if_pos h2]
          refine runU_some s a base hb n (k + 1) (by omega) (by omega) ?_
          intro j hj
          by_cases hjk : j = k
          · subst hjk
            exact ⟨h1, fun _ => h3⟩
          · exact hd j (by omega)
        · exact ⟨k, false, fun j hj => (hd j hj).1, fun j hj => (hd j hj).2, fun h => (by cases h), fun _ => ⟨h1, h2, h3⟩, hk⟩
      · have e : dpos s a (k + 1) = dpos s a k + 1 := by
          show (if byteAt s (dpos s a k + 1) = 95 then dpos s a k + 2 else dpos s a k + 1) = _
          rw [if_neg h2]
        refine runU_some s a base hb n (k + 1) (by omega) (by omega) ?_
        intro j hj
        by_cases hjk : j = k
        · subst hjk
          exact ⟨h1, fun h => absurd h h2⟩
        · exact hd j (by omega)
    · exact ⟨k, true, fun j hj => (hd j hj).1, fun j hj => (hd j hj).2, fun _ => h1, fun h => (by cases h), hk⟩

def atDigitU (s : ByteArray) (st a m c bc bb : Nat) (base : Int) (k : Nat) (w : World) : Prop := Cur w c s st (dpos s a (k + 1)) m ∧ Boxes w bc bb c base

theorem dpos_step (s : ByteArray) (a k : Nat) : dpos s a k + 1 ≤ dpos s a (k + 1) := by
  show _ ≤ (if byteAt s (dpos s a k + 1) = 95 then dpos s a k + 2 else dpos s a k + 1)
  split <;> omega
theorem dpos_le (s : ByteArray) (a : Nat) : ∀ (i j : Nat), i ≤ j → dpos s a i ≤ dpos s a j
  | i, 0, h => by obtain rfl : i = 0 := by omega
                  exact Nat.le_refl _
  | i, j + 1, h => by
    by_cases hij : i = j + 1
    · rw [hij]; exact Nat.le_refl _
    · have := dpos_le s a i j (by omega)
      have := dpos_step s a j
      omega

attribute [local go_sem] Oper.semAt_some wide_fn wide_room round_room round_fn

set_option maxHeartbeats 8000000 in
theorem digits_iterU (w : World) (s : ByteArray) (st a m c bc bb N : Nat) (base : Int) (ok : Bool) (hs : s.size ≤ 20000) (hR : RunU s a N base ok) (hc : Cur w c s st a m) (hB : Boxes w bc bb c base) (h1 : bc ≠ c) (h2 : bb ≠ c) (n : Nat) :
    IterSp Tryz.prog n 95 #[.pointer (some ⟨bc, 0, none⟩), .pointer (some ⟨bb, 0, none⟩)] c N (fun k => #[.int .u64 (digitV (byteAt s (dpos s a k)) base)]) (atDigitU s st a m c bc bb base) ok (faultC st 33)
      (fun w' => ok = true → Cur w' c s st (dpos s a N) m) w := by
  intro l J W hW hJ hY h0
  have HJ := Lib.hid hJ
  have HR := Lib.hid hR
  have HC0 := Lib.hid (hc.kept hW (by simp))
  have HB0 := Lib.hid (hB.kept hW (by simp) (by simp))
  have H0 := Lib.hid h0
  have HY := Lib.hid hY
  clear hJ hR hc hB h0 hY hW
  refine callsIn_of_wp Tryz.func95 rfl trivial ?_ rfl
  simp only [Tryz.ntmps95, List.size_toArray, List.length_cons, List.length_nil, Nat.reduceAdd, Nat.reduceSub, Array.replicate_succ, Array.replicate_zero, List.push_toArray, List.append_toArray, List.nil_append, List.cons_append]
  gi_wp2_with fail
  gi_loopw [] (fun wr => ∃ k : Nat, k ≤ N ∧ dpos s a k ≤ s.size ∧ Cur wr c s st (dpos s a k) m ∧ Boxes wr bc bb c base ∧ J k wr) (fun wr => s.size - posOf wr c)
  case atStart => exact ⟨0, Nat.zero_le _, (by have := HR.out.size; have := dpos_le s a 0 N (Nat.zero_le _); omega), HC0.out, HB0.out, H0.out⟩
  case round =>
    obtain ⟨k, hk, hps, hcr, hbr, hj⟩ := hrel
    have x1 := hbr.cur
    have x2 := hbr.base
    have HC := Lib.hid hcr
    have HB := Lib.hid hbr
    have Hj := Lib.hid hj
    have hsz := HR.out.size
    have hb0 := byteAt_range s (dpos s a k)
    clear hcr hbr hj HC0 HB0 H0
    obtain ⟨p, hp⟩ : ∃ p : Nat, p = dpos s a k := ⟨_, rfl⟩
    rw [← hp] at hb0 hps
    have hC' : Cur wr c s st p m := by rw [hp]; exact HC.out
    have HC := Lib.hid hC'
    have HP := Lib.hid hp
    have hpb : p ≤ 30000 := by omega
    clear hC' hp
    have e1 : IntKind.i64.wrap ((p : Int) + 1) = (p : Int) + 1 := IntWalk.i64_in _ (by omega)
    have e2 : IntKind.i64.wrap ((p : Int) + 1 + 1) = (p : Int) + 1 + 1 := IntWalk.i64_in _ (by omega)
    have hb2 := byteAt_range s (p + 1 + 1)
    by_cases hlt : k < N
    · have hdig : digitV (byteAt s p) base < base := by rw [HP.out]; exact HR.out.dig k hlt
      have hmono := dpos_le s a (k + 1) N hlt
      by_cases h95 : byteAt s (p + 1) = 95
      · have hdig2 : digitV (byteAt s (p + 1 + 1)) base < base := by rw [HP.out] at h95 ⊢; exact HR.out.und k hlt h95
        have hnext : dpos s a (k + 1) = p + 2 := by
          show (if byteAt s (dpos s a k + 1) = 95 then dpos s a k + 2 else dpos s a k + 1) = _
          rw [← HP.out, if_pos h95]
        have H95 := Lib.hid h95
        have HNx := Lib.hid hnext
        clear h95
        obtain ⟨d, hd⟩ : ∃ d, d = digitV (byteAt s p) base := ⟨_, rfl⟩
        have hdl : decide (d < base) = true := by rw [hd]; exact decide_eq_true hdig
        have HD := Lib.hid hd
        have HDL := Lib.hid hdl
        clear hd hdl
        gi_wp2_with fail
        refine wpIn_wide.2 ?_
        go_quiet ((first | (go_at_call 55; exact Calls.quiet_of (peek0 s p c _ hs (by omega) HC.out.text HC.out.pos)) | (go_at_call 96; exact Calls.quiet_of_same (digit_is _ base d true _ hb0.1 hb0.2 HD.out HDL.out))))
        have HYd : Hid (∀ W1, J k W1 → Cur W1 c s st (p + 2) m → Boxes W1 bc bb c base → YieldAt Fence.wide (n - 1) Tryz.prog l #[.int .u64 d] W1 fun e W' => e = .returned (.bool true) ∧ J (k + 1) W' ∧ Cur W' c s st (p + 2) m ∧ Boxes W' bc bb c base) := by
          intro W1 q1 q2 q3
          have := HY.out k W1 hlt q1 ⟨by rw [HNx.out]; exact q2, q3⟩
          unfold atDigitU at this
          rw [HNx.out] at this
          rw [← HP.out] at this
          rw [HD.out]
          exact this
        obtain ⟨wo, hwo⟩ : ∃ wo, wo = wr.drewN nq := ⟨_, rfl⟩
        have HCo : Hid (Cur wo c s st p m) := by rw [hwo]; exact HC.out.drew nq
        have HBo : Hid (Boxes wo bc bb c base) := by rw [hwo]; exact ⟨HB.out.cur, HB.out.base⟩
        have HJo : Hid (J k wo) := by rw [hwo]; exact HJ.out k _ _ Hj.out (grown_drewN _ _ _)
        rw [← hwo]
        clear hwo x1 x2
        have x1 := HBo.out.cur
        have x2 := HBo.out.base
        have c2 := HCo.out.pos
        have f2 := HCo.out.free 2
        obtain ⟨wy, hwy⟩ : ∃ wy, wy = wo.setCell ⟨c, 2, none⟩ (.int .i64 ((p : Int) + 1)) := ⟨_, rfl⟩
        have HCy : Hid (Cur wy c s st (p + 1) m) := by rw [hwy]; exact HCo.out.move (p + 1) _ (by omega)
        have HGy : Hid (wo.grownBy wy (some c)) := by rw [hwy]; exact grown_set _ ⟨c, 2, none⟩ _
        have HBy : Hid (Boxes wy bc bb c base) := HBo.out.kept HGy.out (by simpa using h1) (by simpa using h2)
        have HJy : Hid (J k wy) := HJ.out k _ _ HJo.out HGy.out
        have HWY := Lib.hid hwy
        clear hwy
        have y1 := HBy.out.cur
        gi_wp2_with (gi_at_call 55; rw [← HWY.out]; refine (callsIn_wide.2 (peek0 s (p + 1) c wy hs (by omega) HCy.out.text HCy.out.pos)).mono ?_; rintro e w' ⟨he, n2, rfl⟩; rw [H95.out] at he; subst he)
        obtain ⟨wz, hwz⟩ : ∃ wz, wz = wy.drewN n2 := ⟨_, rfl⟩
        have HCz : Hid (Cur wz c s st (p + 1) m) := by rw [hwz]; exact HCy.out.drew n2
        have HBz : Hid (Boxes wz bc bb c base) := by rw [hwz]; exact ⟨HBy.out.cur, HBy.out.base⟩
        have HJz : Hid (J k wz) := by rw [hwz]; exact HJ.out k _ _ HJy.out (grown_drewN _ _ _)
        rw [← hwz]
        clear hwz x1 x2 c2 f2 y1
        have x1 := HBz.out.cur
        have x2 := HBz.out.base
        obtain ⟨d2, hd2⟩ : ∃ d2, d2 = digitV (byteAt s (p + 1 + 1)) base := ⟨_, rfl⟩
        have hdl2 : decide (d2 < base) = true := by rw [hd2]; exact decide_eq_true hdig2
        have HD2 := Lib.hid hd2
        have HDL2 := Lib.hid hdl2
        clear hd2 hdl2
        refine wpIn_wide.2 ?_
        go_quiet ((first | (go_at_call 55; exact Calls.quiet_of (peek_any s (p + 1) 1 c _ hs (by omega) (by omega) HCz.out.text HCz.out.pos)) | (go_at_call 96; exact Calls.quiet_of_same (digit_is _ base d2 true _ hb2.1 hb2.2 HD2.out HDL2.out))))
        obtain ⟨wq, hwq⟩ : ∃ wq, wq = wz.drewN nq := ⟨_, rfl⟩
        have HCq : Hid (Cur wq c s st (p + 1) m) := by rw [hwq]; exact HCz.out.drew nq
        have HBq : Hid (Boxes wq bc bb c base) := by rw [hwq]; exact ⟨HBz.out.cur, HBz.out.base⟩
        have HJq : Hid (J k wq) := by rw [hwq]; exact HJ.out k _ _ HJz.out (grown_drewN _ _ _)
        rw [← hwq]
        clear hwq x1 x2
        have x1 := HBq.out.cur
        have x2 := HBq.out.base
        have c2 : wq.cell? ⟨c, 2, none⟩ = some (.int .i64 ((p : Int) + 1)) := HCq.out.pos
        have f2 := HCq.out.free 2
        have HGv : Hid (wq.grownBy (wq.setCell ⟨c, 2, none⟩ (.int .i64 ((p : Int) + 1 + 1))) (some c)) := grown_set _ ⟨c, 2, none⟩ _
        have HBv : Hid (Boxes (wq.setCell ⟨c, 2, none⟩ (.int .i64 ((p : Int) + 1 + 1))) bc bb c base) := HBq.out.kept HGv.out (by simpa using h1) (by simpa using h2)
        obtain ⟨fn, tmps', assign, body, hy, hRd⟩ := HYd.out (wq.setCell ⟨c, 2, none⟩ (.int .i64 ((p : Int) + 1 + 1))) (HJ.out k _ _ HJq.out HGv.out) (HCq.out.move (p + 2) _ (by omega)) HBv.out
        clear hdig hdig2 hnext
        gi_wp2_with (refine hRd.mono ?_; rintro e W' ⟨rfl, hj', hC', hB'⟩)
        have hpk := HP.out
        refine ⟨⟨k + 1, by omega, by rw [HNx.out] at hmono ⊢; omega, ?_, hB', hj'⟩, ?_⟩
        · rw [HNx.out]
          exact hC'
        · rw [hC'.posOf, HC.out.posOf]
          rw [HNx.out] at hmono
          omega
      · have hnext : dpos s a (k + 1) = p + 1 := by
          show (if byteAt s (dpos s a k + 1) = 95 then dpos s a k + 2 else dpos s a k + 1) = _
          rw [← HP.out, if_neg h95]
        have HNx := Lib.hid hnext
        have h95' : (byteAt s (p + 1) == 95) = false := by simpa using h95
        clear h95
        obtain ⟨d, hd⟩ : ∃ d, d = digitV (byteAt s p) base := ⟨_, rfl⟩
        have hdl : decide (d < base) = true := by rw [hd]; exact decide_eq_true hdig
        have HD := Lib.hid hd
        have HDL := Lib.hid hdl
        clear hd hdl
        gi_wp2_with fail
        refine wpIn_wide.2 ?_
        go_quiet ((first | (go_at_call 55; exact Calls.quiet_of (peek0 s p c _ hs (by omega) HC.out.text HC.out.pos)) | (go_at_call 96; exact Calls.quiet_of_same (digit_is _ base d true _ hb0.1 hb0.2 HD.out HDL.out))))
        have HYd : Hid (∀ W1, J k W1 → Cur W1 c s st (p + 1) m → Boxes W1 bc bb c base → YieldAt Fence.wide (n - 1) Tryz.prog l #[.int .u64 d] W1 fun e W' => e = .returned (.bool true) ∧ J (k + 1) W' ∧ Cur W' c s st (p + 1) m ∧ Boxes W' bc bb c base) := by
          intro W1 q1 q2 q3
          have := HY.out k W1 hlt q1 ⟨by rw [HNx.out]; exact q2, q3⟩
          unfold atDigitU at this
          rw [HNx.out] at this
          rw [← HP.out] at this
          rw [HD.out]
          exact this
        obtain ⟨wo, hwo⟩ : ∃ wo, wo = wr.drewN nq := ⟨_, rfl⟩
        have HCo : Hid (Cur wo c s st p m) := by rw [hwo]; exact HC.out.drew nq
        have HBo : Hid (Boxes wo bc bb c base) := by rw [hwo]; exact ⟨HB.out.cur, HB.out.base⟩
        have HJo : Hid (J k wo) := by rw [hwo]; exact HJ.out k _ _ Hj.out (grown_drewN _ _ _)
        rw [← hwo]
        clear hwo x1 x2
        have x1 := HBo.out.cur
        have x2 := HBo.out.base
        have c2 := HCo.out.pos
        have f2 := HCo.out.free 2
        obtain ⟨wy, hwy⟩ : ∃ wy, wy = wo.setCell ⟨c, 2, none⟩ (.int .i64 ((p : Int) + 1)) := ⟨_, rfl⟩
        have HCy : Hid (Cur wy c s st (p + 1) m) := by rw [hwy]; exact HCo.out.move (p + 1) _ (by omega)
        have HGy : Hid (wo.grownBy wy (some c)) := by rw [hwy]; exact grown_set _ ⟨c, 2, none⟩ _
        have HBy : Hid (Boxes wy bc bb c base) := HBo.out.kept HGy.out (by simpa using h1) (by simpa using h2)
        have HJy : Hid (J k wy) := HJ.out k _ _ HJo.out HGy.out
        have HWY := Lib.hid hwy
        clear hwy
        have y1 := HBy.out.cur
        clear hdig hnext
        gi_wp2_with (first | (gi_at_call 55; rw [← HWY.out]; refine (callsIn_wide.2 (peek0 s (p + 1) c wy hs (by omega) HCy.out.text HCy.out.pos)).mono ?_; rintro e w' ⟨rfl, n2, rfl⟩; obtain ⟨fn, tmps', assign, body, hy, hRd⟩ := HYd.out (wy.drewN n2) (HJ.out k _ _ HJy.out (grown_drewN _ _ _)) (HCy.out.drew n2) ⟨HBy.out.cur, HBy.out.base⟩) | (refine hRd.mono ?_; rintro e W' ⟨rfl, hj', hC', hB'⟩))
        have hpk := HP.out
        refine ⟨⟨k + 1, by omega, by rw [HNx.out] at hmono ⊢; omega, ?_, hB', hj'⟩, ?_⟩
        · rw [HNx.out]
          exact hC'
        · rw [hC'.posOf, HC.out.posOf]
          rw [HNx.out] at hmono
          omega
    · obtain rfl : k = N := by omega
      cases ok
      · obtain ⟨hdig, h95, hdig2⟩ := HR.out.bad rfl
        rw [← HP.out] at hdig h95 hdig2
        have H95 := Lib.hid h95
        clear h95
        obtain ⟨d, hd⟩ : ∃ d, d = digitV (byteAt s p) base := ⟨_, rfl⟩
        have hdl : decide (d < base) = true := by rw [hd]; exact decide_eq_true hdig
        have HD := Lib.hid hd
        have HDL := Lib.hid hdl
        clear hd hdl
        gi_wp2_with fail
        refine wpIn_wide.2 ?_
        go_quiet ((first | (go_at_call 55; exact Calls.quiet_of (peek0 s p c _ hs (by omega) HC.out.text HC.out.pos)) | (go_at_call 96; exact Calls.quiet_of_same (digit_is _ base d true _ hb0.1 hb0.2 HD.out HDL.out))))
        obtain ⟨wo, hwo⟩ : ∃ wo, wo = wr.drewN nq := ⟨_, rfl⟩
        have HCo : Hid (Cur wo c s st p m) := by rw [hwo]; exact HC.out.drew nq
        have HBo : Hid (Boxes wo bc bb c base) := by rw [hwo]; exact ⟨HB.out.cur, HB.out.base⟩
        have HJo : Hid (J k wo) := by rw [hwo]; exact HJ.out k _ _ Hj.out (grown_drewN _ _ _)
        rw [← hwo]
        clear hwo x1 x2
        have x1 := HBo.out.cur
        have x2 := HBo.out.base
        have c2 := HCo.out.pos
        have f2 := HCo.out.free 2
        obtain ⟨wy, hwy⟩ : ∃ wy, wy = wo.setCell ⟨c, 2, none⟩ (.int .i64 ((p : Int) + 1)) := ⟨_, rfl⟩
        have HCy : Hid (Cur wy c s st (p + 1) m) := by rw [hwy]; exact HCo.out.move (p + 1) _ (by omega)
        have HGy : Hid (wo.grownBy wy (some c)) := by rw [hwy]; exact grown_set _ ⟨c, 2, none⟩ _
        have HBy : Hid (Boxes wy bc bb c base) := HBo.out.kept HGy.out (by simpa using h1) (by simpa using h2)
        have HJy : Hid (J k wy) := HJ.out k _ _ HJo.out HGy.out
        have HWY := Lib.hid hwy
        clear hwy
        have y1 := HBy.out.cur
        gi_wp2_with (gi_at_call 55; rw [← HWY.out]; refine (callsIn_wide.2 (peek0 s (p + 1) c wy hs (by omega) HCy.out.text HCy.out.pos)).mono ?_; rintro e w' ⟨he, n2, rfl⟩; rw [H95.out] at he; subst he)
        obtain ⟨wz, hwz⟩ : ∃ wz, wz = wy.drewN n2 := ⟨_, rfl⟩
        have HCz : Hid (Cur wz c s st (p + 1) m) := by rw [hwz]; exact HCy.out.drew n2
        have HBz : Hid (Boxes wz bc bb c base) := by rw [hwz]; exact ⟨HBy.out.cur, HBy.out.base⟩
        have HJz : Hid (J k wz) := by rw [hwz]; exact HJ.out k _ _ HJy.out (grown_drewN _ _ _)
        rw [← hwz]
        clear hwz x1 x2 c2 f2 y1
        have x1 := HBz.out.cur
        have x2 := HBz.out.base
        obtain ⟨d2, hd2⟩ : ∃ d2, d2 = digitV (byteAt s (p + 1 + 1)) base := ⟨_, rfl⟩
        have hdl2 : decide (d2 < base) = false := by rw [hd2]; exact decide_eq_false (by omega)
        have HD2 := Lib.hid hd2
        have HDL2 := Lib.hid hdl2
        clear hd2 hdl2
        refine wpIn_wide.2 ?_
        go_quiet ((first | (go_at_call 55; exact Calls.quiet_of (peek_any s (p + 1) 1 c _ hs (by omega) (by omega) HCz.out.text HCz.out.pos)) | (go_at_call 96; exact Calls.quiet_of_same (digit_is _ base d2 false _ hb2.1 hb2.2 HD2.out HDL2.out))))
        obtain ⟨wq, hwq⟩ : ∃ wq, wq = wz.drewN nq := ⟨_, rfl⟩
        have HCq : Hid (Cur wq c s st (p + 1) m) := by rw [hwq]; exact HCz.out.drew nq
        have HBq : Hid (Boxes wq bc bb c base) := by rw [hwq]; exact ⟨HBz.out.cur, HBz.out.base⟩
        have HJq : Hid (J k wq) := by rw [hwq]; exact HJ.out k _ _ HJz.out (grown_drewN _ _ _)
        rw [← hwq]
        clear hwq x1 x2
        have x1 := HBq.out.cur
        have x2 := HBq.out.base
        clear hdig hdig2
        gi_wp2_with (gi_at_call 52; refine (callsIn_wide.2 (fail_any _ c s st (p + 1) m 33 HCq.out)).mono ?_; rintro e w' ⟨rfl, rfl⟩)
        first | exact ⟨rfl, rfl, HJq.out⟩ | exact ⟨rfl, .inr ⟨rfl, rfl⟩, HJq.out, fun h => by cases h⟩
      · have hdig := HR.out.stop rfl
        rw [← HP.out] at hdig
        obtain ⟨d, hd⟩ : ∃ d, d = digitV (byteAt s p) base := ⟨_, rfl⟩
        have hdl : decide (d < base) = false := by rw [hd]; exact decide_eq_false hdig
        have HD := Lib.hid hd
        have HDL := Lib.hid hdl
        clear hd hdl
        gi_wp2_with fail
        refine wpIn_wide.2 ?_
        go_quiet ((first | (go_at_call 55; exact Calls.quiet_of (peek0 s p c _ hs (by omega) HC.out.text HC.out.pos)) | (go_at_call 96; exact Calls.quiet_of_same (digit_is _ base d false _ hb0.1 hb0.2 HD.out HDL.out))))
        clear hdig
        gi_wp2_with fail
        first | go_end0 | refine bodyPost_ret (results_none rfl _ _ _) rfl ?_
        refine ⟨⟨_, rfl⟩, HJ.out _ _ _ Hj.out (grown_drewN _ _ _), ?_⟩
        rw [← HP.out]
        exact HC.out.drew _

end Tk
end Go.Proofs.YtmphkifhnjfkmaaGreatDoor

namespace Go.Proofs.YtmphkifhnjfkmaaGreatDoor
open Go.ChangeShapes Go.WideShapes Go.ChangeAt Go.RowKit
namespace Tk

theorem add_run2 (x y c : Nat) (hx : x < 18446744073709551616) (hy : y < 18446744073709551616) (hc : c ≤ 1) (w : World) :
    (callFunc 88 #[.int .u64 (x : Int), .int .u64 (y : Int), .int .u64 (c : Int)]).run Tryz.prog w = .ok (.value (.tuple #[.int .u64 (((x + y + c) % 18446744073709551616 : Nat) : Int), .int .u64 (((x + y + c) / 18446744073709551616 : Nat) : Int)])) w := by
  rw [run_callFunc_extern Tryz.func88 (by kernel_rfl) (by kernel_rfl) (by kernel_rfl) (e := add64Entry) (by kernel_rfl), run_add64 x y c (by omega) (by omega) (by omega) (by omega)]
  simp only [Result.andThen]
  rw [show ((x : Int) + y + c) % 18446744073709551616 = (((x + y + c) % 18446744073709551616 : Nat) : Int) by omega, show ((x : Int) + y + c) / 18446744073709551616 = (((x + y + c) / 18446744073709551616 : Nat) : Int) by omega]

/-- A number below 2^128 in block b. -/
structure Wide2 (w : World) (b : Nat) (x : Nat) : Prop where
  hi : w.cell? ⟨b, 0, none⟩ = some (.int .u64 ((x / 18446744073709551616 : Nat) : Int))
  lo : w.cell? ⟨b, 1, none⟩ = some (.int .u64 ((x % 18446744073709551616 : Nat) : Int))
  free : ∀ j, w.frozen? ⟨b, j, none⟩ = false

theorem Wide2.kept {w w' : World} {b x : Nat} {row : Option Nat} (h : Wide2 w b x) (hg : w.grownBy w' row) (hr : some b ≠ row) : Wide2 w' b x :=
  ⟨cell_grown h.hi hg hr, cell_grown h.lo hg hr, fun j => (World.frozen?_of_block (w := w) (hg.block b (lt_cell h.hi) hr)).trans (h.free j)⟩

theorem Wide2.set {w : World} {b x : Nat} (h : Wide2 w b x) (y : Nat) (z1 z2 : Int) (h1 : z1 = ((y / 18446744073709551616 : Nat) : Int)) (h2 : z2 = ((y % 18446744073709551616 : Nat) : Int)) : Wide2 ((w.setCell ⟨b, 0, none⟩ (.int .u64 z1)).setCell ⟨b, 1, none⟩ (.int .u64 z2)) b y where
  hi := h1 ▸ (set_off _ b 1 0 _ (by decide)).trans (World.cell?_setCell_same _ _ _ h.hi)
  lo := h2 ▸ World.cell?_setCell_same _ _ _ ((set_off _ b 0 1 _ (by decide)).trans h.lo)
  free := fun j => by rw [World.frozen?_setCell, World.frozen?_setCell]; exact h.free j

set_option maxHeartbeats 2000000 in
theorem push_total (b x base d : Nat) (w : World) (h : Wide2 w b x) (hx : x < 340282366920938463463374607431768211456) (hb : base < 100) (hd : d < 100) :
    Calls Tryz.prog 65 #[.pointer (some ⟨b, 0, none⟩), .int .u64 base, .int .u64 d] w fun e w' =>
      e = .returned (.bool (decide (x * base + d < 340282366920938463463374607431768211456))) ∧ Wide2 w' b ((x * base + d) % 340282366920938463463374607431768211456) ∧ w.grownBy w' (some b) := by
  have h0 := h.hi
  have h1 := h.lo
  have g0 := h.free 0
  have g1 := h.free 1
  have HH := Lib.hid h
  obtain ⟨H, hH⟩ : ∃ H, H = x / 18446744073709551616 := ⟨_, rfl⟩
  obtain ⟨L, hL⟩ : ∃ L, L = x % 18446744073709551616 := ⟨_, rfl⟩
  rw [← hH] at h0
  rw [← hL] at h1
  obtain ⟨P, hP⟩ : ∃ P, P = H * base := ⟨_, rfl⟩
  obtain ⟨Q, hQ⟩ : ∃ Q, Q = L * base := ⟨_, rfl⟩
  have hxx : x * base = P * 18446744073709551616 + Q := by
    have : x = H * 18446744073709551616 + L := by omega
    rw [this, hP, hQ, Nat.add_mul, Nat.mul_right_comm]
  have hHb : H < 18446744073709551616 := by omega
  have hLb : L < 18446744073709551616 := by omega
  have hP1 : P < 1844674407370955161600 := by
    rw [hP]
    have := Nat.mul_le_mul (show H ≤ 18446744073709551615 by omega) (show base ≤ 99 by omega)
    omega
  have hQ1 : Q ≤ 18446744073709551615 * 99 := by
    rw [hQ]
    exact Nat.mul_le_mul (by omega) (by omega)
  have m1 := Tryz.bits_Mul64 H base hHb (by omega)
  have m2 := Tryz.bits_Mul64 L base hLb (by omega)
  rw [← hP] at m1
  rw [← hQ] at m2
  obtain ⟨ov, hov⟩ : ∃ ov, ov = P / 18446744073709551616 := ⟨_, rfl⟩
  obtain ⟨i1, hi1⟩ : ∃ i1, i1 = P % 18446744073709551616 := ⟨_, rfl⟩
  obtain ⟨up, hup⟩ : ∃ up, up = Q / 18446744073709551616 := ⟨_, rfl⟩
  obtain ⟨l1, hl1⟩ : ∃ l1, l1 = Q % 18446744073709551616 := ⟨_, rfl⟩
  rw [← hov, ← hi1] at m1
  rw [← hup, ← hl1] at m2
  have a1 : ∀ w : World, (callFunc 88 #[.int .u64 (l1 : Int), .int .u64 (d : Int), .int .u64 0]).run Tryz.prog w = .ok (.value (.tuple #[.int .u64 (((l1 + d + 0) % 18446744073709551616 : Nat) : Int), .int .u64 (((l1 + d + 0) / 18446744073709551616 : Nat) : Int)])) w := fun w => add_run2 l1 d 0 (by omega) (by omega) (by omega) w
  obtain ⟨l2, hl2⟩ : ∃ l2, l2 = (l1 + d + 0) % 18446744073709551616 := ⟨_, rfl⟩
  obtain ⟨k1, hk1⟩ : ∃ k1, k1 = (l1 + d + 0) / 18446744073709551616 := ⟨_, rfl⟩
  rw [← hl2, ← hk1] at a1
  have a2 := add_run2 i1 up k1 (by omega) (by omega) (by omega)
  obtain ⟨i2, hi2⟩ : ∃ i2, i2 = (i1 + up + k1) % 18446744073709551616 := ⟨_, rfl⟩
  obtain ⟨k2, hk2⟩ : ∃ k2, k2 = (i1 + up + k1) / 18446744073709551616 := ⟨_, rfl⟩
  rw [← hi2, ← hk2] at a2
  have hy : (x * base + d) % 340282366920938463463374607431768211456 / 18446744073709551616 = i2 ∧ (x * base + d) % 340282366920938463463374607431768211456 % 18446744073709551616 = l2 := by
    rw [hxx]
    omega
  have hfit : (x * base + d < 340282366920938463463374607431768211456) ↔ (ov = 0 ∧ k2 = 0) := by
    rw [hxx]
    omega
  obtain ⟨y, hyy⟩ : ∃ y, y = x * base + d := ⟨_, rfl⟩
  rw [← hyy] at hy hfit ⊢
  have HY := Lib.hid hy
  have HF := Lib.hid hfit
  have M1 := Lib.hid m1
  have M2 := Lib.hid m2
  have A1 := Lib.hid a1
  have A2 := Lib.hid a2
  clear m1 m2 a1 a2 hy hfit hyy hk2 hi2 hk1 hl2 hl1 hup hi1 hov hxx hP1 hQ1 hHb hLb hP hQ hH hL h
  have fin : ∀ (r : Bool), (r = true ↔ (ov = 0 ∧ k2 = 0)) → Calls Tryz.prog 65 #[.pointer (some ⟨b, 0, none⟩), .int .u64 base, .int .u64 d] w fun e w' => e = .returned (.bool r) ∧ Wide2 w' b (y % 340282366920938463463374607431768211456) ∧ w.grownBy w' (some b) := by
    intro r hr
    have HR := Lib.hid hr
    clear hr
    have done : ∀ w' : World, w' = (w.setCell ⟨b, 0, none⟩ (.int .u64 i2)).setCell ⟨b, 1, none⟩ (.int .u64 l2) → Wide2 w' b (y % 340282366920938463463374607431768211456) ∧ w.grownBy w' (some b) := by
      rintro w' rfl
      exact ⟨HH.out.set _ _ _ (by rw [HY.out.1]) (by rw [HY.out.2]), (grown_set _ ⟨b, 0, none⟩ _).trans (grown_set _ ⟨b, 1, none⟩ _)⟩
    have HDn := Lib.hid done
    clear done
    by_cases ho : ov = 0
    · subst ho
      by_cases hk : k2 = 0
      · subst hk
        go_enter Tryz.func65, Tryz.ntmps65
        go_upto_region 2 with (go_at_call 87; refine (M1.out _).mono ?_; rintro e w' ⟨rfl, rfl⟩)
        go_upto_region 3 with (go_at_call 87; refine (M2.out _).mono ?_; rintro e w' ⟨rfl, rfl⟩)
        go_wp2_with (first | simp only [A1.out] | simp only [A2.out])
        go_ret
        have hrt : r = true := HR.out.2 (by first | exact ⟨rfl, rfl⟩ | simp)
        subst hrt
        exact ⟨rfl, HDn.out _ rfl⟩
      · have nk : ((k2 : Int) == 0) = false := by simp; omega
        go_enter Tryz.func65, Tryz.ntmps65
        go_upto_region 2 with (go_at_call 87; refine (M1.out _).mono ?_; rintro e w' ⟨rfl, rfl⟩)
        go_upto_region 3 with (go_at_call 87; refine (M2.out _).mono ?_; rintro e w' ⟨rfl, rfl⟩)
        go_wp2_with (first | simp only [A1.out] | simp only [A2.out])
        go_ret
        have hrt : r = false := by
          cases hh : r
          · rfl
          · exact absurd (HR.out.1 hh).2 hk
        subst hrt
        exact ⟨rfl, HDn.out _ rfl⟩
    · have no : ((ov : Int) == 0) = false := by simp; omega
      go_enter Tryz.func65, Tryz.ntmps65
      go_upto_region 2 with (go_at_call 87; refine (M1.out _).mono ?_; rintro e w' ⟨rfl, rfl⟩)
      go_upto_region 3 with (go_at_call 87; refine (M2.out _).mono ?_; rintro e w' ⟨rfl, rfl⟩)
      go_wp2_with (first | simp only [A1.out] | simp only [A2.out])
      go_ret
      have hrt : r = false := by
        cases hh : r
        · rfl
        · exact absurd (HR.out.1 hh).1 ho
      subst hrt
      exact ⟨rfl, HDn.out _ rfl⟩
  exact fin _ (by rw [decide_eq_true_iff]; exact HF.out)

end Tk
end Go.Proofs.YtmphkifhnjfkmaaGreatDoor

namespace Go.Proofs.YtmphkifhnjfkmaaGreatDoor
open Go.ChangeShapes Go.WideShapes Go.ChangeAt Go.RowKit Go.WideMaps Go.Maps
namespace Tk

/-- The number of k digits, modulo 2^128, and whether it fits. -/
def numW (s : ByteArray) (a base : Nat) : Nat → Nat × Bool
  | 0 => (0, true)
  | k + 1 => (((numW s a base k).1 * base + (digitV (byteAt s (dpos s a k)) base).toNat) % 340282366920938463463374607431768211456,
      (numW s a base k).2 && decide ((numW s a base k).1 * base + (digitV (byteAt s (dpos s a k)) base).toNat < 340282366920938463463374607431768211456))

theorem numW_lt (s : ByteArray) (a base : Nat) : ∀ k, (numW s a base k).1 < 340282366920938463463374607431768211456
  | 0 => by show 0 < 340282366920938463463374607431768211456; decide
  | k + 1 => Nat.mod_lt _ (by decide)

/-- What a round of digits keeps: the base, the number, whether it fits. -/
structure SomeU (w : World) (c : Nat) (base x : Nat) (f : Bool) (W : World) : Prop where
  base : Boxed W w.heap.size 72 (.int .u64 base)
  num : Wide2 W (w.heap.size + 1) x
  fit : Boxed W (w.heap.size + 1 + 1) 4 (.bool f)
  grown : w.grownBy W (some c)

theorem SomeU.kept {w U V : World} {c base x r : Nat} {f : Bool} (h : SomeU w c base x f U) (hg : U.grownBy V (some r)) (h0 : r ≠ w.heap.size) (h1 : r ≠ w.heap.size + 1) (h2 : r ≠ w.heap.size + 1 + 1) (hr : r = c ∨ w.heap.size ≤ r) : SomeU w c base x f V :=
  ⟨h.base.kept hg (by intro e; cases e; exact h0 rfl), h.num.kept hg (by intro e; cases e; exact h1 rfl), h.fit.kept hg (by intro e; cases e; exact h2 rfl), grown_step h.grown hg hr⟩

attribute [local go_sem] Oper.semAt_some wide_fn wide_room round_room round_fn

set_option maxHeartbeats 8000000 in
set_option maxRecDepth 100000 in
theorem some_total (w : World) (s : ByteArray) (st a m c N base : Nat) (ok : Bool) (hs : s.size ≤ 20000) (hb : base < 100) (hR : RunU s a N base ok) (hc : Cur w c s st a m) :
    Calls Tryz.prog 57 #[.pointer (some ⟨c, 0, none⟩), .int .u64 base] w fun e w' =>
      ((ok = true ∧ 1 ≤ N ∧ e = .returned (.tuple #[.agg #[.int .u64 (((numW s a base N).1 / 18446744073709551616 : Nat) : Int), .int .u64 (((numW s a base N).1 % 18446744073709551616 : Nat) : Int)], .bool (numW s a base N).2]) ∧ Cur w' c s st (dpos s a N) m) ∨
        ((ok = false ∨ N = 0) ∧ e = .panicked (faultC st 33))) ∧ w.grownBy w' (some c) := by
  have hlt := hc.lt
  have HC := Lib.hid hc
  have c2 := hc.pos
  clear hc
  have c2a : ∀ o1 o2 o3, (((w.alloc o1).alloc o2).alloc o3).cell? ⟨c, 2, none⟩ = some (.int .i64 a) := fun o1 o2 o3 => cell_grown HC.out.pos (((World.grownBy_alloc w o1 none).trans (World.grownBy_alloc _ o2 none)).trans (World.grownBy_alloc _ o3 none)) (by simp)
  obtain ⟨wx, hwx⟩ : ∃ wx, wx = ((w.alloc (.cells #[.int .u64 base] 72)).alloc (.cells #[.int .u64 0, .int .u64 0] 74)).alloc (.cells #[.bool true] 4) := ⟨_, rfl⟩
  have hsx : wx.heap.size = w.heap.size + 1 + 1 + 1 := by rw [hwx]; simp
  have hIx : SomeU w c base 0 true wx := by
    rw [hwx]
    have h1 := World.alloc_heap_new (w.alloc (.cells #[.int .u64 base] 72)) (.cells #[.int .u64 0, .int .u64 0] 74)
    rw [World.size_alloc] at h1
    have h2 : (((w.alloc (.cells #[.int .u64 base] 72)).alloc (.cells #[.int .u64 0, .int .u64 0] 74)).alloc (.cells #[.bool true] 4)).heap[w.heap.size + 1]? = some (.cells #[.int .u64 0, .int .u64 0] 74) := (Below.heap_alloc _ _ _ (by simp)).trans h1
    have h3 := Boxed.new ((w.alloc (.cells #[.int .u64 base] 72)).alloc (.cells #[.int .u64 0, .int .u64 0] 74)) 4 (.bool true)
    rw [World.size_alloc, World.size_alloc] at h3
    exact ⟨((Boxed.new w _ _).alloc _).alloc _, ⟨by rw [Lib.cell_of_heap h2]; rfl, by rw [Lib.cell_of_heap h2]; rfl, fun j => Lib.frozen_of_heap h2 j⟩, h3, ((World.grownBy_alloc w _ _).trans (World.grownBy_alloc _ _ _)).trans (World.grownBy_alloc _ _ _)⟩
  have hgx : w.grownBy wx none := by
    rw [hwx]
    exact ((World.grownBy_alloc w _ _).trans (World.grownBy_alloc _ _ _)).trans (World.grownBy_alloc _ _ _)
  have HCx : Hid (Cur wx c s st a m) := HC.out.kept hgx (by simp)
  have HIx := Lib.hid hIx
  have HWX := Lib.hid hwx
  clear hIx hwx hgx
  have x0 := HIx.out.base.cell
  refine callsIn_wide.1 (callsIn_of_wp_marks (n := 3) Tryz.func57 rfl trivial ?_ rfl)
  simp only [Tryz.ntmps57, List.size_toArray, List.length_cons, List.length_nil, Nat.reduceAdd, Nat.reduceSub, Array.replicate_succ, Array.replicate_zero, List.push_toArray, List.append_toArray, List.nil_append, List.cons_append]
  gi_wp2_with (gi_at_call 75; rw [← HWX.out]; refine (callsIn_wide.2 (digits_any wx c base)).mono ?_; rintro e w' ⟨rfl, hB, hsz, hg⟩)
  rw [hsx] at hB hsz
  have HCw : Hid (Cur w' c s st a m) := HCx.out.kept hg (by simp)
  have HIw : Hid (SomeU w c base 0 true w') := HIx.out.kept (grown_row hg c) (by omega) (by omega) (by omega) (.inl rfl)
  have HB := Lib.hid hB
  have HR := Lib.hid hR
  clear hB hg hR x0 c2a c2
  refine wpIn_range_sp (n0 := 3) (gf := 95) (lb := #[.pointer (some ⟨w.heap.size + 1 + 1 + 1, 0, none⟩), .pointer (some ⟨w.heap.size + 1 + 1 + 1 + 1, 0, none⟩)]) rfl (enters_of Tryz.func95 (by kernel_rfl) rfl) (c := c) (N := N) (by omega)
    (digits_iterU w' s st a m c (w.heap.size + 1 + 1 + 1) (w.heap.size + 1 + 1 + 1 + 1) N base ok hs HR.out HCw.out HB.out (by omega) (by omega) 3) (fun _ => rfl) ?hC ?hD
    (fun k W => SomeU w c base (numW s a base k).1 (numW s a base k).2 W) ?hI HIw.out
    (fun k => { tmps := #[.pointer (some ⟨c, 0, none⟩), .int .u64 base, undef, .pointer (some ⟨w.heap.size, 0, none⟩), .pointer (some ⟨w.heap.size + 1, 0, none⟩), .pointer (some ⟨w.heap.size + 1 + 1, 0, none⟩), .int .i64 a, .int .u64 (digitV (byteAt s (dpos s a k)) base), undef, .pointer (some ⟨c, 0, none⟩), .pointer (some ⟨c, 0, none⟩), .pointer (some ⟨c, 2, none⟩), .int .i64 a, .pointer (some ⟨c, 0, none⟩), .int .u64 base, .func (.func 95) #[] #[.pointer (some ⟨w.heap.size + 1 + 1 + 1, 0, none⟩), .pointer (some ⟨w.heap.size + 1 + 1 + 1 + 1, 0, none⟩)], .int .u64 (digitV (byteAt s (dpos s a k)) base), undef, undef, undef, undef, undef, undef, undef, undef, undef, undef, undef, undef, undef, undef, undef, undef, undef], defers := [] }) ?assign ?body ?done ?pan
  case hC =>
    intro k U V r h hg hr
    exact ⟨h.1.kept hg (by intro e; cases e; omega), h.2.kept hg (by intro e; cases e; omega) (by intro e; cases e; omega)⟩
  case hD =>
    intro U V r h hg hr hok
    exact (h hok).kept hg (by intro e; cases e; omega)
  case hI =>
    intro k U V r h hg hr
    exact h.kept hg (by omega) (by omega) (by omega) (by omega)
  case assign =>
    intro l k W K hK
    gi_wp2
    exact hK
  case body =>
    intro l k W hk hI hC
    have hd := HR.out.dig k hk
    have hd0 := digitV_pos (byteAt s (dpos s a k)) base (byteAt_range s (dpos s a k)).1
    obtain ⟨d, hdn⟩ : ∃ d : Nat, digitV (byteAt s (dpos s a k)) base = d := ⟨(digitV (byteAt s (dpos s a k)) base).toNat, by omega⟩
    have hx := numW_lt s a base k
    have hn1 : (numW s a base (k + 1)).1 = ((numW s a base k).1 * base + d) % 340282366920938463463374607431768211456 := by
      show ((numW s a base k).1 * base + (digitV (byteAt s (dpos s a k)) base).toNat) % _ = _
      rw [hdn, Int.toNat_natCast]
    have hn2 : (numW s a base (k + 1)).2 = ((numW s a base k).2 && decide ((numW s a base k).1 * base + d < 340282366920938463463374607431768211456)) := by
      show ((numW s a base k).2 && decide ((numW s a base k).1 * base + (digitV (byteAt s (dpos s a k)) base).toNat < _)) = _
      rw [hdn, Int.toNat_natCast]
    rw [hn1, hn2, hdn]
    rw [hdn] at hd
    clear hdn hn1 hn2 hd0
    generalize (numW s a base k).1 = x at *
    generalize (numW s a base k).2 = f at *
    obtain ⟨g, hgd⟩ : ∃ g, g = decide (x * base + d < 340282366920938463463374607431768211456) := ⟨_, rfl⟩
    have HI := Lib.hid hI
    have HCd := Lib.hid hC
    have HGd := Lib.hid hgd
    rw [← hgd]
    clear hI hC hgd
    have x0 := HI.out.base.cell
    have fin : ∀ w2 : World, Wide2 w2 (w.heap.size + 1) ((x * base + d) % 340282366920938463463374607431768211456) → W.grownBy w2 (some (w.heap.size + 1)) → goesOn (SomeU w c base ((x * base + d) % 340282366920938463463374607431768211456) (f && g)) (atDigitU s st a m c (w.heap.size + 1 + 1 + 1) (w.heap.size + 1 + 1 + 1 + 1) base k) W .normal { tmps := #[], defers := [] } (w2.setCell ⟨w.heap.size + 1 + 1, 0, none⟩ (.bool (f && g))) := by
      intro w2 hw2 hg2
      have h1 : SomeU w c base ((x * base + d) % 340282366920938463463374607431768211456) f w2 := ⟨HI.out.base.kept hg2 (by simp), hw2, HI.out.fit.kept hg2 (by simp), grown_step HI.out.grown hg2 (.inr (by omega))⟩
      have hg3 : w2.grownBy (w2.setCell ⟨w.heap.size + 1 + 1, 0, none⟩ (.bool (f && g))) (some (w.heap.size + 1 + 1)) := grown_set w2 ⟨w.heap.size + 1 + 1, 0, none⟩ (.bool (f && g))
      refine ⟨(KeepsOthers.of_grownBy hg2 ?_).trans (KeepsOthers.setCell _ _ _), ⟨h1.base.other (by omega) _, h1.num.kept hg3 (by simp), h1.fit.set _, grown_step h1.grown hg3 (.inr (by omega))⟩, ?_, ?_⟩
      · intro j o e ho
        cases e
        obtain ⟨o', ho', hc'⟩ := cells_of_cell HI.out.num.hi
        rw [ho] at ho'
        cases ho'
        exact hc'
      · exact (HCd.out.1.kept hg2 (by intro e; have := Option.some.inj e; omega)).kept hg3 (by intro e; have := Option.some.inj e; omega)
      · exact (HCd.out.2.kept hg2 (by intro e; have := Option.some.inj e; omega) (by intro e; have := Option.some.inj e; omega)).kept hg3 (by intro e; have := Option.some.inj e; omega) (by intro e; have := Option.some.inj e; omega)
    have HFin := Lib.hid fin
    clear fin
    cases f
    all_goals
      gi_wp2_with (gi_at_call 65; refine (CallsIn.inRound l (callsIn_wide.2 (push_total (w.heap.size + 1) x base d _ HI.out.num (by omega) (by omega) (by omega)))).mono ?_; rintro e w2 ⟨he, hw2, hg2⟩; rw [← HGd.out] at he; subst he; have x2 := (HI.out.fit.kept hg2 (by simp)).cell; have x3 := (HI.out.fit.kept hg2 (by simp)).frozen)
      exact HFin.out w2 hw2 hg2
  case done =>
    intro hok B W hB hI hC hK
    subst hok
    have HI := Lib.hid hI
    have HCd := Lib.hid (hC rfl)
    have HK := Lib.hid hK
    clear hI hC hK
    have c2 := HCd.out.pos
    have hge := dpos_ge s a N
    by_cases hN : N = 0
    · subst hN
      have heq : ((dpos s a 0 : Nat) : Int) = (a : Int) := rfl
      gi_wp2_with (gi_at_call 52; refine (callsIn_wide.2 (fail_any _ c s st _ m 33 HCd.out)).mono ?_; rintro e w' ⟨rfl, rfl⟩)
      refine ⟨by simp, .inl ⟨_, _, rfl, run_takeDeferred HK.out, ?_⟩⟩
      first | exact ⟨.inr ⟨.inr rfl, rfl⟩, grown_step HI.out.grown (grownBy_putObj' _ _ _) (.inr (by omega))⟩ | exact ⟨rfl, grown_step HI.out.grown (grownBy_putObj' _ _ _) (.inr (by omega))⟩
    · have x1 := HI.out.num.hi
      have x2 := HI.out.num.lo
      have x3 := HI.out.fit.cell
      have f0 := HI.out.num.free 0
      have f1 := HI.out.num.free 1
      have f2 := HI.out.fit.frozen
      have hne : (((dpos s a N : Nat) : Int) == (a : Int)) = false := by simp; omega
      obtain ⟨p, hp⟩ : ∃ p, p = dpos s a N := ⟨_, rfl⟩
      rw [← hp] at hne c2
      obtain ⟨X, hX⟩ : ∃ X, X = (numW s a base N).1 := ⟨_, rfl⟩
      obtain ⟨f, hf⟩ : ∃ f, f = (numW s a base N).2 := ⟨_, rfl⟩
      rw [← hX] at x1 x2
      rw [← hf] at x3
      have HX := Lib.hid hX
      have HF := Lib.hid hf
      have HP := Lib.hid hp
      have HI2 : Hid (SomeU w c base X f W) := by show SomeU _ _ _ _ _ _; rw [hX, hf]; exact HI.out
      have HC2 : Hid (Cur W c s st p m) := by show Cur _ _ _ _ _ _; rw [hp]; exact HCd.out
      clear hX hf hp HI HCd hge
      gi_wp2_with fail
      refine wpIn_wide.2 ?_
      go_region
      gi_wp2_with fail
      obtain ⟨hi, hhi⟩ : ∃ hi : Int, hi = ((X / 18446744073709551616 : Nat) : Int) := ⟨_, rfl⟩
      obtain ⟨lo, hlo⟩ : ∃ lo : Int, lo = ((X % 18446744073709551616 : Nat) : Int) := ⟨_, rfl⟩
      obtain ⟨wf, hwf⟩ : ∃ wf, wf = (((W.setCell ⟨w.heap.size + 1, 0, none⟩ (.int .u64 ((X / 18446744073709551616 : Nat) : Int))).setCell ⟨w.heap.size + 1, 1, none⟩ (.int .u64 ((X % 18446744073709551616 : Nat) : Int))).setCell ⟨w.heap.size + 1 + 1, 0, none⟩ (.bool f)).drew := ⟨_, rfl⟩
      have g1 : W.grownBy (W.setCell ⟨w.heap.size + 1, 0, none⟩ (.int .u64 ((X / 18446744073709551616 : Nat) : Int))) (some (w.heap.size + 1)) := grown_set W ⟨w.heap.size + 1, 0, none⟩ _
      have g2 : (W.setCell ⟨w.heap.size + 1, 0, none⟩ (.int .u64 ((X / 18446744073709551616 : Nat) : Int))).grownBy ((W.setCell ⟨w.heap.size + 1, 0, none⟩ (.int .u64 ((X / 18446744073709551616 : Nat) : Int))).setCell ⟨w.heap.size + 1, 1, none⟩ (.int .u64 ((X % 18446744073709551616 : Nat) : Int))) (some (w.heap.size + 1)) := grown_set _ ⟨w.heap.size + 1, 1, none⟩ _
      have g12 := g1.trans g2
      have g3 : ((W.setCell ⟨w.heap.size + 1, 0, none⟩ (.int .u64 ((X / 18446744073709551616 : Nat) : Int))).setCell ⟨w.heap.size + 1, 1, none⟩ (.int .u64 ((X % 18446744073709551616 : Nat) : Int))).grownBy (((W.setCell ⟨w.heap.size + 1, 0, none⟩ (.int .u64 ((X / 18446744073709551616 : Nat) : Int))).setCell ⟨w.heap.size + 1, 1, none⟩ (.int .u64 ((X % 18446744073709551616 : Nat) : Int))).setCell ⟨w.heap.size + 1 + 1, 0, none⟩ (.bool f)) (some (w.heap.size + 1 + 1)) := grown_set _ ⟨w.heap.size + 1 + 1, 0, none⟩ _
      have hW2 : Wide2 ((W.setCell ⟨w.heap.size + 1, 0, none⟩ (.int .u64 ((X / 18446744073709551616 : Nat) : Int))).setCell ⟨w.heap.size + 1, 1, none⟩ (.int .u64 ((X % 18446744073709551616 : Nat) : Int))) (w.heap.size + 1) X := HI2.out.num.set _ _ _ rfl rfl
      have hIf : SomeU w c base X f wf := by
        rw [hwf]
        have q : SomeU w c base X f (((W.setCell ⟨w.heap.size + 1, 0, none⟩ (.int .u64 ((X / 18446744073709551616 : Nat) : Int))).setCell ⟨w.heap.size + 1, 1, none⟩ (.int .u64 ((X % 18446744073709551616 : Nat) : Int))).setCell ⟨w.heap.size + 1 + 1, 0, none⟩ (.bool f)) :=
          ⟨(HI2.out.base.kept g12 (by simp)).other (by omega) _, hW2.kept g3 (by simp), (HI2.out.fit.kept g12 (by simp)).set _, grown_step (grown_step HI2.out.grown g12 (.inr (by omega))) g3 (.inr (by omega))⟩
        exact ⟨q.base, ⟨q.num.hi, q.num.lo, q.num.free⟩, q.fit, q.grown.trans (grown_drewN _ 1 _)⟩
      have hCf : Cur wf c s st p m := by
        rw [hwf]
        exact ((HC2.out.kept g12 (by intro e; have := Option.some.inj e; omega)).kept g3 (by intro e; have := Option.some.inj e; omega)).drew 1
      have hKf : wf.heap[B]? = some (.deferred (some [])) := by
        rw [hwf]
        exact (((KeepsOthers.setCell W ⟨w.heap.size + 1, 0, none⟩ (.int .u64 ((X / 18446744073709551616 : Nat) : Int))).trans (KeepsOthers.setCell _ ⟨w.heap.size + 1, 1, none⟩ (.int .u64 ((X % 18446744073709551616 : Nat) : Int)))).trans (KeepsOthers.setCell _ ⟨w.heap.size + 1 + 1, 0, none⟩ (.bool f))).same _ _ HK.out rfl
      have hq1 : ((X / 18446744073709551616 : Nat) : Int) = (X : Int) / 18446744073709551616 := by omega
      have hq2 : ((X % 18446744073709551616 : Nat) : Int) = (X : Int) % 18446744073709551616 := by omega
      have hwf2 := hwf
      rw [hq1, hq2] at hwf2
      first | rw [← hwf] | rw [← hwf2]
      have hIz : SomeU w c base X f (wf.putObj B (.deferred none)) := hIf.kept (grownBy_putObj' _ _ _) (by omega) (by omega) (by omega) (.inr (by omega))
      have hCz : Cur (wf.putObj B (.deferred none)) c s st p m := hCf.kept (grownBy_putObj' _ _ _) (by intro e; have := Option.some.inj e; omega)
      refine ⟨by simp, .inl ⟨_, _, rfl, run_takeDeferred hKf, ?_⟩⟩
      have z1 := hIz.num.hi
      have z2 := hIz.num.lo
      have z3 := hIz.fit.cell
      refine ⟨.tuple #[.agg #[.int .u64 ((X / 18446744073709551616 : Nat) : Int), .int .u64 ((X % 18446744073709551616 : Nat) : Int)], .bool f], by simp [results, Tryz.results57, go_sem, z1, z2, z3], ⟨by omega, by rw [hq1, hq2, HX.out, HF.out], ?_⟩, hIz.grown⟩
      rw [← HP.out]
      exact hCz
  case pan =>
    intro hok B W hB hI hC hK
    refine ⟨by simp, .inl ⟨_, _, rfl, run_takeDeferred hK, ?_⟩⟩
    exact ⟨.inr ⟨.inl hok, rfl⟩, grown_step hI.grown (grownBy_putObj' _ _ _) (.inr (by omega))⟩

end Tk
end Go.Proofs.YtmphkifhnjfkmaaGreatDoor

namespace Go.Proofs.YtmphkifhnjfkmaaGreatDoor
open Go.ChangeShapes Go.WideShapes Go.ChangeAt Go.RowKit Go.WideMaps Go.Maps
namespace Tk

theorem run_ex (s : ByteArray) (a base : Nat) (ha : a ≤ s.size) : ∃ N ok, RunU s a N base ok :=
  runU_some s a base (by omega) (s.size + 1) 0 (by show s.size < s.size + 1 + a; omega) ha (fun j hj => by omega)

/-- What 'some' does, in the two forms in which the walks want it. -/
theorem some_ok (w : World) (s : ByteArray) (st a m c N base : Nat) (hs : s.size ≤ 20000) (hb : base < 100) (hR : RunU s a N base true) (hN : 1 ≤ N) (hc : Cur w c s st a m) :
    Calls Tryz.prog 57 #[.pointer (some ⟨c, 0, none⟩), .int .u64 base] w fun e w' => ∃ v f, e = .returned (.tuple #[v, .bool f]) ∧ v = .agg #[.int .u64 (((numW s a base N).1 / 18446744073709551616 : Nat) : Int), .int .u64 (((numW s a base N).1 % 18446744073709551616 : Nat) : Int)] ∧ f = (numW s a base N).2 ∧ Cur w' c s st (dpos s a N) m ∧ w.grownBy w' (some c) := by
  refine (some_total w s st a m c N base true hs hb hR hc).mono ?_
  rintro e w' ⟨⟨_, _, he, hcu⟩ | ⟨h, _⟩, hg⟩
  · exact ⟨_, _, he, rfl, rfl, hcu, hg⟩
  · rcases h with h | h
    · cases h
    · omega

theorem some_bad (w : World) (s : ByteArray) (st a m c N base : Nat) (ok : Bool) (hs : s.size ≤ 20000) (hb : base < 100) (hR : RunU s a N base ok) (hN : ok = false ∨ N = 0) (hc : Cur w c s st a m) :
    Calls Tryz.prog 57 #[.pointer (some ⟨c, 0, none⟩), .int .u64 base] w fun e w' => e = .panicked (faultC st 33) ∧ w.grownBy w' (some c) := by
  refine (some_total w s st a m c N base ok hs hb hR hc).mono ?_
  rintro e w' ⟨⟨h1, h2, _⟩ | ⟨_, he⟩, hg⟩
  · rcases hN with h | h
    · rw [h] at h1; cases h1
    · omega
  · exact ⟨he, hg⟩

/-- The place behind the sign of an exponent whose letter stands at a. -/
def signEnd (s : ByteArray) (a : Nat) : Nat := if byteAt s (a + 1) = 43 ∨ byteAt s (a + 1) = 45 then a + 2 else a + 1

/-- What an exponent is: none, or so many digits, or an error. -/
inductive Expo (s : ByteArray) (a : Nat) : Option (Bool × Nat) → Prop
  | no (h1 : byteAt s a ≠ 101) (h2 : byteAt s a ≠ 69) : Expo s a (some (false, a))
  | bad (h : byteAt s a = 101 ∨ byteAt s a = 69) (N : Nat) (ok : Bool) (hR : RunU s (signEnd s a) N 10 ok) (hN : ok = false ∨ N = 0) : Expo s a none
  | ok (h : byteAt s a = 101 ∨ byteAt s a = 69) (N : Nat) (hR : RunU s (signEnd s a) N 10 true) (hN : 1 ≤ N) : Expo s a (some (true, dpos s (signEnd s a) N))

/-- What a fraction with an exponent is. -/
inductive Frac (s : ByteArray) (a : Nat) : Option (Bool × Nat) → Prop
  | noPoint (h : ¬ (byteAt s a = 46 ∧ digB (byteAt s (a + 1)) = true)) (r : Option (Bool × Nat)) (he : Expo s a r) : Frac s a r
  | badPoint (h : byteAt s a = 46) (hd : digB (byteAt s (a + 1)) = true) (N : Nat) (ok : Bool) (hR : RunU s (a + 1) N 10 ok) (hN : ok = false ∨ N = 0) : Frac s a none
  | point (h : byteAt s a = 46) (hd : digB (byteAt s (a + 1)) = true) (N : Nat) (hR : RunU s (a + 1) N 10 true) (hN : 1 ≤ N) (r : Option (Bool × Nat)) (he : Expo s (dpos s (a + 1) N) r) : Frac s a (r.map fun x => (true, x.2))

theorem expo_ex (s : ByteArray) (a : Nat) (_ : a ≤ s.size) : ∃ r, Expo s a r := by
  by_cases h : byteAt s a = 101 ∨ byteAt s a = 69
  · have hlt : a < s.size := by rcases h with h | h
                                <;> (rcases Nat.lt_or_ge a s.size with h1 | h1; exact h1; rw [byteAt_out h1] at h; exact absurd h (by decide))
    have hse : signEnd s a ≤ s.size := by
      unfold signEnd
      split
      · rename_i hh
        have : a + 1 < s.size := by rcases hh with hh | hh
                                    <;> (rcases Nat.lt_or_ge (a + 1) s.size with h1 | h1; exact h1; rw [byteAt_out h1] at hh; exact absurd hh (by decide))
        omega
      · omega
    obtain ⟨N, ok, hR⟩ := run_ex s (signEnd s a) 10 hse
    by_cases hN : ok = false ∨ N = 0
    · exact ⟨_, .bad h N ok hR hN⟩
    · cases ok
      · exact absurd (.inl rfl) hN
      · exact ⟨_, .ok h N hR (by rcases Nat.eq_zero_or_pos N with h0 | h0; exact absurd (.inr h0) hN; exact h0)⟩
  · exact ⟨_, .no (fun e => h (.inl e)) (fun e => h (.inr e))⟩

theorem frac_ex (s : ByteArray) (a : Nat) (ha : a ≤ s.size) : ∃ r, Frac s a r := by
  by_cases h : byteAt s a = 46 ∧ digB (byteAt s (a + 1)) = true
  · have hlt : a < s.size := by
      rcases Nat.lt_or_ge a s.size with h1 | h1
      · exact h1
      · have := h.1; rw [byteAt_out h1] at this; exact absurd this (by decide)
    obtain ⟨N, ok, hR⟩ := run_ex s (a + 1) 10 (by omega)
    by_cases hN : ok = false ∨ N = 0
    · exact ⟨_, .badPoint h.1 h.2 N ok hR hN⟩
    · cases ok
      · exact absurd (.inl rfl) hN
      · obtain ⟨r, he⟩ := expo_ex s (dpos s (a + 1) N) hR.size
        exact ⟨_, .point h.1 h.2 N hR (by rcases Nat.eq_zero_or_pos N with h0 | h0; exact absurd (.inr h0) hN; exact h0) r he⟩
  · obtain ⟨r, he⟩ := expo_ex s a ha
    exact ⟨_, .noPoint h r he⟩

end Tk
end Go.Proofs.YtmphkifhnjfkmaaGreatDoor

namespace Go.Proofs.YtmphkifhnjfkmaaGreatDoor
open Go.ChangeShapes Go.WideShapes Go.ChangeAt Go.RowKit Go.WideMaps Go.Maps
namespace Tk

theorem runU_le {s : ByteArray} {a N N' : Nat} {base : Int} {ok ok' : Bool} (h : RunU s a N base ok) (h' : RunU s a N' base ok') : N' ≤ N := by
  rcases Nat.lt_or_ge N N' with hl | hl
  · exfalso
    cases ok
    · obtain ⟨_, h2, h3⟩ := h.bad rfl
      exact h3 (h'.und N hl h2)
    · exact h.stop rfl (h'.dig N hl)
  · exact hl

/-- The run of digits from a place on is unique. -/
theorem runU_one {s : ByteArray} {a N N' : Nat} {base : Int} {ok ok' : Bool} (h : RunU s a N base ok) (h' : RunU s a N' base ok') : N = N' ∧ ok = ok' := by
  have e : N = N' := Nat.le_antisymm (runU_le h' h) (runU_le h h')
  subst e
  refine ⟨rfl, ?_⟩
  cases ok
  · cases ok'
    · rfl
    · exact absurd (h.bad rfl).1 (h'.stop rfl)
  · cases ok'
    · exact absurd (h'.bad rfl).1 (h.stop rfl)
    · rfl

theorem runU_clash {s : ByteArray} {a N N' : Nat} {base : Int} {ok : Bool} (h : RunU s a N base ok) (hN : ok = false ∨ N = 0) (h' : RunU s a N' base true) (hN' : 1 ≤ N') : False := by
  obtain ⟨e1, e2⟩ := runU_one h h'
  rcases hN with hN | hN
  · rw [hN] at e2; cases e2
  · omega

/-- The exponent at a place is unique. -/
theorem expo_one {s : ByteArray} {a : Nat} {r r' : Option (Bool × Nat)} (h : Expo s a r) (h' : Expo s a r') : r = r' := by
  cases h with
  | no h1 h2 =>
    cases h' with
    | no _ _ => rfl
    | bad g _ _ _ _ => rcases g with g | g; exact absurd g h1; exact absurd g h2
    | ok g _ _ _ => rcases g with g | g; exact absurd g h1; exact absurd g h2
  | bad g N ok hR hN =>
    cases h' with
    | no h1 h2 => rcases g with g | g; exact absurd g h1; exact absurd g h2
    | bad _ _ _ _ _ => rfl
    | ok _ N' hR' hN' => exact (runU_clash hR hN hR' hN').elim
  | ok g N hR hN =>
    cases h' with
    | no h1 h2 => rcases g with g | g; exact absurd g h1; exact absurd g h2
    | bad _ N' ok' hR' hN' => exact (runU_clash hR' hN' hR hN).elim
    | ok _ N' hR' hN' =>
      obtain ⟨e, _⟩ := runU_one hR hR'
      rw [e]

/-- The fraction at a place is unique. -/
theorem frac_one {s : ByteArray} {a : Nat} {r r' : Option (Bool × Nat)} (h : Frac s a r) (h' : Frac s a r') : r = r' := by
  cases h with
  | noPoint g _ he =>
    cases h' with
    | noPoint _ _ he' => exact expo_one he he'
    | badPoint g1 g2 _ _ _ _ => exact absurd ⟨g1, g2⟩ g
    | point g1 g2 _ _ _ _ _ => exact absurd ⟨g1, g2⟩ g
  | badPoint g1 g2 N ok hR hN =>
    cases h' with
    | noPoint g _ _ => exact absurd ⟨g1, g2⟩ g
    | badPoint _ _ _ _ _ _ => rfl
    | point _ _ N' hR' hN' _ _ => exact (runU_clash hR hN hR' hN').elim
  | point g1 g2 N hR hN q he =>
    cases h' with
    | noPoint g _ _ => exact absurd ⟨g1, g2⟩ g
    | badPoint _ _ N' ok' hR' hN' => exact (runU_clash hR' hN' hR hN).elim
    | point _ _ N' hR' hN' q' he' =>
      obtain ⟨e, _⟩ := runU_one hR hR'
      subst e
      rw [expo_one he he']

end Tk
end Go.Proofs.YtmphkifhnjfkmaaGreatDoor
