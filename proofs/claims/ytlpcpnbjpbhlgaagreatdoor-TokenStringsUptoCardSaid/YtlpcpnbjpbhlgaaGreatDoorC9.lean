/- Quote of the reference. -/
import Derived.Test.YtlpcpnbjpbhlgaaGreatDoorC8
namespace Go.Proofs.YtlpcpnbjpbhlgaaGreatDoor
open Go.ChangeShapes Go.WideShapes Go.ChangeAt Go.RowKit
namespace Tk

def refT (x : UInt8) : Nat → List UInt8
  | 0 => if x.toNat < 32 || x.toNat == 127 then [92, 120, hexD (x.toNat / 16), hexD (x.toNat % 16)] else [x]
  | k + 1 => if x == ([10, 9, 13, 0, 92, 34] : List UInt8).getD k 0 then [92, ([110, 116, 114, 48, 92, 34] : List UInt8).getD k 0] else refT x k

theorem refT_same (x : UInt8) : refT x 6 = quoteOne x := by
  have hall : ((List.range 256).all fun n => refT (UInt8.ofNat n) 6 == quoteOne (UInt8.ofNat n)) = true := by decide +kernel
  have := List.all_eq_true.1 hall x.toNat (List.mem_range.2 x.toNat_lt)
  have hx : UInt8.ofNat x.toNat = x := UInt8.toNat_inj.1 (by rw [UInt8.toNat_ofNat']; have := x.toNat_lt; omega)
  rw [hx] at this
  simpa using this

def hexS : ByteArray := ⟨#[48, 49, 50, 51, 52, 53, 54, 55, 56, 57, 65, 66, 67, 68, 69, 70]⟩
theorem hexS_at (a : Nat) (h : a < 16) : hexS.extract a (a + 1) = ⟨#[hexD a]⟩ := by
  rw [extract_one hexS a h]
  have hall : ∀ a : Fin 16, hexS[a.1]'a.2 = hexD a.1 := by decide
  rw [hall ⟨a, h⟩]

theorem hex_text (a b : Nat) (ha : a < 16) (hb : b < 16) : (⟨#[92, 120]⟩ : ByteArray) ++ hexS.extract a (a + 1) ++ hexS.extract b (b + 1) = ⟨#[92, 120, hexD a, hexD b]⟩ := by
  rw [hexS_at a ha, hexS_at b hb]
  rfl

theorem ret_pair {a b : ByteArray} {z : Int} (h : a = b) : Ending.returned (.tuple #[.string a, .int .i64 z]) = .returned (.tuple #[.string b, .int .i64 z]) := by rw [h]

theorem refT_len (x : UInt8) : ∀ k, (refT x k).length ≤ 4
  | 0 => by unfold refT; split <;> simp
  | k + 1 => by unfold refT; split; simp; exact refT_len x k

set_option maxHeartbeats 4000000 in
set_option maxRecDepth 100000 in
theorem refQuote_any (s : ByteArray) (w : World) (hs : s.size ≤ 20000) (hT : Utf8T w) :
    Calls Tryz.prog 7 #[.string s] w fun e w' => e = .returned (if Lib.validD s.data.toList then .tuple #[.string ⟨(quoteAll s.data.toList).toArray⟩, .int .i64 0] else .tuple #[.string ⟨#[]⟩, .int .i64 2]) ∧ Below w.heap.size w w' := by
  have HT := Lib.hid hT
  clear hT
  cases hv : Lib.validD s.data.toList
  · have HV := Lib.hid hv
    clear hv
    go_enter Tryz.func7, Tryz.ntmps7
    go_wp2_with (go_at_call 16; refine (valid_any s _ (Nat.le_trans hs (by decide)) HT.out).mono ?_; rintro e w1 ⟨he, hb1⟩; rw [HV.out] at he; subst he)
    go_ret2
    exact ⟨rfl, hb1⟩
  · have HV := Lib.hid hv
    have hlen : s.data.toList.length = s.size := by rw [Array.length_toList]; rfl
    obtain ⟨l, hl⟩ : ∃ l, l = s.data.toList := ⟨_, rfl⟩
    rw [← hl] at hlen ⊢
    have HL := Lib.hid hl
    have HLen := Lib.hid hlen
    clear hv hl hlen
    go_enter Tryz.func7, Tryz.ntmps7
    go_wp2_with (go_at_call 16; refine (valid_any s _ (Nat.le_trans hs (by decide)) HT.out).mono ?_; rintro e w1 ⟨he, hb1⟩; rw [HV.out] at he; subst he)
    have HB1 := Lib.hid hb1
    clear hb1
    go_loopw [7, 8] (fun o i wr => ∃ (k n : Nat) (O : ByteArray), k ≤ s.size ∧ i = .int .i64 k ∧ o = .string O ∧ O = ⟨(34 :: (l.take k).flatMap quoteOne).toArray⟩ ∧ wr = w1.drewN n) (fun _ i _ => s.size - (intOf i).toNat)
    case atStart => exact ⟨0, 0, _, Nat.zero_le _, rfl, rfl, rfl, rfl⟩
    case round =>
      obtain ⟨k, n, O, hk, rfl, rfl, hO, rfl⟩ := hrel
      have hfl := flat_len (l.take k)
      have hlt' : (l.take k).length ≤ 20000 := by rw [List.length_take, HLen.out]; omega
      have hOs : O.size ≤ 80001 := by
        rw [hO]
        show (34 :: (l.take k).flatMap quoteOne).length ≤ _
        rw [List.length_cons]
        omega
      have HO := Lib.hid hO
      clear hfl hlt' hO
      by_cases hlt : k < s.size
      · have l1 : (k : Int) < s.size := by omega
        have l2 : (k : Int) + 1 ≤ s.size := by omega
        have l3 : (0 : Int) ≤ k := by omega
        have l5 : (k : Int) ≤ (k : Int) + 1 := by omega
        have e1 : IntKind.i64.wrap ((k : Int) + 1) = (k : Int) + 1 := IntWalk.i64_in _ (by omega)
        obtain ⟨x, hx⟩ : ∃ x, x = s[k]'hlt := ⟨_, rfl⟩
        have hex : s.extract k (k + 1) = ⟨#[x]⟩ := by rw [hx]; exact extract_one s k hlt
        have hidx : ∀ w : World, (Instr.index 9 (.string s) (.int .i64 k)).run Tryz.prog w = .ok (.int .u8 x.toNat) w := fun w => by rw [hx]; simp [go_sem, hlt]
        have HX := Lib.hid hx
        have HEx := Lib.hid hex
        clear hx hex
        by_cases h32 : x.toNat < 32
        · have m1 : (x.toNat : Int) < 32 := by omega
          have m0 : (0 : Int) ≤ x.toNat := by omega
          obtain ⟨a, ha⟩ : ∃ a, a = x.toNat / 16 := ⟨_, rfl⟩
          obtain ⟨b, hb⟩ : ∃ b, b = x.toNat % 16 := ⟨_, rfl⟩
          have d1 : (x.toNat : Int).tdiv 16 = a := by rw [ha]; exact Int.tdiv_eq_ediv_of_nonneg (by omega)
          have d2 : (x.toNat : Int).tmod 16 = b := by rw [hb]; exact Int.tmod_eq_emod_of_nonneg (by omega)
          have a1 : a < 16 := by omega
          have b1 : b < 16 := by omega
          have HA := Lib.hid ha
          have HB := Lib.hid hb
          clear ha hb
          have u1 : IntKind.u8.wrap (a : Int) = a := u8_in _ (by omega)
          have u2 : IntKind.u8.wrap ((a : Int) + 1) = (a : Int) + 1 := u8_in _ (by omega)
          have u3 : IntKind.u8.wrap (b : Int) = b := u8_in _ (by omega)
          have u4 : IntKind.u8.wrap ((b : Int) + 1) = (b : Int) + 1 := u8_in _ (by omega)
          have v1 : (0 : Int) ≤ a := by omega
          have v2 : (a : Int) ≤ (a : Int) + 1 := by omega
          have v3 : (a : Int) + 1 ≤ 16 := by omega
          have v4 : (0 : Int) ≤ b := by omega
          have v5 : (b : Int) ≤ (b : Int) + 1 := by omega
          have v6 : (b : Int) + 1 ≤ 16 := by omega
          go_wp2_with fail
          go_quiet (fail)
          go_wp2_with fail
          clear d1 d2 u1 u2 u3 u4 v1 v2 v3 v4 v5 v6
          clear m1
          obtain ⟨T, hT⟩ : ∃ T : ByteArray, T = (⟨#[92, 120]⟩ : ByteArray) ++ (⟨#[48, 49, 50, 51, 52, 53, 54, 55, 56, 57, 65, 66, 67, 68, 69, 70]⟩ : ByteArray).extract a (a + 1) ++ (⟨#[48, 49, 50, 51, 52, 53, 54, 55, 56, 57, 65, 66, 67, 68, 69, 70]⟩ : ByteArray).extract b (b + 1) := ⟨_, rfl⟩
          try rw [← hT]
          have hT0 : T = ⟨(refT x 0).toArray⟩ := by
            rw [hT]
            rw [show (⟨#[48, 49, 50, 51, 52, 53, 54, 55, 56, 57, 65, 66, 67, 68, 69, 70]⟩ : ByteArray) = hexS from rfl, hex_text a b a1 b1, HA.out, HB.out]
            unfold refT
            rw [if_pos (by simp; omega)]
          have HT0 := Lib.hid hT0
          clear hT hT0
          go_loopw [9, 10] (fun t j wr => ∃ (m n2 : Nat) (U : ByteArray), m ≤ 6 ∧ j = .int .i64 m ∧ t = .string U ∧ U = ⟨(refT x m).toArray⟩ ∧ wr = w1.drewN n2) (fun _ j _ => 6 - (intOf j).toNat)
          case atStart => exact ⟨0, _, T, by omega, rfl, rfl, HT0.out, World.drewN_drewN _ _ _⟩
          case round =>
            obtain ⟨m, n2, U, hm, rfl, rfl, hU, rfl⟩ := hrel
            have HU := Lib.hid hU
            clear hU
            by_cases hm6 : m < 6
            · have hr : refT x (m + 1) = if x == ([10, 9, 13, 0, 92, 34] : List UInt8).getD m 0 then [92, ([110, 116, 114, 48, 92, 34] : List UInt8).getD m 0] else refT x m := rfl
              have HR := Lib.hid hr
              clear hr hm
              obtain hm' : m = 0 ∨ m = 1 ∨ m = 2 ∨ m = 3 ∨ m = 4 ∨ m = 5 := by omega
              clear hm6
              rcases hm' with rfl | rfl | rfl | rfl | rfl | rfl
              · have hby : ∀ w : World, (Instr.index 9 (.string ⟨#[10, 9, 13, 0, 92, 34]⟩) (.int .i64 0)).run Tryz.prog w = .ok (.int .u8 10) w := fun w => by simp [go_sem]; rfl
                by_cases hc : x = 10
                · have HC := Lib.hid hc
                  have hc2 : ((x.toNat : Int) == 10) = true := by rw [hc]; rfl
                  clear hc
                  go_wp2_with fail
                  go_quiet (fail)
                  go_wp2_with fail
                  exact ⟨⟨0 + 1, _, _, by omega, by go_num, rfl, by rw [HR.out, HC.out]; rfl, rfl⟩, by simp [intOf]⟩
                · have HC := Lib.hid hc
                  have hc2 : ((x.toNat : Int) == 10) = false := by
                    rw [Bool.eq_false_iff]
                    intro h
                    apply hc
                    have h2 : (x.toNat : Int) = 10 := by simpa using h
                    exact UInt8.toNat_inj.1 (by rw [show UInt8.toNat 10 = 10 from rfl]; omega)
                  clear hc
                  go_wp2_with fail
                  go_quiet (fail)
                  go_wp2_with fail
                  exact ⟨⟨0 + 1, _, U, by omega, by go_num, rfl, by rw [HR.out, if_neg (by simpa using HC.out)]; exact HU.out, rfl⟩, by simp [intOf]⟩
              · have hby : ∀ w : World, (Instr.index 9 (.string ⟨#[10, 9, 13, 0, 92, 34]⟩) (.int .i64 1)).run Tryz.prog w = .ok (.int .u8 9) w := fun w => by simp [go_sem]; rfl
                by_cases hc : x = 9
                · have HC := Lib.hid hc
                  have hc2 : ((x.toNat : Int) == 9) = true := by rw [hc]; rfl
                  clear hc
                  go_wp2_with fail
                  go_quiet (fail)
                  go_wp2_with fail
                  exact ⟨⟨1 + 1, _, _, by omega, by go_num, rfl, by rw [HR.out, HC.out]; rfl, rfl⟩, by simp [intOf]⟩
                · have HC := Lib.hid hc
                  have hc2 : ((x.toNat : Int) == 9) = false := by
                    rw [Bool.eq_false_iff]
                    intro h
                    apply hc
                    have h2 : (x.toNat : Int) = 9 := by simpa using h
                    exact UInt8.toNat_inj.1 (by rw [show UInt8.toNat 9 = 9 from rfl]; omega)
                  clear hc
                  go_wp2_with fail
                  go_quiet (fail)
                  go_wp2_with fail
                  exact ⟨⟨1 + 1, _, U, by omega, by go_num, rfl, by rw [HR.out, if_neg (by simpa using HC.out)]; exact HU.out, rfl⟩, by simp [intOf]⟩
              · have hby : ∀ w : World, (Instr.index 9 (.string ⟨#[10, 9, 13, 0, 92, 34]⟩) (.int .i64 2)).run Tryz.prog w = .ok (.int .u8 13) w := fun w => by simp [go_sem]; rfl
                by_cases hc : x = 13
                · have HC := Lib.hid hc
                  have hc2 : ((x.toNat : Int) == 13) = true := by rw [hc]; rfl
                  clear hc
                  go_wp2_with fail
                  go_quiet (fail)
                  go_wp2_with fail
                  exact ⟨⟨2 + 1, _, _, by omega, by go_num, rfl, by rw [HR.out, HC.out]; rfl, rfl⟩, by simp [intOf]⟩
                · have HC := Lib.hid hc
                  have hc2 : ((x.toNat : Int) == 13) = false := by
                    rw [Bool.eq_false_iff]
                    intro h
                    apply hc
                    have h2 : (x.toNat : Int) = 13 := by simpa using h
                    exact UInt8.toNat_inj.1 (by rw [show UInt8.toNat 13 = 13 from rfl]; omega)
                  clear hc
                  go_wp2_with fail
                  go_quiet (fail)
                  go_wp2_with fail
                  exact ⟨⟨2 + 1, _, U, by omega, by go_num, rfl, by rw [HR.out, if_neg (by simpa using HC.out)]; exact HU.out, rfl⟩, by simp [intOf]⟩
              · have hby : ∀ w : World, (Instr.index 9 (.string ⟨#[10, 9, 13, 0, 92, 34]⟩) (.int .i64 3)).run Tryz.prog w = .ok (.int .u8 0) w := fun w => by simp [go_sem]; rfl
                by_cases hc : x = 0
                · have HC := Lib.hid hc
                  have hc2 : ((x.toNat : Int) == 0) = true := by rw [hc]; rfl
                  clear hc
                  go_wp2_with fail
                  go_quiet (fail)
                  go_wp2_with fail
                  exact ⟨⟨3 + 1, _, _, by omega, by go_num, rfl, by rw [HR.out, HC.out]; rfl, rfl⟩, by simp [intOf]⟩
                · have HC := Lib.hid hc
                  have hc2 : ((x.toNat : Int) == 0) = false := by
                    rw [Bool.eq_false_iff]
                    intro h
                    apply hc
                    have h2 : (x.toNat : Int) = 0 := by simpa using h
                    exact UInt8.toNat_inj.1 (by rw [show UInt8.toNat 0 = 0 from rfl]; omega)
                  clear hc
                  go_wp2_with fail
                  go_quiet (fail)
                  go_wp2_with fail
                  exact ⟨⟨3 + 1, _, U, by omega, by go_num, rfl, by rw [HR.out, if_neg (by simpa using HC.out)]; exact HU.out, rfl⟩, by simp [intOf]⟩
              · have hby : ∀ w : World, (Instr.index 9 (.string ⟨#[10, 9, 13, 0, 92, 34]⟩) (.int .i64 4)).run Tryz.prog w = .ok (.int .u8 92) w := fun w => by simp [go_sem]; rfl
                by_cases hc : x = 92
                · have HC := Lib.hid hc
                  have hc2 : ((x.toNat : Int) == 92) = true := by rw [hc]; rfl
                  clear hc
                  go_wp2_with fail
                  go_quiet (fail)
                  go_wp2_with fail
                  exact ⟨⟨4 + 1, _, _, by omega, by go_num, rfl, by rw [HR.out, HC.out]; rfl, rfl⟩, by simp [intOf]⟩
                · have HC := Lib.hid hc
                  have hc2 : ((x.toNat : Int) == 92) = false := by
                    rw [Bool.eq_false_iff]
                    intro h
                    apply hc
                    have h2 : (x.toNat : Int) = 92 := by simpa using h
                    exact UInt8.toNat_inj.1 (by rw [show UInt8.toNat 92 = 92 from rfl]; omega)
                  clear hc
                  go_wp2_with fail
                  go_quiet (fail)
                  go_wp2_with fail
                  exact ⟨⟨4 + 1, _, U, by omega, by go_num, rfl, by rw [HR.out, if_neg (by simpa using HC.out)]; exact HU.out, rfl⟩, by simp [intOf]⟩
              · have hby : ∀ w : World, (Instr.index 9 (.string ⟨#[10, 9, 13, 0, 92, 34]⟩) (.int .i64 5)).run Tryz.prog w = .ok (.int .u8 34) w := fun w => by simp [go_sem]; rfl
                by_cases hc : x = 34
                · have HC := Lib.hid hc
                  have hc2 : ((x.toNat : Int) == 34) = true := by rw [hc]; rfl
                  clear hc
                  go_wp2_with fail
                  go_quiet (fail)
                  go_wp2_with fail
                  exact ⟨⟨5 + 1, _, _, by omega, by go_num, rfl, by rw [HR.out, HC.out]; rfl, rfl⟩, by simp [intOf]⟩
                · have HC := Lib.hid hc
                  have hc2 : ((x.toNat : Int) == 34) = false := by
                    rw [Bool.eq_false_iff]
                    intro h
                    apply hc
                    have h2 : (x.toNat : Int) = 34 := by simpa using h
                    exact UInt8.toNat_inj.1 (by rw [show UInt8.toNat 34 = 34 from rfl]; omega)
                  clear hc
                  go_wp2_with fail
                  go_quiet (fail)
                  go_wp2_with fail
                  exact ⟨⟨5 + 1, _, U, by omega, by go_num, rfl, by rw [HR.out, if_neg (by simpa using HC.out)]; exact HU.out, rfl⟩, by simp [intOf]⟩
            · obtain rfl : m = 6 := by omega
              have hUs : U.size ≤ 4 := by
                rw [HU.out]
                exact refT_len x 6
              go_wp2_with fail
              refine ⟨⟨k + 1, n2, O ++ U, by omega, by go_num, rfl, ?_, rfl⟩, by simp [intOf]; omega⟩
              rw [HO.out, HU.out, refT_same]
              have hkl : k < l.length := by rw [HLen.out]; exact hlt
              have ht : l.take (k + 1) = l.take k ++ [x] := by
                rw [List.take_succ_eq_append_getElem hkl, HX.out]
                congr 2
                simp only [HL.out]
                rfl
              rw [ht, List.flatMap_append]
              apply ByteArray.ext
              simp
        · have m1 : ¬ (x.toNat : Int) < 32 := by omega
          have m0 : (0 : Int) ≤ x.toNat := by omega
          by_cases h127 : x.toNat = 127
          · have m2 : ((x.toNat : Int) == 127) = true := by rw [h127]; rfl
            have H127 := Lib.hid h127
            have hxl : x.toNat < 256 := x.toNat_lt
            clear h127
            obtain ⟨a, ha⟩ : ∃ a, a = x.toNat / 16 := ⟨_, rfl⟩
            obtain ⟨b, hb⟩ : ∃ b, b = x.toNat % 16 := ⟨_, rfl⟩
            have d1 : (x.toNat : Int).tdiv 16 = a := by rw [ha]; exact Int.tdiv_eq_ediv_of_nonneg (by omega)
            have d2 : (x.toNat : Int).tmod 16 = b := by rw [hb]; exact Int.tmod_eq_emod_of_nonneg (by omega)
            have a1 : a < 16 := by omega
            have b1 : b < 16 := by omega
            have HA := Lib.hid ha
            have HB := Lib.hid hb
            clear ha hb
            have u1 : IntKind.u8.wrap (a : Int) = a := u8_in _ (by omega)
            have u2 : IntKind.u8.wrap ((a : Int) + 1) = (a : Int) + 1 := u8_in _ (by omega)
            have u3 : IntKind.u8.wrap (b : Int) = b := u8_in _ (by omega)
            have u4 : IntKind.u8.wrap ((b : Int) + 1) = (b : Int) + 1 := u8_in _ (by omega)
            have v1 : (0 : Int) ≤ a := by omega
            have v2 : (a : Int) ≤ (a : Int) + 1 := by omega
            have v3 : (a : Int) + 1 ≤ 16 := by omega
            have v4 : (0 : Int) ≤ b := by omega
            have v5 : (b : Int) ≤ (b : Int) + 1 := by omega
            have v6 : (b : Int) + 1 ≤ 16 := by omega
            go_wp2_with fail
            go_quiet (fail)
            go_wp2_with fail
            clear d1 d2 u1 u2 u3 u4 v1 v2 v3 v4 v5 v6
            clear m1 m2
            obtain ⟨T, hT⟩ : ∃ T : ByteArray, T = (⟨#[92, 120]⟩ : ByteArray) ++ (⟨#[48, 49, 50, 51, 52, 53, 54, 55, 56, 57, 65, 66, 67, 68, 69, 70]⟩ : ByteArray).extract a (a + 1) ++ (⟨#[48, 49, 50, 51, 52, 53, 54, 55, 56, 57, 65, 66, 67, 68, 69, 70]⟩ : ByteArray).extract b (b + 1) := ⟨_, rfl⟩
            try rw [← hT]
            have hT0 : T = ⟨(refT x 0).toArray⟩ := by
              rw [hT]
              rw [show (⟨#[48, 49, 50, 51, 52, 53, 54, 55, 56, 57, 65, 66, 67, 68, 69, 70]⟩ : ByteArray) = hexS from rfl, hex_text a b a1 b1, HA.out, HB.out]
              unfold refT
              rw [if_pos (by have := H127.out; simp [this])]
            have HT0 := Lib.hid hT0
            clear hT hT0
            go_loopw [9, 10] (fun t j wr => ∃ (m n2 : Nat) (U : ByteArray), m ≤ 6 ∧ j = .int .i64 m ∧ t = .string U ∧ U = ⟨(refT x m).toArray⟩ ∧ wr = w1.drewN n2) (fun _ j _ => 6 - (intOf j).toNat)
            case atStart => exact ⟨0, _, T, by omega, rfl, rfl, HT0.out, World.drewN_drewN _ _ _⟩
            case round =>
              obtain ⟨m, n2, U, hm, rfl, rfl, hU, rfl⟩ := hrel
              have HU := Lib.hid hU
              clear hU
              by_cases hm6 : m < 6
              · have hr : refT x (m + 1) = if x == ([10, 9, 13, 0, 92, 34] : List UInt8).getD m 0 then [92, ([110, 116, 114, 48, 92, 34] : List UInt8).getD m 0] else refT x m := rfl
                have HR := Lib.hid hr
                clear hr hm
                obtain hm' : m = 0 ∨ m = 1 ∨ m = 2 ∨ m = 3 ∨ m = 4 ∨ m = 5 := by omega
                clear hm6
                rcases hm' with rfl | rfl | rfl | rfl | rfl | rfl
                · have hby : ∀ w : World, (Instr.index 9 (.string ⟨#[10, 9, 13, 0, 92, 34]⟩) (.int .i64 0)).run Tryz.prog w = .ok (.int .u8 10) w := fun w => by simp [go_sem]; rfl
                  by_cases hc : x = 10
                  · have HC := Lib.hid hc
                    have hc2 : ((x.toNat : Int) == 10) = true := by rw [hc]; rfl
                    clear hc
                    go_wp2_with fail
                    go_quiet (fail)
                    go_wp2_with fail
                    exact ⟨⟨0 + 1, _, _, by omega, by go_num, rfl, by rw [HR.out, HC.out]; rfl, rfl⟩, by simp [intOf]⟩
                  · have HC := Lib.hid hc
                    have hc2 : ((x.toNat : Int) == 10) = false := by
                      rw [Bool.eq_false_iff]
                      intro h
                      apply hc
                      have h2 : (x.toNat : Int) = 10 := by simpa using h
                      exact UInt8.toNat_inj.1 (by rw [show UInt8.toNat 10 = 10 from rfl]; omega)
                    clear hc
                    go_wp2_with fail
                    go_quiet (fail)
                    go_wp2_with fail
                    exact ⟨⟨0 + 1, _, U, by omega, by go_num, rfl, by rw [HR.out, if_neg (by simpa using HC.out)]; exact HU.out, rfl⟩, by simp [intOf]⟩
                · have hby : ∀ w : World, (Instr.index 9 (.string ⟨#[10, 9, 13, 0, 92, 34]⟩) (.int .i64 1)).run Tryz.prog w = .ok (.int .u8 9) w := fun w => by simp [go_sem]; rfl
                  by_cases hc : x = 9
                  · have HC := Lib.hid hc
                    have hc2 : ((x.toNat : Int) == 9) = true := by rw [hc]; rfl
                    clear hc
                    go_wp2_with fail
                    go_quiet (fail)
                    go_wp2_with fail
                    exact ⟨⟨1 + 1, _, _, by omega, by go_num, rfl, by rw [HR.out, HC.out]; rfl, rfl⟩, by simp [intOf]⟩
                  · have HC := Lib.hid hc
                    have hc2 : ((x.toNat : Int) == 9) = false := by
                      rw [Bool.eq_false_iff]
                      intro h
                      apply hc
                      have h2 : (x.toNat : Int) = 9 := by simpa using h
                      exact UInt8.toNat_inj.1 (by rw [show UInt8.toNat 9 = 9 from rfl]; omega)
                    clear hc
                    go_wp2_with fail
                    go_quiet (fail)
                    go_wp2_with fail
                    exact ⟨⟨1 + 1, _, U, by omega, by go_num, rfl, by rw [HR.out, if_neg (by simpa using HC.out)]; exact HU.out, rfl⟩, by simp [intOf]⟩
                · have hby : ∀ w : World, (Instr.index 9 (.string ⟨#[10, 9, 13, 0, 92, 34]⟩) (.int .i64 2)).run Tryz.prog w = .ok (.int .u8 13) w := fun w => by simp [go_sem]; rfl
                  by_cases hc : x = 13
                  · have HC := Lib.hid hc
                    have hc2 : ((x.toNat : Int) == 13) = true := by rw [hc]; rfl
                    clear hc
                    go_wp2_with fail
                    go_quiet (fail)
                    go_wp2_with fail
                    exact ⟨⟨2 + 1, _, _, by omega, by go_num, rfl, by rw [HR.out, HC.out]; rfl, rfl⟩, by simp [intOf]⟩
                  · have HC := Lib.hid hc
                    have hc2 : ((x.toNat : Int) == 13) = false := by
                      rw [Bool.eq_false_iff]
                      intro h
                      apply hc
                      have h2 : (x.toNat : Int) = 13 := by simpa using h
                      exact UInt8.toNat_inj.1 (by rw [show UInt8.toNat 13 = 13 from rfl]; omega)
                    clear hc
                    go_wp2_with fail
                    go_quiet (fail)
                    go_wp2_with fail
                    exact ⟨⟨2 + 1, _, U, by omega, by go_num, rfl, by rw [HR.out, if_neg (by simpa using HC.out)]; exact HU.out, rfl⟩, by simp [intOf]⟩
                · have hby : ∀ w : World, (Instr.index 9 (.string ⟨#[10, 9, 13, 0, 92, 34]⟩) (.int .i64 3)).run Tryz.prog w = .ok (.int .u8 0) w := fun w => by simp [go_sem]; rfl
                  by_cases hc : x = 0
                  · have HC := Lib.hid hc
                    have hc2 : ((x.toNat : Int) == 0) = true := by rw [hc]; rfl
                    clear hc
                    go_wp2_with fail
                    go_quiet (fail)
                    go_wp2_with fail
                    exact ⟨⟨3 + 1, _, _, by omega, by go_num, rfl, by rw [HR.out, HC.out]; rfl, rfl⟩, by simp [intOf]⟩
                  · have HC := Lib.hid hc
                    have hc2 : ((x.toNat : Int) == 0) = false := by
                      rw [Bool.eq_false_iff]
                      intro h
                      apply hc
                      have h2 : (x.toNat : Int) = 0 := by simpa using h
                      exact UInt8.toNat_inj.1 (by rw [show UInt8.toNat 0 = 0 from rfl]; omega)
                    clear hc
                    go_wp2_with fail
                    go_quiet (fail)
                    go_wp2_with fail
                    exact ⟨⟨3 + 1, _, U, by omega, by go_num, rfl, by rw [HR.out, if_neg (by simpa using HC.out)]; exact HU.out, rfl⟩, by simp [intOf]⟩
                · have hby : ∀ w : World, (Instr.index 9 (.string ⟨#[10, 9, 13, 0, 92, 34]⟩) (.int .i64 4)).run Tryz.prog w = .ok (.int .u8 92) w := fun w => by simp [go_sem]; rfl
                  by_cases hc : x = 92
                  · have HC := Lib.hid hc
                    have hc2 : ((x.toNat : Int) == 92) = true := by rw [hc]; rfl
                    clear hc
                    go_wp2_with fail
                    go_quiet (fail)
                    go_wp2_with fail
                    exact ⟨⟨4 + 1, _, _, by omega, by go_num, rfl, by rw [HR.out, HC.out]; rfl, rfl⟩, by simp [intOf]⟩
                  · have HC := Lib.hid hc
                    have hc2 : ((x.toNat : Int) == 92) = false := by
                      rw [Bool.eq_false_iff]
                      intro h
                      apply hc
                      have h2 : (x.toNat : Int) = 92 := by simpa using h
                      exact UInt8.toNat_inj.1 (by rw [show UInt8.toNat 92 = 92 from rfl]; omega)
                    clear hc
                    go_wp2_with fail
                    go_quiet (fail)
                    go_wp2_with fail
                    exact ⟨⟨4 + 1, _, U, by omega, by go_num, rfl, by rw [HR.out, if_neg (by simpa using HC.out)]; exact HU.out, rfl⟩, by simp [intOf]⟩
                · have hby : ∀ w : World, (Instr.index 9 (.string ⟨#[10, 9, 13, 0, 92, 34]⟩) (.int .i64 5)).run Tryz.prog w = .ok (.int .u8 34) w := fun w => by simp [go_sem]; rfl
                  by_cases hc : x = 34
                  · have HC := Lib.hid hc
                    have hc2 : ((x.toNat : Int) == 34) = true := by rw [hc]; rfl
                    clear hc
                    go_wp2_with fail
                    go_quiet (fail)
                    go_wp2_with fail
                    exact ⟨⟨5 + 1, _, _, by omega, by go_num, rfl, by rw [HR.out, HC.out]; rfl, rfl⟩, by simp [intOf]⟩
                  · have HC := Lib.hid hc
                    have hc2 : ((x.toNat : Int) == 34) = false := by
                      rw [Bool.eq_false_iff]
                      intro h
                      apply hc
                      have h2 : (x.toNat : Int) = 34 := by simpa using h
                      exact UInt8.toNat_inj.1 (by rw [show UInt8.toNat 34 = 34 from rfl]; omega)
                    clear hc
                    go_wp2_with fail
                    go_quiet (fail)
                    go_wp2_with fail
                    exact ⟨⟨5 + 1, _, U, by omega, by go_num, rfl, by rw [HR.out, if_neg (by simpa using HC.out)]; exact HU.out, rfl⟩, by simp [intOf]⟩
              · obtain rfl : m = 6 := by omega
                have hUs : U.size ≤ 4 := by
                  rw [HU.out]
                  exact refT_len x 6
                go_wp2_with fail
                refine ⟨⟨k + 1, n2, O ++ U, by omega, by go_num, rfl, ?_, rfl⟩, by simp [intOf]; omega⟩
                rw [HO.out, HU.out, refT_same]
                have hkl : k < l.length := by rw [HLen.out]; exact hlt
                have ht : l.take (k + 1) = l.take k ++ [x] := by
                  rw [List.take_succ_eq_append_getElem hkl, HX.out]
                  congr 2
                  simp only [HL.out]
                  rfl
                rw [ht, List.flatMap_append]
                apply ByteArray.ext
                simp
          · have m2 : ((x.toNat : Int) == 127) = false := by simp; omega
            have H127 := Lib.hid h127
            clear h127
            go_wp2_with fail
            clear m1 m2
            rw [HEx.out]
            obtain ⟨T, hT⟩ : ∃ T : ByteArray, T = ⟨#[x]⟩ := ⟨_, rfl⟩
            try rw [← hT]
            have hT0 : T = ⟨(refT x 0).toArray⟩ := by
              rw [hT]
              unfold refT
              rw [if_neg (by have := H127.out; simp; omega)]
            have HT0 := Lib.hid hT0
            clear hT hT0
            go_loopw [9, 10] (fun t j wr => ∃ (m n2 : Nat) (U : ByteArray), m ≤ 6 ∧ j = .int .i64 m ∧ t = .string U ∧ U = ⟨(refT x m).toArray⟩ ∧ wr = w1.drewN n2) (fun _ j _ => 6 - (intOf j).toNat)
            case atStart => exact ⟨0, _, T, by omega, rfl, rfl, HT0.out, rfl⟩
            case round =>
              obtain ⟨m, n2, U, hm, rfl, rfl, hU, rfl⟩ := hrel
              have HU := Lib.hid hU
              clear hU
              by_cases hm6 : m < 6
              · have hr : refT x (m + 1) = if x == ([10, 9, 13, 0, 92, 34] : List UInt8).getD m 0 then [92, ([110, 116, 114, 48, 92, 34] : List UInt8).getD m 0] else refT x m := rfl
                have HR := Lib.hid hr
                clear hr hm
                obtain hm' : m = 0 ∨ m = 1 ∨ m = 2 ∨ m = 3 ∨ m = 4 ∨ m = 5 := by omega
                clear hm6
                rcases hm' with rfl | rfl | rfl | rfl | rfl | rfl
                · have hby : ∀ w : World, (Instr.index 9 (.string ⟨#[10, 9, 13, 0, 92, 34]⟩) (.int .i64 0)).run Tryz.prog w = .ok (.int .u8 10) w := fun w => by simp [go_sem]; rfl
                  by_cases hc : x = 10
                  · have HC := Lib.hid hc
                    have hc2 : ((x.toNat : Int) == 10) = true := by rw [hc]; rfl
                    clear hc
                    go_wp2_with fail
                    go_quiet (fail)
                    go_wp2_with fail
                    exact ⟨⟨0 + 1, _, _, by omega, by go_num, rfl, by rw [HR.out, HC.out]; rfl, rfl⟩, by simp [intOf]⟩
                  · have HC := Lib.hid hc
                    have hc2 : ((x.toNat : Int) == 10) = false := by
                      rw [Bool.eq_false_iff]
                      intro h
                      apply hc
                      have h2 : (x.toNat : Int) = 10 := by simpa using h
                      exact UInt8.toNat_inj.1 (by rw [show UInt8.toNat 10 = 10 from rfl]; omega)
                    clear hc
                    go_wp2_with fail
                    go_quiet (fail)
                    go_wp2_with fail
                    exact ⟨⟨0 + 1, _, U, by omega, by go_num, rfl, by rw [HR.out, if_neg (by simpa using HC.out)]; exact HU.out, rfl⟩, by simp [intOf]⟩
                · have hby : ∀ w : World, (Instr.index 9 (.string ⟨#[10, 9, 13, 0, 92, 34]⟩) (.int .i64 1)).run Tryz.prog w = .ok (.int .u8 9) w := fun w => by simp [go_sem]; rfl
                  by_cases hc : x = 9
                  · have HC := Lib.hid hc
                    have hc2 : ((x.toNat : Int) == 9) = true := by rw [hc]; rfl
                    clear hc
                    go_wp2_with fail
                    go_quiet (fail)
                    go_wp2_with fail
                    exact ⟨⟨1 + 1, _, _, by omega, by go_num, rfl, by rw [HR.out, HC.out]; rfl, rfl⟩, by simp [intOf]⟩
                  · have HC := Lib.hid hc
                    have hc2 : ((x.toNat : Int) == 9) = false := by
                      rw [Bool.eq_false_iff]
                      intro h
                      apply hc
                      have h2 : (x.toNat : Int) = 9 := by simpa using h
                      exact UInt8.toNat_inj.1 (by rw [show UInt8.toNat 9 = 9 from rfl]; omega)
                    clear hc
                    go_wp2_with fail
                    go_quiet (fail)
                    go_wp2_with fail
                    exact ⟨⟨1 + 1, _, U, by omega, by go_num, rfl, by rw [HR.out, if_neg (by simpa using HC.out)]; exact HU.out, rfl⟩, by simp [intOf]⟩
                · have hby : ∀ w : World, (Instr.index 9 (.string ⟨#[10, 9, 13, 0, 92, 34]⟩) (.int .i64 2)).run Tryz.prog w = .ok (.int .u8 13) w := fun w => by simp [go_sem]; rfl
                  by_cases hc : x = 13
                  · have HC := Lib.hid hc
                    have hc2 : ((x.toNat : Int) == 13) = true := by rw [hc]; rfl
                    clear hc
                    go_wp2_with fail
                    go_quiet (fail)
                    go_wp2_with fail
                    exact ⟨⟨2 + 1, _, _, by omega, by go_num, rfl, by rw [HR.out, HC.out]; rfl, rfl⟩, by simp [intOf]⟩
                  · have HC := Lib.hid hc
                    have hc2 : ((x.toNat : Int) == 13) = false := by
                      rw [Bool.eq_false_iff]
                      intro h
                      apply hc
                      have h2 : (x.toNat : Int) = 13 := by simpa using h
                      exact UInt8.toNat_inj.1 (by rw [show UInt8.toNat 13 = 13 from rfl]; omega)
                    clear hc
                    go_wp2_with fail
                    go_quiet (fail)
                    go_wp2_with fail
                    exact ⟨⟨2 + 1, _, U, by omega, by go_num, rfl, by rw [HR.out, if_neg (by simpa using HC.out)]; exact HU.out, rfl⟩, by simp [intOf]⟩
                · have hby : ∀ w : World, (Instr.index 9 (.string ⟨#[10, 9, 13, 0, 92, 34]⟩) (.int .i64 3)).run Tryz.prog w = .ok (.int .u8 0) w := fun w => by simp [go_sem]; rfl
                  by_cases hc : x = 0
                  · have HC := Lib.hid hc
                    have hc2 : ((x.toNat : Int) == 0) = true := by rw [hc]; rfl
                    clear hc
                    go_wp2_with fail
                    go_quiet (fail)
                    go_wp2_with fail
                    exact ⟨⟨3 + 1, _, _, by omega, by go_num, rfl, by rw [HR.out, HC.out]; rfl, rfl⟩, by simp [intOf]⟩
                  · have HC := Lib.hid hc
                    have hc2 : ((x.toNat : Int) == 0) = false := by
                      rw [Bool.eq_false_iff]
                      intro h
                      apply hc
                      have h2 : (x.toNat : Int) = 0 := by simpa using h
                      exact UInt8.toNat_inj.1 (by rw [show UInt8.toNat 0 = 0 from rfl]; omega)
                    clear hc
                    go_wp2_with fail
                    go_quiet (fail)
                    go_wp2_with fail
                    exact ⟨⟨3 + 1, _, U, by omega, by go_num, rfl, by rw [HR.out, if_neg (by simpa using HC.out)]; exact HU.out, rfl⟩, by simp [intOf]⟩
                · have hby : ∀ w : World, (Instr.index 9 (.string ⟨#[10, 9, 13, 0, 92, 34]⟩) (.int .i64 4)).run Tryz.prog w = .ok (.int .u8 92) w := fun w => by simp [go_sem]; rfl
                  by_cases hc : x = 92
                  · have HC := Lib.hid hc
                    have hc2 : ((x.toNat : Int) == 92) = true := by rw [hc]; rfl
                    clear hc
                    go_wp2_with fail
                    go_quiet (fail)
                    go_wp2_with fail
                    exact ⟨⟨4 + 1, _, _, by omega, by go_num, rfl, by rw [HR.out, HC.out]; rfl, rfl⟩, by simp [intOf]⟩
                  · have HC := Lib.hid hc
                    have hc2 : ((x.toNat : Int) == 92) = false := by
                      rw [Bool.eq_false_iff]
                      intro h
                      apply hc
                      have h2 : (x.toNat : Int) = 92 := by simpa using h
                      exact UInt8.toNat_inj.1 (by rw [show UInt8.toNat 92 = 92 from rfl]; omega)
                    clear hc
                    go_wp2_with fail
                    go_quiet (fail)
                    go_wp2_with fail
                    exact ⟨⟨4 + 1, _, U, by omega, by go_num, rfl, by rw [HR.out, if_neg (by simpa using HC.out)]; exact HU.out, rfl⟩, by simp [intOf]⟩
                · have hby : ∀ w : World, (Instr.index 9 (.string ⟨#[10, 9, 13, 0, 92, 34]⟩) (.int .i64 5)).run Tryz.prog w = .ok (.int .u8 34) w := fun w => by simp [go_sem]; rfl
                  by_cases hc : x = 34
                  · have HC := Lib.hid hc
                    have hc2 : ((x.toNat : Int) == 34) = true := by rw [hc]; rfl
                    clear hc
                    go_wp2_with fail
                    go_quiet (fail)
                    go_wp2_with fail
                    exact ⟨⟨5 + 1, _, _, by omega, by go_num, rfl, by rw [HR.out, HC.out]; rfl, rfl⟩, by simp [intOf]⟩
                  · have HC := Lib.hid hc
                    have hc2 : ((x.toNat : Int) == 34) = false := by
                      rw [Bool.eq_false_iff]
                      intro h
                      apply hc
                      have h2 : (x.toNat : Int) = 34 := by simpa using h
                      exact UInt8.toNat_inj.1 (by rw [show UInt8.toNat 34 = 34 from rfl]; omega)
                    clear hc
                    go_wp2_with fail
                    go_quiet (fail)
                    go_wp2_with fail
                    exact ⟨⟨5 + 1, _, U, by omega, by go_num, rfl, by rw [HR.out, if_neg (by simpa using HC.out)]; exact HU.out, rfl⟩, by simp [intOf]⟩
              · obtain rfl : m = 6 := by omega
                have hUs : U.size ≤ 4 := by
                  rw [HU.out]
                  exact refT_len x 6
                go_wp2_with fail
                refine ⟨⟨k + 1, n2, O ++ U, by omega, by go_num, rfl, ?_, rfl⟩, by simp [intOf]; omega⟩
                rw [HO.out, HU.out, refT_same]
                have hkl : k < l.length := by rw [HLen.out]; exact hlt
                have ht : l.take (k + 1) = l.take k ++ [x] := by
                  rw [List.take_succ_eq_append_getElem hkl, HX.out]
                  congr 2
                  simp only [HL.out]
                  rfl
                rw [ht, List.flatMap_append]
                apply ByteArray.ext
                simp
      · obtain rfl : k = s.size := by omega
        have l1 : decide ((s.size : Int) < s.size) = false := by simp
        go_wp2_with fail
        go_ret2
        refine ⟨?_, HB1.out.trans (below_drewN _ _ _)⟩
        have hall : l.take s.size = l := List.take_of_length_le (by rw [HLen.out]; exact Nat.le_refl _)
        refine ret_pair ?_
        rw [HO.out, hall]
        apply ByteArray.ext
        simp [quoteAll]

end Tk
end Go.Proofs.YtlpcpnbjpbhlgaaGreatDoor
