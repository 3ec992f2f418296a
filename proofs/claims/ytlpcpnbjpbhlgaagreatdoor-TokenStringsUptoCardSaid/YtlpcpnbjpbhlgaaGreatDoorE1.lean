/- The literal of a valid text, read character by character. -/
import Derived.Test.YtlpcpnbjpbhlgaaGreatDoorB13
import Derived.Test.YtlpcpnbjpbhlgaaGreatDoorC8
import Derived.Lib.MapLaws
import Derived.Lib.ValidLaws
namespace Go.Proofs.YtlpcpnbjpbhlgaaGreatDoor
open Go.ChangeShapes Go.WideShapes Go.ChangeAt Go.RowKit Go.Lib
namespace Tk

theorem decodeN_two (n b0 b1 b2 b3 : Nat) (h0 : b0 / 32 = 6) (hn : 1 < n) (h1 : b1 / 64 = 2) (hv : 128 ≤ b0 % 32 * 64 + b1 % 64) : decodeN n b0 b1 b2 b3 = (b0 % 32 * 64 + b1 % 64, 2) := by
  unfold decodeN
  rw [if_neg (by omega), if_pos ⟨h0, hn, h1⟩, if_pos hv]
theorem decodeN_three (n b0 b1 b2 b3 : Nat) (h0 : b0 / 16 = 14) (hn : 2 < n) (h1 : b1 / 64 = 2) (h2 : b2 / 64 = 2) (hv : 2048 ≤ b0 % 16 * 4096 + b1 % 64 * 64 + b2 % 64)
    (hw : b0 % 16 * 4096 + b1 % 64 * 64 + b2 % 64 < 55296 ∨ 57344 ≤ b0 % 16 * 4096 + b1 % 64 * 64 + b2 % 64) : decodeN n b0 b1 b2 b3 = (b0 % 16 * 4096 + b1 % 64 * 64 + b2 % 64, 3) := by
  unfold decodeN
  rw [if_neg (by omega), if_neg (by omega), if_pos ⟨h0, ⟨by omega, h1⟩, ⟨by omega, h2⟩⟩, if_pos ⟨hv, by omega⟩]
theorem decodeN_four (n b0 b1 b2 b3 : Nat) (h0 : b0 / 8 = 30) (hn : 3 < n) (h1 : b1 / 64 = 2) (h2 : b2 / 64 = 2) (h3 : b3 / 64 = 2) (hv : 65536 ≤ b0 % 8 * 262144 + b1 % 64 * 4096 + b2 % 64 * 64 + b3 % 64)
    (hw : b0 % 8 * 262144 + b1 % 64 * 4096 + b2 % 64 * 64 + b3 % 64 ≤ 1114111) : decodeN n b0 b1 b2 b3 = (b0 % 8 * 262144 + b1 % 64 * 4096 + b2 % 64 * 64 + b3 % 64, 4) := by
  unfold decodeN
  rw [if_neg (by omega), if_neg (by omega), if_neg (by omega), if_pos ⟨h0, ⟨by omega, h1⟩, ⟨by omega, h2⟩, ⟨by omega, h3⟩⟩, if_pos ⟨hv, by omega⟩]

theorem two_of : ∀ l : List UInt8, 1 < l.length → ∃ a b t, l = a :: b :: t
  | [_], h => by simp at h
  | a :: b :: t, _ => ⟨a, b, t, rfl⟩
theorem three_of : ∀ l : List UInt8, 2 < l.length → ∃ a b c t, l = a :: b :: c :: t
  | [_], h => by simp at h
  | [_, _], h => by simp at h
  | a :: b :: c :: t, _ => ⟨a, b, c, t, rfl⟩
theorem four_of : ∀ l : List UInt8, 3 < l.length → ∃ a b c d t, l = a :: b :: c :: d :: t
  | [_], h => by simp at h
  | [_, _], h => by simp at h
  | [_, _, _], h => by simp at h
  | a :: b :: c :: d :: t, _ => ⟨a, b, c, d, t, rfl⟩

/-- A character of more than one byte: its bytes, and that nothing behind them matters. -/
theorem decode_high (l X : List UInt8) (hv : ¬ ((decodeL l).1 = 65533 ∧ (decodeL l).2 = 1)) (h0 : 128 ≤ (l.getD 0 0).toNat) :
    (∀ b ∈ l.take (decodeL l).2, 128 ≤ b.toNat) ∧ decodeL (l.take (decodeL l).2 ++ X) = decodeL l ∧ 128 ≤ (decodeL l).1 ∧ 2 ≤ (decodeL l).2 := by
  rw [decodeL_N l] at hv ⊢
  rcases decodeN_shape l.length (l.getD 0 0).toNat (l.getD 1 0).toNat (l.getD 2 0).toNat (l.getD 3 0).toNat with ⟨c, e⟩ | ⟨c1, c2, c3, cv, e⟩ | ⟨c1, c2, c3, c4, cv, cs, e⟩ | ⟨c1, c2, c3, c4, c5, cv, cw, e⟩ | e
  · omega
  · obtain ⟨a, b, t, rfl⟩ := two_of l c2
    rw [e]
    simp only [List.getD_cons_zero, List.getD_cons_succ] at c1 c3 cv ⊢
    refine ⟨?_, ?_, by omega, by omega⟩
    · intro x hx
      simp at hx
      rcases hx with rfl | rfl <;> omega
    · rw [decodeL_N]
      exact decodeN_two _ _ _ _ _ c1 (by simp) c3 cv
  · obtain ⟨a, b, d, t, rfl⟩ := three_of l c2
    rw [e]
    simp only [List.getD_cons_zero, List.getD_cons_succ] at c1 c3 c4 cv cs ⊢
    refine ⟨?_, ?_, by omega, by omega⟩
    · intro x hx
      simp at hx
      rcases hx with rfl | rfl | rfl <;> omega
    · rw [decodeL_N]
      exact decodeN_three _ _ _ _ _ c1 (by simp) c3 c4 cv cs
  · obtain ⟨a, b, d, f, t, rfl⟩ := four_of l c2
    rw [e]
    simp only [List.getD_cons_zero, List.getD_cons_succ] at c1 c3 c4 c5 cv cw ⊢
    refine ⟨?_, ?_, by omega, by omega⟩
    · intro x hx
      simp at hx
      rcases hx with rfl | rfl | rfl | rfl <;> omega
    · rw [decodeL_N]
      exact decodeN_four _ _ _ _ _ c1 (by simp) c3 c4 c5 cv cw
  · rw [e] at hv
    exact absurd ⟨rfl, rfl⟩ hv


theorem byteAt_get (s : ByteArray) (i : Nat) : byteAt s i = ((s.data.toList.getD i 0).toNat : Int) := by
  unfold byteAt
  split
  · rename_i h
    have hl : i < s.data.toList.length := by rw [Array.length_toList]; exact h
    rw [List.getD_eq_getElem?_getD, List.getElem?_eq_getElem hl]
    rfl
  · rename_i h
    have hl : s.data.toList.length ≤ i := by rw [Array.length_toList]; exact Nat.le_of_not_lt h
    rw [List.getD_eq_getElem?_getD, List.getElem?_eq_none hl]
    rfl

theorem at_drop {s : ByteArray} {p : Nat} {L : List UInt8} (h : s.data.toList.drop p = L) (j : Nat) : byteAt s (p + j) = ((L.getD j 0).toNat : Int) := by
  rw [byteAt_get, ← h, List.getD_eq_getElem?_getD, List.getD_eq_getElem?_getD, List.getElem?_drop]

theorem pre_drop {s : ByteArray} {p : Nat} {L : List UInt8} (h : s.data.toList.drop p = L) (x : ByteArray) : Lib.hasPrefix (s.extract p s.size).data.toList x.data.toList = x.data.toList.isPrefixOf L := by
  rw [Lib.ext_list, h]
  rfl

theorem len_drop {s : ByteArray} {p : Nat} {L : List UInt8} (h : s.data.toList.drop p = L) : L.length = s.size - p := by
  rw [← h, List.length_drop, Array.length_toList]
  rfl

theorem hex_facts (n : Nat) (h : n < 128) (hh : n < 32 ∨ n = 127) : digitV ((hexD (n / 16)).toNat : Int) 16 < 8 ∧ digitV ((hexD (n % 16)).toNat : Int) 16 < 16 ∧ digitV ((hexD (n / 16)).toNat : Int) 16 * 16 + digitV ((hexD (n % 16)).toNat : Int) 16 = n := by
  have hall : ((List.range 128).all fun n => !(decide (n < 32 ∨ n = 127)) || (decide (digitV ((hexD (n / 16)).toNat : Int) 16 < 8) && decide (digitV ((hexD (n % 16)).toNat : Int) 16 < 16) && decide (digitV ((hexD (n / 16)).toNat : Int) 16 * 16 + digitV ((hexD (n % 16)).toNat : Int) 16 = n))) = true := by decide +kernel
  have := List.all_eq_true.1 hall n (List.mem_range.2 h)
  simp only [decide_eq_true hh, Bool.not_true, Bool.false_or, Bool.and_eq_true, decide_eq_true_eq] at this
  exact ⟨this.1.1, this.1.2, this.2⟩

/-- One byte below 128, as it stands in a literal. -/
theorem char_one (T : ByteArray) (hT : T.size ≤ 20000) (p : Nat) (x : UInt8) (hx : x.toNat < 128) (more : List UInt8) (h : T.data.toList.drop p = quoteOne x ++ more) :
    CharAt T p x.toNat (p + (quoteOne x).length) ∧ byteAt T p ≠ 34 ∧ 1 ≤ (quoteOne x).length ∧ p + (quoteOne x).length ≤ T.size := by
  by_cases h6 : x = 10 ∨ x = 9 ∨ x = 13 ∨ x = 0 ∨ x = 34 ∨ x = 92
  · have hE : ∃ c : UInt8, quoteOne x = [92, c] ∧ ((c.toNat : Int), (x.toNat : Int)) ∈ escs := by
      rcases h6 with rfl | rfl | rfl | rfl | rfl | rfl
      · exact ⟨110, rfl, by decide⟩
      · exact ⟨116, rfl, by decide⟩
      · exact ⟨114, rfl, by decide⟩
      · exact ⟨48, rfl, by decide⟩
      · exact ⟨34, rfl, by decide⟩
      · exact ⟨92, rfl, by decide⟩
    obtain ⟨c, hq, hE⟩ := hE
    rw [hq] at h ⊢
    have hl := len_drop h
    simp only [List.cons_append, List.nil_append, List.length_cons] at hl
    refine ⟨fun w cc st m hc _ _ _ => char_two w cc T st p m c.toNat x.toNat hE hc hT (by rw [pre_drop h]; rfl) (at_drop h 1) (by omega), ?_, by simp, by simp; omega⟩
    have h0 : byteAt T p = 92 := at_drop h 0
    rw [h0]
    decide
  · simp only [not_or] at h6
    obtain ⟨h10, h9, h13, h0, h34, h92⟩ := h6
    have q10 : (x == 10) = false := by simpa using h10
    have q9 : (x == 9) = false := by simpa using h9
    have q13 : (x == 13) = false := by simpa using h13
    have q0 : (x == 0) = false := by simpa using h0
    have q34 : (x == 34) = false := by simpa using h34
    have q92 : (x == 92) = false := by simpa using h92
    by_cases hh : x.toNat < 32 ∨ x.toNat = 127
    · have hq : quoteOne x = [92, 120, hexD (x.toNat / 16), hexD (x.toNat % 16)] := by
        unfold quoteOne
        rw [q10, q9, q13, q0, q34, q92]
        simp [hh]
      rw [hq] at h ⊢
      have hl := len_drop h
      simp only [List.cons_append, List.nil_append, List.length_cons] at hl
      obtain ⟨f1, f2, f3⟩ := hex_facts x.toNat hx hh
      have a2 : byteAt T (p + 2) = ((hexD (x.toNat / 16)).toNat : Int) := at_drop h 2
      have a3 : byteAt T (p + 2 + 1) = ((hexD (x.toNat % 16)).toNat : Int) := at_drop h 3
      refine ⟨char_hex T p x.toNat hT (by rw [pre_drop h]; rfl) (at_drop h 1) (by rw [a2]; exact f1) (by rw [a3]; exact f2) (by omega) ?_, ?_, by simp, by simp; omega⟩
      · show (0 * 16 + digitV (byteAt T (p + 2 + 0)) 16) * 16 + digitV (byteAt T (p + 2 + 1)) 16 = _
        rw [Nat.add_zero, a2, a3, ← f3]
        omega
      · have h0 : byteAt T p = 92 := at_drop h 0
        rw [h0]
        decide
    · have hq : quoteOne x = [x] := by
        unfold quoteOne
        rw [q10, q9, q13, q0, q34, q92]
        simp only [not_or] at hh
        simp [hh.2]
        omega
      rw [hq] at h ⊢
      have hl := len_drop h
      simp only [List.cons_append, List.nil_append, List.length_cons] at hl
      have h10' : x.toNat ≠ 10 := fun e => h10 (UInt8.toNat_inj.1 e)
      have h34' : x.toNat ≠ 34 := fun e => h34 (UInt8.toNat_inj.1 e)
      have h92' : ((92 : UInt8) == x) = false := by simpa using fun e : 92 = x => h92 e.symm
      refine ⟨char_plain T p x hT (by omega) (by rw [pre_drop h]; show ((92 : UInt8) == x && _) = false; rw [h92']; rfl) (by rw [Lib.ext_list, h]; rfl) hx h10', ?_, by simp, by simp; omega⟩
      have := at_drop h 0
      rw [Nat.add_zero] at this
      rw [this]
      show ((x.toNat : Nat) : Int) ≠ 34
      omega

theorem quote_high (l : List UInt8) (h : ∀ b ∈ l, 128 ≤ b.toNat) : l.flatMap quoteOne = l := by
  induction l with
  | nil => rfl
  | cons x t ih =>
    have hx := h x (by simp)
    have q : ∀ k : UInt8, k.toNat < 128 → (x == k) = false := fun k hk => by
      simp only [beq_eq_false_iff_ne, ne_eq]
      intro e
      subst e
      omega
    have hq : quoteOne x = [x] := by
      unfold quoteOne
      rw [q 10 (by decide), q 9 (by decide), q 13 (by decide), q 0 (by decide), q 34 (by decide), q 92 (by decide)]
      have h1 : ¬ x.toNat < 32 := by omega
      have h2 : ¬ x.toNat = 127 := by omega
      simp [h1, h2]
    rw [List.flatMap_cons, hq, ih (fun b hb => h b (by simp [hb]))]
    rfl

theorem lit_of (T : ByteArray) (hT : T.size ≤ 20000) : ∀ (n : Nat) (l : List UInt8) (p : Nat) (rest : List UInt8), l.length ≤ n → Lib.validD l = true → T.data.toList.drop p = l.flatMap quoteOne ++ 34 :: rest →
    ∃ rs, Lit T p rs (p + (l.flatMap quoteOne).length) ∧ textOf rs = l := by
  intro n
  have nil : ∀ (p : Nat) (rest : List UInt8), T.data.toList.drop p = 34 :: rest → ∃ rs, Lit T p rs p ∧ textOf rs = [] := fun p rest h => by
    refine ⟨[], .done p ?_, rfl⟩
    have := at_drop h 0
    rw [Nat.add_zero] at this
    rw [this]
    rfl
  induction n with
  | zero =>
    intro l p rest hl _ h
    obtain rfl : l = [] := List.eq_nil_of_length_eq_zero (by omega)
    exact nil p rest h
  | succ n ih =>
    intro l p rest hl hv h
    rcases Nat.eq_zero_or_pos l.length with hz | hpos
    · obtain rfl : l = [] := List.eq_nil_of_length_eq_zero hz
      exact nil p rest h
    have hne : l ≠ [] := List.length_pos_iff.1 hpos
    by_cases hx : (l.getD 0 0).toNat < 128
    · obtain ⟨x, t, rfl⟩ : ∃ x t, l = x :: t := by
        cases l with
        | nil => exact absurd rfl hne
        | cons x t => exact ⟨x, t, rfl⟩
      rw [List.getD_cons_zero] at hx
      rw [Lib.validD_cons x t hx] at hv
      rw [List.flatMap_cons, List.append_assoc] at h
      obtain ⟨hc, h34, hk, hle⟩ := char_one T hT p x hx _ h
      have h' : T.data.toList.drop (p + (quoteOne x).length) = t.flatMap quoteOne ++ 34 :: rest := by
        rw [← List.drop_drop, h, List.drop_left]
      obtain ⟨rs, hL, ht⟩ := ih t _ rest (by simp at hl; omega) hv h'
      refine ⟨x.toNat :: rs, .step p x.toNat _ rs _ h34 hc (by omega) hle (by omega) (by omega) ?_, ?_⟩
      · rw [List.flatMap_cons, List.length_append, ← Nat.add_assoc]
        exact hL
      · show Lib.encodeRune x.toNat ++ textOf rs = x :: t
        rw [ht]
        unfold Lib.encodeRune
        rw [Lib.encodeRuneZ_one (by omega) (by omega)]
        simp
    · rw [Lib.validD_step l hne] at hv
      split at hv
      · cases hv
      rename_i hbad
      obtain ⟨hhi, hloc, hR, hK⟩ := decode_high l ((l.drop (Lib.decodeL l).2).flatMap quoteOne ++ 34 :: rest) hbad (by omega)
      have hkl := Lib.decodeL_le l hne
      have henc := Lib.encode_decode l hne hbad
      have hmax := Lib.decodeL_rune l
      obtain ⟨R, K, hRK⟩ : ∃ R K, Lib.decodeL l = (R, K) := ⟨_, _, rfl⟩
      rw [hRK] at hhi hloc hR hK hkl henc hmax hv
      dsimp only at hhi hloc hR hK hkl henc hmax hv
      have hsplit : l.flatMap quoteOne = l.take K ++ (l.drop K).flatMap quoteOne := by
        conv => lhs; rw [← List.take_append_drop K l]
        rw [List.flatMap_append, quote_high _ hhi]
      rw [hsplit, List.append_assoc] at h
      have htl : (l.take K).length = K := by rw [List.length_take]; omega
      have hl2 := len_drop h
      rw [List.length_append, htl] at hl2
      have h' : T.data.toList.drop (p + K) = (l.drop K).flatMap quoteOne ++ 34 :: rest := by
        rw [← List.drop_drop, h]
        exact List.drop_left' htl
      obtain ⟨rs, hL, ht⟩ := ih (l.drop K) (p + K) rest (by rw [List.length_drop]; omega) hv h'
      have hdec : Lib.decodeGo (T.extract p T.size) = (R, K) := by
        unfold Lib.decodeGo
        rw [if_neg (by rw [Lib.ext_size]; omega)]
        have e1 : Utf8.decode (T.extract p T.size) 0 = Lib.decodeL (T.data.toList.drop p) := by
          rw [← Lib.ext_list]
          rfl
        rw [e1, h, hloc]
      obtain ⟨y, t, hyt⟩ : ∃ y t, l.take K = y :: t := by
        cases hq : l.take K with
        | nil => rw [hq] at htl; simp at htl; omega
        | cons y t => exact ⟨y, t, rfl⟩
      have hy := hhi y (by rw [hyt]; simp)
      rw [hyt] at h
      have hb0 := at_drop h 0
      rw [Nat.add_zero] at hb0
      have hb0' : byteAt T p = (y.toNat : Int) := hb0
      have h92 : ((92 : UInt8) == y) = false := by
        simp only [beq_eq_false_iff_ne, ne_eq]
        intro e
        subst e
        exact absurd hy (by decide)
      refine ⟨R :: rs, .step p R (p + K) rs _ (by rw [hb0']; omega) (fun w c st m hc hu _ _ => char_utf w c T st p m R K hc hT hu (by rw [pre_drop h]; show ((92 : UInt8) == y && _) = false; rw [h92]; rfl) hdec hR hK (by omega)) (by omega) (by omega) (by omega) (by omega) ?_, ?_⟩
      · rw [hsplit, List.length_append, htl, ← Nat.add_assoc]
        exact hL
      · show Lib.encodeRune R ++ textOf rs = l
        rw [ht, henc, List.take_append_drop]

end Tk
end Go.Proofs.YtlpcpnbjpbhlgaaGreatDoor
