/- The number at a place, or the error: it exists, and what the program does. A byte of a text out of its list. The token at a place, or the error, of any text; and that every text has its tokens. What stands in a window of a text, seen in another text: prefixes, words, numbers. What stands in a window of a text, seen in another text: symbols, characters, strings. The token at a place, and what is passed over, in a window of a text. The tokens of a text, of one that is cut, of one with more blanks. Division by 10^19, as the machine does it, is division. The text of a number of 128 bits is its decimal digits. -/
import Derived.Test.YtmphkifhnjfkmaaGreatDoorM5
import Derived.Laws.BitsAllLaws
namespace Go.Proofs.YtmphkifhnjfkmaaGreatDoor
open Go.ChangeShapes Go.WideShapes Go.ChangeAt Go.RowKit Go.WideMaps Go.Maps
namespace Tk

abbrev pre (s : ByteArray) (p : Nat) (x : ByteArray) : Bool := Lib.hasPrefix (s.extract p s.size).data.toList x.data.toList
def intT (s : ByteArray) (a base N : Nat) : ByteArray := wideZ ((numW s a base N).1 / 18446744073709551616) ((numW s a base N).1 % 18446744073709551616)

/-- The number at a place: its kind, its text, its end; or an error. -/
inductive NumAt (s : ByteArray) (p : Nat) : Option (Int × ByteArray × Nat) → Prop
  | hexBad (h0 : pre s p zx = true) (N : Nat) (ok : Bool) (hR : RunU s (p + 2) N 16 ok) (hN : ok = false ∨ N = 0) : NumAt s p none
  | hexOver (h0 : pre s p zx = true) (N : Nat) (hR : RunU s (p + 2) N 16 true) (hN : 1 ≤ N) (hv : (numW s (p + 2) 16 N).2 = false) : NumAt s p none
  | hexOk (h0 : pre s p zx = true) (N : Nat) (hR : RunU s (p + 2) N 16 true) (hN : 1 ≤ N) (hv : (numW s (p + 2) 16 N).2 = true) : NumAt s p (some (3, intT s (p + 2) 16 N, dpos s (p + 2) N))
  | binBad (h0 : pre s p zx = false) (hb : pre s p zb = true) (N : Nat) (ok : Bool) (hR : RunU s (p + 2) N 2 ok) (hN : ok = false ∨ N = 0) : NumAt s p none
  | binOver (h0 : pre s p zx = false) (hb : pre s p zb = true) (N : Nat) (hR : RunU s (p + 2) N 2 true) (hN : 1 ≤ N) (hv : (numW s (p + 2) 2 N).2 = false) : NumAt s p none
  | binOk (h0 : pre s p zx = false) (hb : pre s p zb = true) (N : Nat) (hR : RunU s (p + 2) N 2 true) (hN : 1 ≤ N) (hv : (numW s (p + 2) 2 N).2 = true) : NumAt s p (some (3, intT s (p + 2) 2 N, dpos s (p + 2) N))
  | decBad (h0 : pre s p zx = false) (hb : pre s p zb = false) (N : Nat) (ok : Bool) (hR : RunU s p N 10 ok) (hN : ok = false ∨ N = 0) : NumAt s p none
  | decFrac (h0 : pre s p zx = false) (hb : pre s p zb = false) (N : Nat) (hR : RunU s p N 10 true) (hN : 1 ≤ N) (hF : Frac s (dpos s p N) none) : NumAt s p none
  | decOver (h0 : pre s p zx = false) (hb : pre s p zb = false) (N q : Nat) (hR : RunU s p N 10 true) (hN : 1 ≤ N) (hF : Frac s (dpos s p N) (some (false, q))) (hv : (numW s p 10 N).2 = false) : NumAt s p none
  | decOk (h0 : pre s p zx = false) (hb : pre s p zb = false) (N q : Nat) (hR : RunU s p N 10 true) (hN : 1 ≤ N) (hF : Frac s (dpos s p N) (some (false, q))) (hv : (numW s p 10 N).2 = true) : NumAt s p (some (3, intT s p 10 N, q))
  | decFloat (h0 : pre s p zx = false) (hb : pre s p zb = false) (N q : Nat) (hR : RunU s p N 10 true) (hN : 1 ≤ N) (hF : Frac s (dpos s p N) (some (true, q))) : NumAt s p (some (4, lowE (unU (s.extract p q)), q))

theorem size_of_pre {s : ByteArray} {p : Nat} {x : ByteArray} (hx : x.size = 2) (h : pre s p x = true) : p + 2 ≤ s.size := by
  have h1 := (List.isPrefixOf_iff_prefix.1 h).length_le
  have e1 : x.data.toList.length = 2 := by rw [Array.length_toList]; exact hx
  have e2 : (s.extract p s.size).data.toList.length = s.size - p := by
    rw [Array.length_toList]
    show (s.extract p s.size).size = _
    rw [ByteArray.size_extract]; omega
  rw [e1, e2] at h1
  omega

theorem expo_range {s : ByteArray} {a : Nat} {r : Option (Bool × Nat)} (h : Expo s a r) (ha : a ≤ s.size) : ∀ f q, r = some (f, q) → a ≤ q ∧ q ≤ s.size := by
  intro f q hr
  cases h with
  | no _ _ => cases hr; exact ⟨Nat.le_refl _, ha⟩
  | bad _ _ _ _ _ => cases hr
  | ok g N hR hN =>
    cases hr
    have h1 := dpos_ge s (signEnd s a) N
    have h2 : a ≤ signEnd s a := by unfold signEnd; split <;> omega
    exact ⟨by omega, hR.size⟩

theorem frac_range {s : ByteArray} {a : Nat} {r : Option (Bool × Nat)} (h : Frac s a r) (ha : a ≤ s.size) : ∀ f q, r = some (f, q) → a ≤ q ∧ q ≤ s.size := by
  intro f q hr
  cases h with
  | noPoint _ _ he => exact expo_range he ha f q hr
  | badPoint _ _ _ _ _ _ => cases hr
  | point _ _ N hR hN q' he =>
    have h1 := dpos_ge s (a + 1) N
    cases q' with
    | none => cases hr
    | some x =>
      obtain ⟨f', q''⟩ := x
      cases hr
      have := expo_range he hR.size f' _ rfl
      exact ⟨by omega, this.2⟩

theorem num_range {s : ByteArray} {p : Nat} {r : Option (Int × ByteArray × Nat)} (h : NumAt s p r) : ∀ k tx q, r = some (k, tx, q) → p < q ∧ q ≤ s.size := by
  intro k tx q hr
  cases h with
  | hexBad _ _ _ _ _ => cases hr
  | hexOver _ _ _ _ _ => cases hr
  | hexOk _ N hR hN _ => cases hr; have := dpos_ge s (p + 2) N; exact ⟨by omega, hR.size⟩
  | binBad _ _ _ _ _ _ => cases hr
  | binOver _ _ _ _ _ _ => cases hr
  | binOk _ _ N hR hN _ => cases hr; have := dpos_ge s (p + 2) N; exact ⟨by omega, hR.size⟩
  | decBad _ _ _ _ _ _ => cases hr
  | decFrac _ _ _ _ _ _ => cases hr
  | decOver _ _ _ _ _ _ _ _ => cases hr
  | decOk _ _ N q' hR hN hF _ => cases hr; have := dpos_ge s p N; have := frac_range hF hR.size _ _ rfl; exact ⟨by omega, this.2⟩
  | decFloat _ _ N q' hR hN hF => cases hr; have := dpos_ge s p N; have := frac_range hF hR.size _ _ rfl; exact ⟨by omega, this.2⟩

theorem num_ex (s : ByteArray) (p : Nat) (hp : p < s.size) : ∃ r, NumAt s p r := by
  cases h0 : pre s p zx
  · cases hb : pre s p zb
    · obtain ⟨N, ok, hR⟩ := run_ex s p 10 (by omega)
      by_cases hN : ok = false ∨ N = 0
      · exact ⟨_, .decBad h0 hb N ok hR hN⟩
      · cases ok
        · exact absurd (.inl rfl) hN
        · have hN1 : 1 ≤ N := by rcases Nat.eq_zero_or_pos N with h | h; exact absurd (.inr h) hN; exact h
          obtain ⟨r, hF⟩ := frac_ex s (dpos s p N) hR.size
          cases r with
          | none => exact ⟨_, .decFrac h0 hb N hR hN1 hF⟩
          | some x =>
            obtain ⟨f, q⟩ := x
            cases f
            · cases hv : (numW s p 10 N).2
              · exact ⟨_, .decOver h0 hb N q hR hN1 hF hv⟩
              · exact ⟨_, .decOk h0 hb N q hR hN1 hF hv⟩
            · exact ⟨_, .decFloat h0 hb N q hR hN1 hF⟩
    · have h2 := size_of_pre (x := zb) rfl hb
      obtain ⟨N, ok, hR⟩ := run_ex s (p + 2) 2 h2
      by_cases hN : ok = false ∨ N = 0
      · exact ⟨_, .binBad h0 hb N ok hR hN⟩
      · cases ok
        · exact absurd (.inl rfl) hN
        · have hN1 : 1 ≤ N := by rcases Nat.eq_zero_or_pos N with h | h; exact absurd (.inr h) hN; exact h
          cases hv : (numW s (p + 2) 2 N).2
          · exact ⟨_, .binOver h0 hb N hR hN1 hv⟩
          · exact ⟨_, .binOk h0 hb N hR hN1 hv⟩
  · have h2 := size_of_pre (x := zx) rfl h0
    obtain ⟨N, ok, hR⟩ := run_ex s (p + 2) 16 h2
    by_cases hN : ok = false ∨ N = 0
    · exact ⟨_, .hexBad h0 N ok hR hN⟩
    · cases ok
      · exact absurd (.inl rfl) hN
      · have hN1 : 1 ≤ N := by rcases Nat.eq_zero_or_pos N with h | h; exact absurd (.inr h) hN; exact h
        cases hv : (numW s (p + 2) 16 N).2
        · exact ⟨_, .hexOver h0 N hR hN1 hv⟩
        · exact ⟨_, .hexOk h0 N hR hN1 hv⟩

theorem num_call (s : ByteArray) (p q : Nat) (k : Int) (tx : ByteArray) (h : NumAt s p (some (k, tx, q))) (hs : s.size ≤ 20000) (hp : p < s.size) (w : World) (c m : Nat) (hc : Cur w c s p p m) (ht : Pow10 w) (hml : MaxL w) (h1 : c ≠ 8) (h2 : 5 ≠ c) :
    Calls Tryz.prog 31 #[.pointer (some ⟨c, 0, none⟩)] w fun e w' => e = .returned (tokV k tx) ∧ Cur w' c s p q m ∧ w.grownBy w' (some c) := by
  cases h with
  | hexOk h0 N hR hN hv => exact number_hex_ok w c s p p m N hc hs (size_of_pre (x := zx) rfl h0) h0 hR hN hv ht h1
  | binOk h0 hb N hR hN hv => exact number_bin_ok w c s p p m N hc hs (size_of_pre (x := zb) rfl hb) h0 hb hR hN hv ht h1
  | decOk h0 hb N q hR hN hF hv => exact number_dec_ok w c s p p m N _ hc hs (by omega) h0 hb hR hN hF hv ht h1
  | decFloat h0 hb N q hR hN hF =>
    have g1 := dpos_ge s p N
    have g2 := frac_range hF hR.size _ _ rfl
    exact number_dec_float w c s p p m N _ hc hs (by omega) h0 hb hR hN hF (by omega) g2.2 hml h2

theorem num_call_bad (s : ByteArray) (p : Nat) (h : NumAt s p none) (hs : s.size ≤ 20000) (hp : p < s.size) (w : World) (c m : Nat) (hc : Cur w c s p p m) :
    Calls Tryz.prog 31 #[.pointer (some ⟨c, 0, none⟩)] w fun e w' => e = .panicked (faultC p 33) ∧ w.grownBy w' (some c) := by
  cases h with
  | hexBad h0 N ok hR hN => exact number_hex_bad w c s p p m N ok hc hs (size_of_pre (x := zx) rfl h0) h0 hR hN
  | hexOver h0 N hR hN hv => exact number_hex_over w c s p p m N hc hs (size_of_pre (x := zx) rfl h0) h0 hR hN hv
  | binBad h0 hb N ok hR hN => exact number_bin_bad w c s p p m N ok hc hs (size_of_pre (x := zb) rfl hb) h0 hb hR hN
  | binOver h0 hb N hR hN hv => exact number_bin_over w c s p p m N hc hs (size_of_pre (x := zb) rfl hb) h0 hb hR hN hv
  | decBad h0 hb N ok hR hN => exact number_dec_bad w c s p p m N ok hc hs (by omega) h0 hb hR hN
  | decFrac h0 hb N hR hN hF => exact number_dec_fracbad w c s p p m N hc hs (by omega) h0 hb hR hN hF
  | decOver h0 hb N q hR hN hF hv => exact number_dec_over w c s p p m N q hc hs (by omega) h0 hb hR hN hF hv

theorem read_num (s : ByteArray) (p q : Nat) (k : Int) (tx : ByteArray) (h : NumAt s p (some (k, tx, q))) (hs : s.size ≤ 20000) (hp : p < s.size) (hl : letB (byteAt s p) = false) (hd : digB (byteAt s p) = true) (h95 : byteAt s p ≠ 95) (he : partB (byteAt s q) = false) : ReadAt s p k tx q := by
  intro w c st m hc hen
  refine (reader_number w c s st p m hc hs hp hl hd h95).mono ?_
  rintro e w' ⟨bf, bc, rfl, q1, q2, q3, q4, hC, hg⟩
  have he' := hen.up hg (fun r e => by cases e; exact hen.mc)
  have hlt := hc.lt
  refine ⟨_, _, rfl, enters_of Tryz.func56 (by kernel_rfl) rfl, hg, closedNumber w' bf bc _ c s p p m q k tx hs (num_range h _ _ _ rfl).2 q1 q2 q4 (by omega) hC he ?_⟩
  intro w1 g1 c1
  have hE := he'.up g1 (fun r e => by cases e)
  obtain ⟨_, _, n3, n4, _, _⟩ := env_ne hE
  exact num_call s p q k tx h hs hp w1 c m c1 hE.pow hE.ml n4 n3

theorem read_num_part (s : ByteArray) (p q : Nat) (k : Int) (tx : ByteArray) (h : NumAt s p (some (k, tx, q))) (hs : s.size ≤ 20000) (hp : p < s.size) (hl : letB (byteAt s p) = false) (hd : digB (byteAt s p) = true) (h95 : byteAt s p ≠ 95) (he : partB (byteAt s q) = true) : ReadBad s p 33 := by
  intro w c st m hc hen
  refine (reader_number w c s st p m hc hs hp hl hd h95).mono ?_
  rintro e w' ⟨bf, bc, rfl, q1, q2, q3, q4, hC, hg⟩
  have he' := hen.up hg (fun r e => by cases e; exact hen.mc)
  have hlt := hc.lt
  refine ⟨_, _, rfl, enters_of Tryz.func56 (by kernel_rfl) rfl, hg, closedNumber_part w' bf bc _ c s p p m q k tx hs (num_range h _ _ _ rfl).2 q1 q2 q4 (by omega) hC he ?_⟩
  intro w1 g1 c1
  have hE := he'.up g1 (fun r e => by cases e)
  obtain ⟨_, _, n3, n4, _, _⟩ := env_ne hE
  exact num_call s p q k tx h hs hp w1 c m c1 hE.pow hE.ml n4 n3

theorem read_num_bad (s : ByteArray) (p : Nat) (h : NumAt s p none) (hs : s.size ≤ 20000) (hp : p < s.size) (hl : letB (byteAt s p) = false) (hd : digB (byteAt s p) = true) (h95 : byteAt s p ≠ 95) : ReadBad s p 33 := by
  intro w c st m hc hen
  refine (reader_number w c s st p m hc hs hp hl hd h95).mono ?_
  rintro e w' ⟨bf, bc, rfl, q1, q2, q3, q4, hC, hg⟩
  refine ⟨_, _, rfl, enters_of Tryz.func56 (by kernel_rfl) rfl, hg, closedNumber_bad w' bf bc _ c s p p m _ q1 q4 hC ?_⟩
  intro w1 g1 c1
  exact num_call_bad s p h hs hp w1 c m c1

end Tk
end Go.Proofs.YtmphkifhnjfkmaaGreatDoor

namespace Go.Proofs.YtmphkifhnjfkmaaGreatDoor
open Go.ChangeShapes Go.WideShapes Go.ChangeAt Go.RowKit
namespace Tk

theorem byteAt_list (s : ByteArray) (j : Nat) : byteAt s j = ((s.data.toList.getD j 0).toNat : Int) := by
  unfold byteAt
  by_cases h : j < s.size
  · rw [dif_pos h]
    have h' : j < s.data.toList.length := by rw [Array.length_toList]; exact h
    rw [List.getD_eq_getElem?_getD, List.getElem?_eq_getElem h']
    simp
    rfl
  · rw [dif_neg h]
    have h' : ¬ j < s.data.toList.length := by rw [Array.length_toList]; exact h
    rw [List.getD_eq_getElem?_getD, List.getElem?_eq_none (by omega)]
    rfl

end Tk
end Go.Proofs.YtmphkifhnjfkmaaGreatDoor

namespace Go.Proofs.YtmphkifhnjfkmaaGreatDoor
open Go.ChangeShapes Go.WideShapes Go.ChangeAt Go.RowKit Go.WideMaps Go.Maps
namespace Tk

theorem skipF_rng (s : ByteArray) : ∀ (n p b : Nat), p ≤ s.size → skipF s n p = .inl b → p ≤ b ∧ b ≤ s.size
  | 0, p, b, hp, h => by cases h; exact ⟨Nat.le_refl _, hp⟩
  | n + 1, p, b, hp, h => by
    unfold skipF at h
    split at h
    · rename_i hlt
      split at h
      · have := skipF_rng s n (p + 1) b (by omega) h; omega
      · split at h
        · split at h
          · have hl := lineN_spec s p hp
            have := skipF_rng s n (lineN s p) b hl.2.1 h; omega
          · cases h
        · split at h
          · split at h
            · cases h
            · rename_i hc
              split at h
              · have hr : commentEndZ s p = -1 ∨ ((p : Int) < commentEndZ s p ∧ commentEndZ s p ≤ s.size) := ceF_range s (s.size + 1) p 0
                have := skipF_rng s n (commentEndZ s p).toNat b (by omega) h
                omega
              · cases h
          · cases h; exact ⟨Nat.le_refl _, hp⟩
    · cases h; exact ⟨Nat.le_refl _, hp⟩

theorem skipM_range {s : ByteArray} {p b : Nat} (hp : p ≤ s.size) (h : skipM s p = .inl b) : p ≤ b ∧ b ≤ s.size := skipF_rng s _ p b hp h

theorem best_has (s : ByteArray) (a : Nat) : ∀ k, (bestN s a k).size = 0 ∨ hasB s a (bestN s a k) = true
  | 0 => .inl rfl
  | k + 1 => by
    unfold bestN
    split
    · rename_i h
      rw [Bool.and_eq_true, Bool.and_eq_true] at h
      exact .inr h.1.2
    · exact best_has s a k

theorem size_of_has {s : ByteArray} {p : Nat} {x : ByteArray} (hp : p ≤ s.size) (h : hasB s p x = true) : p + x.size ≤ s.size := by
  have h1 := (List.isPrefixOf_iff_prefix.1 h).length_le
  have e1 : x.data.toList.length = x.size := by rw [Array.length_toList]; rfl
  have e2 : (s.extract p s.size).data.toList.length = s.size - p := by
    rw [Array.length_toList]
    show (s.extract p s.size).size = _
    rw [ByteArray.size_extract]; omega
  rw [e1, e2] at h1
  omega

/-- The token at a place: its kind, its text, its end; or the error's code. -/
inductive TokAt (s : ByteArray) (p : Nat) : (Int × ByteArray × Nat) ⊕ Int → Prop
  | word (hl : letB (byteAt s p) = true) : TokAt s p (.inl (wordKind (s.extract p (wordEnd s p)).data.toList, s.extract p (wordEnd s p), wordEnd s p))
  | under (hl : letB (byteAt s p) = false) (h95 : byteAt s p = 95) : TokAt s p (.inl (wordKind (s.extract p (wordEnd s p)).data.toList, s.extract p (wordEnd s p), wordEnd s p))
  | num (hl : letB (byteAt s p) = false) (hd : digB (byteAt s p) = true) (h95 : byteAt s p ≠ 95) (k : Int) (tx : ByteArray) (q : Nat) (h : NumAt s p (some (k, tx, q))) (he : partB (byteAt s q) = false) : TokAt s p (.inl (k, tx, q))
  | numPart (hl : letB (byteAt s p) = false) (hd : digB (byteAt s p) = true) (h95 : byteAt s p ≠ 95) (k : Int) (tx : ByteArray) (q : Nat) (h : NumAt s p (some (k, tx, q))) (he : partB (byteAt s q) = true) : TokAt s p (.inr 33)
  | numBad (hl : letB (byteAt s p) = false) (hd : digB (byteAt s p) = true) (h95 : byteAt s p ≠ 95) (h : NumAt s p none) : TokAt s p (.inr 33)
  | char (hl : letB (byteAt s p) = false) (hd : digB (byteAt s p) = false) (h95 : byteAt s p ≠ 95) (h39 : byteAt s p = 39) (r : Int) (q : Nat) (hm : chrM s p = some (r, q)) (he : partB (byteAt s q) = false) : TokAt s p (.inl (3, ⟨(Lib.itoa r).toArray⟩, q))
  | charPart (hl : letB (byteAt s p) = false) (hd : digB (byteAt s p) = false) (h95 : byteAt s p ≠ 95) (h39 : byteAt s p = 39) (r : Int) (q : Nat) (hm : chrM s p = some (r, q)) (he : partB (byteAt s q) = true) : TokAt s p (.inr 33)
  | charBad (hl : letB (byteAt s p) = false) (hd : digB (byteAt s p) = false) (h95 : byteAt s p ≠ 95) (h39 : byteAt s p = 39) (hm : chrM s p = none) : TokAt s p (.inr 31)
  | block (hl : letB (byteAt s p) = false) (hd : digB (byteAt s p) = false) (h95 : byteAt s p ≠ 95) (h39 : byteAt s p ≠ 39) (h34 : byteAt s p = 34) (h3 : pre s p quote3 = true) (q : Nat) (hm : blkM s p = some q) : TokAt s p (.inl (5, s.extract (p + 3) q, q + 3))
  | blockBad (hl : letB (byteAt s p) = false) (hd : digB (byteAt s p) = false) (h95 : byteAt s p ≠ 95) (h39 : byteAt s p ≠ 39) (h34 : byteAt s p = 34) (h3 : pre s p quote3 = true) (hm : blkM s p = none) : TokAt s p (.inr 31)
  | line (h34 : byteAt s p = 34) (h3 : pre s p quote3 = false) (rs : List Int) (q : Nat) (hm : litF s (s.size + 1) (p + 1) = some (rs, q)) : TokAt s p (.inl (5, ⟨(textOf rs).toArray⟩, q + 1))
  | lineBad (h34 : byteAt s p = 34) (h3 : pre s p quote3 = false) (hm : litF s (s.size + 1) (p + 1) = none) : TokAt s p (.inr 31)
  | symbol (hl : letB (byteAt s p) = false) (hd : digB (byteAt s p) = false) (h95 : byteAt s p ≠ 95) (h39 : byteAt s p ≠ 39) (h34 : byteAt s p ≠ 34) (h3 : pre s p quote3 = false) (hn : 1 ≤ (bestN s p 43).size) : TokAt s p (.inl (6, bestN s p 43, p + (bestN s p 43).size))
  | symbolBad (hl : letB (byteAt s p) = false) (hd : digB (byteAt s p) = false) (h95 : byteAt s p ≠ 95) (h39 : byteAt s p ≠ 39) (h34 : byteAt s p ≠ 34) (h3 : pre s p quote3 = false) (hn : (bestN s p 43).size = 0) : TokAt s p (.inr 30)

theorem pre_quote {s : ByteArray} {p : Nat} (_ : p < s.size) (h : pre s p quote3 = true) : byteAt s p = 34 := by
  have h' : Lib.hasPrefix (s.extract p s.size).data.toList quote3.data.toList = true := h
  unfold Lib.hasPrefix at h'
  rw [Lib.ext_list] at h'
  cases hl : s.data.toList.drop p with
  | nil => rw [hl] at h'; cases h'
  | cons x t =>
    rw [hl] at h'
    have hx : ((34 : UInt8) == x) = true := by
      have : (((34 : UInt8) == x) && _) = true := h'
      rw [Bool.and_eq_true] at this
      exact this.1
    have hx' : 34 = x := by simpa using hx
    have hg : s.data.toList[p]? = some x := by
      have := congrArg (fun l => l[0]?) hl
      simpa using this
    rw [byteAt_list, List.getD_eq_getElem?_getD, hg, ← hx']
    rfl

theorem tokAt_ex (s : ByteArray) (p : Nat) (_ : s.size ≤ 20000) (hp : p < s.size) : ∃ r, TokAt s p r := by
  cases hl : letB (byteAt s p)
  · by_cases h95 : byteAt s p = 95
    · exact ⟨_, .under hl h95⟩
    · cases hd : digB (byteAt s p)
      · by_cases h39 : byteAt s p = 39
        · cases hm : chrM s p with
          | none => exact ⟨_, .charBad hl hd h95 h39 hm⟩
          | some x =>
            obtain ⟨r, q⟩ := x
            cases he : partB (byteAt s q)
            · exact ⟨_, .char hl hd h95 h39 r q hm he⟩
            · exact ⟨_, .charPart hl hd h95 h39 r q hm he⟩
        · by_cases h34 : byteAt s p = 34
          · cases h3 : pre s p quote3
            · cases hm : litF s (s.size + 1) (p + 1) with
              | none => exact ⟨_, .lineBad h34 h3 hm⟩
              | some x => exact ⟨_, .line h34 h3 x.1 x.2 hm⟩
            · cases hm : blkM s p with
              | none => exact ⟨_, .blockBad hl hd h95 h39 h34 h3 hm⟩
              | some q => exact ⟨_, .block hl hd h95 h39 h34 h3 q hm⟩
          · have h3 : pre s p quote3 = false := by
              cases h3 : pre s p quote3
              · rfl
              · exact absurd (pre_quote hp h3) h34
            by_cases hn : (bestN s p 43).size = 0
            · exact ⟨_, .symbolBad hl hd h95 h39 h34 h3 hn⟩
            · exact ⟨_, .symbol hl hd h95 h39 h34 h3 (by omega)⟩
      · obtain ⟨r, h⟩ := num_ex s p hp
        cases r with
        | none => exact ⟨_, .numBad hl hd h95 h⟩
        | some x =>
          obtain ⟨k, tx, q⟩ := x
          cases he : partB (byteAt s q)
          · exact ⟨_, .num hl hd h95 k tx q h he⟩
          · exact ⟨_, .numPart hl hd h95 k tx q h he⟩
  · exact ⟨_, .word hl⟩

theorem tokAt_ok {s : ByteArray} {p q : Nat} {k : Int} {tx : ByteArray} {r : (Int × ByteArray × Nat) ⊕ Int} (h : TokAt s p r) (hr0 : r = .inl (k, tx, q)) (hs : s.size ≤ 20000) (hp : p < s.size) : ReadAt s p k tx q ∧ p < q ∧ q ≤ s.size := by
  cases h with
  | word hl =>
    simp only [Sum.inl.injEq, Prod.mk.injEq] at hr0
    obtain ⟨rfl, rfl, rfl⟩ := hr0
    exact ⟨read_word s p _ _ _ hs hp hl rfl rfl rfl, wordEnd_range s p hp (by unfold partB; rw [hl]; rfl)⟩
  | under hl h95 =>
    simp only [Sum.inl.injEq, Prod.mk.injEq] at hr0
    obtain ⟨rfl, rfl, rfl⟩ := hr0
    exact ⟨read_under s p hs hp hl h95, wordEnd_range s p hp (by rw [h95]; decide)⟩
  | num hl hd h95 _ _ _ h he =>
    simp only [Sum.inl.injEq, Prod.mk.injEq] at hr0
    obtain ⟨rfl, rfl, rfl⟩ := hr0
    exact ⟨read_num s p _ _ _ h hs hp hl hd h95 he, num_range h _ _ _ rfl⟩
  | char hl hd h95 h39 r _ hm he =>
    simp only [Sum.inl.injEq, Prod.mk.injEq] at hr0
    obtain ⟨rfl, rfl, rfl⟩ := hr0
    have hr := chrM_range hp hm
    exact ⟨read_char_ok s p _ r hs hp hl hd h95 h39 hm he, hr.1, hr.2.1⟩
  | block hl hd h95 h39 h34 h3 q hm =>
    simp only [Sum.inl.injEq, Prod.mk.injEq] at hr0
    obtain ⟨rfl, rfl, rfl⟩ := hr0
    have h4 := size_of_quote3 h3
    have hr := blkM_range h4 hm
    exact ⟨read_block_ok s p _ hs hp hl hd h95 h39 h34 h3 hm, by omega, hr.2⟩
  | line h34 h3 rs q hm =>
    simp only [Sum.inl.injEq, Prod.mk.injEq] at hr0
    obtain ⟨rfl, rfl, rfl⟩ := hr0
    have hL := litF_ok hs (s.size + 1) (p + 1) rs q (by omega) hm
    have hr := lit_end hL
    exact ⟨read_line s p _ rs _ hs hp h34 h3 hL rfl, by omega, by omega⟩
  | symbol hl hd h95 h39 h34 h3 hn =>
    simp only [Sum.inl.injEq, Prod.mk.injEq] at hr0
    obtain ⟨rfl, rfl, rfl⟩ := hr0
    have hb := best_has s p 43
    have hz : p + (bestN s p 43).size ≤ s.size := by
      rcases hb with hb | hb
      · omega
      · exact size_of_has (by omega) hb
    exact ⟨read_symbol s p _ hs hp hl hd h95 h39 h34 h3 rfl hn, by omega, hz⟩
  | numPart _ _ _ _ _ _ _ _ => cases hr0
  | numBad _ _ _ _ => cases hr0
  | charPart _ _ _ _ _ _ _ => cases hr0
  | charBad _ _ _ _ _ => cases hr0
  | blockBad _ _ _ _ _ _ _ => cases hr0
  | lineBad _ _ _ => cases hr0
  | symbolBad _ _ _ _ _ _ _ => cases hr0

theorem tokAt_bad {s : ByteArray} {p : Nat} {code : Int} {r : (Int × ByteArray × Nat) ⊕ Int} (h : TokAt s p r) (hr0 : r = .inr code) (hs : s.size ≤ 20000) (hp : p < s.size) : ReadBad s p code := by
  cases h with
  | numPart hl hd h95 _ _ _ h he => cases hr0; exact read_num_part s p _ _ _ h hs hp hl hd h95 he
  | numBad hl hd h95 h => cases hr0; exact read_num_bad s p h hs hp hl hd h95
  | charPart hl hd h95 h39 r q hm he => cases hr0; exact read_char_part s p q r hs hp hl hd h95 h39 hm he
  | charBad hl hd h95 h39 hm => cases hr0; exact read_char_bad s p hs hp hl hd h95 h39 hm
  | blockBad hl hd h95 h39 h34 h3 hm => cases hr0; exact read_block_bad s p hs hp hl hd h95 h39 h34 h3 hm
  | lineBad h34 h3 hm => cases hr0; exact read_line_bad s p hs hp h34 h3 hm
  | symbolBad hl hd h95 h39 h34 h3 hn => cases hr0; exact read_symbol_bad s p hs hp hl hd h95 h39 h34 h3 hn
  | word _ => cases hr0
  | under _ _ => cases hr0
  | num _ _ _ _ _ _ _ _ => cases hr0
  | char _ _ _ _ _ _ _ => cases hr0
  | block _ _ _ _ _ _ _ _ => cases hr0
  | line _ _ _ _ _ => cases hr0
  | symbol _ _ _ _ _ _ _ => cases hr0

/-- Every text has its tokens, and its error, if it has one. -/
theorem toksU_ex (s : ByteArray) (hs : s.size ≤ 20000) : ∀ (n p : Nat) (f : Bool), s.size < n + p → p ≤ s.size → ∃ ts res, ToksU s p f ts res
  | 0, p, f, h, hp => by omega
  | n + 1, p, f, h, hp => by
    cases hk : skipM s p with
    | inr q => exact ⟨_, _, .badSkip p f q hk⟩
    | inl b =>
      have hr := skipM_range hp hk
      rcases Nat.lt_or_ge b s.size with hb | hb
      · obtain ⟨r, ht⟩ := tokAt_ex s b hs hb
        cases r with
        | inr code => exact ⟨_, _, .badRead p f b code hk hb (tokAt_bad ht rfl hs hb)⟩
        | inl x =>
          obtain ⟨k, tx, q⟩ := x
          obtain ⟨h1, h2, h3⟩ := tokAt_ok ht rfl hs hb
          obtain ⟨ts, res, hn⟩ := toksU_ex s hs n q false (by omega) h3
          exact ⟨_, _, .tok p f b k tx q ts res hk hb h1 h2 h3 hn⟩
      · obtain rfl : b = s.size := by omega
        exact ⟨_, _, .last p f hk⟩

end Tk
end Go.Proofs.YtmphkifhnjfkmaaGreatDoor

namespace Go.Proofs.YtmphkifhnjfkmaaGreatDoor
open Go.ChangeShapes Go.WideShapes Go.ChangeAt Go.RowKit Go.WideMaps Go.Maps
namespace Tk

/-! ### A window of a text, seen in another one -/

/-- The bytes of s from P to Q stand in u, d places further on. -/
structure Vw (s u : ByteArray) (d P Q : Nat) : Prop where
  hs : Q ≤ s.size
  hu : Q + d ≤ u.size
  eq : ∀ x, P ≤ x → x < Q → byteAt u (x + d) = byteAt s x

/-- What may stand behind a window: nothing, or a blank. -/
def Neu (b : Int) : Prop := b = 0 ∨ b = 9 ∨ b = 10 ∨ b = 32

theorem Vw.sub {s u : ByteArray} {d P Q P' Q' : Nat} (h : Vw s u d P Q) (h1 : P ≤ P') (h2 : Q' ≤ Q) : Vw s u d P' Q' :=
  ⟨Nat.le_trans h2 h.hs, by have := h.hu; omega, fun x a b => h.eq x (by omega) (by omega)⟩

theorem Neu.part {b : Int} (h : Neu b) : partB b = false := by rcases h with rfl | rfl | rfl | rfl <;> decide
theorem Neu.quote {b : Int} (h : Neu b) : quoteB b = false := by rcases h with rfl | rfl | rfl | rfl <;> decide
theorem Neu.dig {b : Int} (h : Neu b) : digB b = false := by rcases h with rfl | rfl | rfl | rfl <;> decide
theorem Neu.digV {b base : Int} (h : Neu b) : ¬ digitV b base < base := by
  rcases h with rfl | rfl | rfl | rfl <;> (unfold digitV; rw [if_neg (by decide), if_neg (by decide), if_neg (by decide)]; omega)
theorem Neu.ne {b k : Int} (h : Neu b) (hk : k ≠ 0 ∧ k ≠ 9 ∧ k ≠ 10 ∧ k ≠ 32) : b ≠ k := by
  rcases h with rfl | rfl | rfl | rfl <;> omega

/-- The byte at a place up to the window's end: the same, or it is the end and neutral. -/
theorem Vw.at {s u : ByteArray} {d P Q x : Nat} (h : Vw s u d P Q) (n : Neu (byteAt u (Q + d))) (h1 : P ≤ x) (h2 : x ≤ Q) : byteAt u (x + d) = byteAt s x ∨ (x = Q ∧ Neu (byteAt u (x + d))) := by
  rcases Nat.lt_or_ge x Q with hx | hx
  · exact .inl (h.eq x h1 hx)
  · obtain rfl : x = Q := by omega
    exact .inr ⟨rfl, n⟩

theorem bytes_eq {s u : ByteArray} (hz : s.size = u.size) (h : ∀ i, i < s.size → byteAt u i = byteAt s i) : u = s := by
  have hz' : s.data.size = u.data.size := hz
  apply ByteArray.ext
  apply Array.ext (by omega)
  intro i h1 h2
  have hi : i < s.size := h2
  have := h i hi
  unfold byteAt at this
  rw [dif_pos hi, dif_pos (show i < u.size from h1)] at this
  have h3 : (u[i]'h1) = (s[i]'hi) := UInt8.toNat.inj (by omega)
  exact h3

theorem byteAt_ext {s : ByteArray} {a b i : Nat} (h : a + i < b) (hb : b ≤ s.size) : byteAt (s.extract a b) i = byteAt s (a + i) := by
  have hz : (s.extract a b).size = b - a := by rw [ByteArray.size_extract]; omega
  unfold byteAt
  rw [dif_pos (by omega), dif_pos (by omega)]
  congr 2
  simp [ByteArray.getElem_extract]

theorem Vw.ext {s u : ByteArray} {d P Q a b : Nat} (h : Vw s u d P Q) (h1 : P ≤ a) (h2 : b ≤ Q) : u.extract (a + d) (b + d) = s.extract a b := by
  have hs := h.hs
  have hu := h.hu
  apply bytes_eq
  · rw [ByteArray.size_extract, ByteArray.size_extract]; omega
  · intro i hi
    rw [ByteArray.size_extract] at hi
    rw [byteAt_ext (by omega) (by omega), byteAt_ext (by omega) (by omega), show a + d + i = a + i + d by omega]
    exact h.eq _ (by omega) (by omega)

/-- A text begins with a prefix at a place: its bytes. -/
theorem pre_iff (s : ByteArray) (p : Nat) : ∀ (x : List UInt8), (∀ b ∈ x, b ≠ 0) → (Lib.hasPrefix (s.extract p s.size).data.toList x = true ↔ ∀ i (h : i < x.length), byteAt s (p + i) = ((x[i]'h).toNat : Int)) := by
  intro x
  rw [Lib.ext_list]
  unfold Lib.hasPrefix
  induction x generalizing p with
  | nil => intro _; simp
  | cons a t ih =>
    intro hx
    have ha : a ≠ 0 := hx a (.head _)
    have ht : ∀ b ∈ t, b ≠ 0 := fun b hb => hx b (.tail _ hb)
    have hb0 := byteAt_list s p
    cases hl : s.data.toList.drop p with
    | nil =>
      have hz : s.data.toList.length ≤ p := by simpa using hl
      constructor
      · intro h; cases h
      · intro h
        have := h 0 (by simp)
        rw [Nat.add_zero, hb0, List.getD_eq_getElem?_getD, List.getElem?_eq_none hz] at this
        exfalso
        apply ha
        apply UInt8.toNat.inj
        have h4 : ((0 : UInt8).toNat : Int) = a.toNat := this
        have h5 : ((0 : UInt8).toNat) = a.toNat := by exact_mod_cast h4
        exact h5.symm
    | cons y r =>
      have hg : s.data.toList[p]? = some y := by
        have := congrArg (fun l => l[0]?) hl
        simpa using this
      have hr : s.data.toList.drop (p + 1) = r := by
        have := congrArg List.tail hl
        simpa using this
      have hby : byteAt s p = (y.toNat : Int) := by
        rw [hb0, List.getD_eq_getElem?_getD, hg]
        rfl
      have ih' := ih (p + 1) ht
      rw [hr] at ih'
      constructor
      · intro h
        have h' : ((a == y) && t.isPrefixOf r) = true := h
        rw [Bool.and_eq_true] at h'
        have hay : a = y := by simpa using h'.1
        have h3 := ih'.1 h'.2
        intro i hi
        cases i with
        | zero => rw [Nat.add_zero, hby, hay]; rfl
        | succ i =>
          have := h3 i (by simpa using hi)
          rw [show p + (i + 1) = p + 1 + i by omega, this]
          rfl
      · intro h
        have h0 := h 0 (by simp)
        rw [Nat.add_zero, hby] at h0
        have hay : a = y := UInt8.toNat.inj (by have : (y.toNat : Int) = a.toNat := h0; omega)
        have h3 : t.isPrefixOf r = true := ih'.2 fun i hi => by
          have := h (i + 1) (by simpa using hi)
          rw [show p + 1 + i = p + (i + 1) by omega, this]
          rfl
        show ((a == y) && t.isPrefixOf r) = true
        rw [Bool.and_eq_true]
        exact ⟨by simp [hay], h3⟩

/-- A prefix that has no neutral byte, seen through a window. -/
theorem Vw.vpre {s u : ByteArray} {d P Q p : Nat} (h : Vw s u d P Q) (h1 : P ≤ p) {x : List UInt8} (hx : ∀ b ∈ x, b ≠ 0) (hl : p + x.length ≤ Q) :
    Lib.hasPrefix (u.extract (p + d) u.size).data.toList x = Lib.hasPrefix (s.extract p s.size).data.toList x := by
  have e1 := pre_iff s p x hx
  have e2 := pre_iff u (p + d) x hx
  have : (Lib.hasPrefix (u.extract (p + d) u.size).data.toList x = true) ↔ (Lib.hasPrefix (s.extract p s.size).data.toList x = true) := by
    rw [e1, e2]
    constructor
    · intro g i hi
      rw [← h.eq (p + i) (by omega) (by omega), ← g i hi]
      congr 1
      omega
    · intro g i hi
      rw [← g i hi, ← h.eq (p + i) (by omega) (by omega)]
      congr 1
      omega
  cases ha : Lib.hasPrefix (u.extract (p + d) u.size).data.toList x <;> cases hb : Lib.hasPrefix (s.extract p s.size).data.toList x
  · rfl
  · rw [ha, hb] at this; simp at this
  · rw [ha, hb] at this; simp at this
  · rfl

/-- A prefix without a neutral byte that would reach over the window's end is not there. -/
theorem Vw.pre_over {u : ByteArray} {d Q p : Nat} (n : Neu (byteAt u (Q + d))) {x : List UInt8} (hx : ∀ b ∈ x, b ≠ 0 ∧ b ≠ 9 ∧ b ≠ 10 ∧ b ≠ 32) (h2 : p ≤ Q) (hl : Q < p + x.length) :
    Lib.hasPrefix (u.extract (p + d) u.size).data.toList x = false := by
  cases hb : Lib.hasPrefix (u.extract (p + d) u.size).data.toList x
  · rfl
  · have e := (pre_iff u (p + d) x fun b hb => (hx b hb).1).1 hb (Q - p) (by omega)
    rw [show p + d + (Q - p) = Q + d by omega] at e
    obtain ⟨h3, h4, h5, h6⟩ := hx _ (List.getElem_mem (show Q - p < x.length by omega))
    generalize x[Q - p]'(by omega) = b at e h3 h4 h5 h6
    rw [e] at n
    have f : ∀ k : UInt8, b ≠ k → b.toNat ≠ k.toNat := fun k hk hh => hk (UInt8.toNat.inj hh)
    have f0 := f 0 h3
    have f1 := f 9 h4
    have f2 := f 10 h5
    have f3 := f 32 h6
    have g0 : (0 : UInt8).toNat = 0 := rfl
    have g1 : (9 : UInt8).toNat = 9 := rfl
    have g2 : (10 : UInt8).toNat = 10 := rfl
    have g3 : (32 : UInt8).toNat = 32 := rfl
    rcases n with n | n | n | n <;> omega

/-! ### Runs, words -/

theorem runEnd_ge (p : Int → Bool) (p0 : p 0 = false) (s : ByteArray) : ∀ (n a : Nat), s.size ≤ a + n → a ≤ runEnd p s a
  | 0, a, h => by
    have : p (byteAt s a) = false := by rw [byteAt_out (by omega)]; exact p0
    rw [runEnd_off this]
    exact Nat.le_refl _
  | n + 1, a, h => by
    cases hb : p (byteAt s a)
    · rw [runEnd_off hb]
      exact Nat.le_refl _
    · rw [runEnd_on p0 hb]
      have := runEnd_ge p p0 s n (a + 1) (by omega)
      omega

theorem Vw.run {s u : ByteArray} {d P Q : Nat} (h : Vw s u d P Q) (n : Neu (byteAt u (Q + d))) {p : Int → Bool} (p0 : p 0 = false) (pn : ∀ b, Neu b → p b = false) :
    ∀ (k a : Nat), Q ≤ a + k → P ≤ a → runEnd p s a ≤ Q → runEnd p u (a + d) = runEnd p s a + d
  | 0, a, hk, ha, hq => by
    have hg := runEnd_ge p p0 s s.size a (by omega)
    obtain rfl : a = Q := by omega
    rw [runEnd_off (pn _ n)]
    omega
  | k + 1, a, hk, ha, hq => by
    have hg := runEnd_ge p p0 s s.size a (by omega)
    rcases h.at n ha (show a ≤ Q by omega) with e | ⟨rfl, e⟩
    · cases hb : p (byteAt s a)
      · rw [runEnd_off hb, runEnd_off (by rw [e]; exact hb)]
      · rw [runEnd_on p0 hb] at hq ⊢
        rw [runEnd_on p0 (by rw [e]; exact hb), show a + d + 1 = a + 1 + d by omega]
        exact Vw.run h n p0 pn k (a + 1) (by omega) (by omega) hq
    · rw [runEnd_off (pn _ e)]
      omega

theorem Vw.word {s u : ByteArray} {d P Q a : Nat} (h : Vw s u d P Q) (n : Neu (byteAt u (Q + d))) (ha : P ≤ a) (hq : wordEnd s a ≤ Q) : wordEnd u (a + d) = wordEnd s a + d := by
  unfold wordEnd at hq ⊢
  have g1 := runEnd_ge partB part0 s s.size a (by omega)
  have g2 := runEnd_ge quoteB quote0 s s.size (runEnd partB s a) (by omega)
  rw [h.run n part0 (fun _ e => e.part) Q a (by omega) ha (by omega)]
  exact h.run n quote0 (fun _ e => e.quote) Q _ (by omega) (by omega) hq

/-! ### Digits -/

theorem dpos_succ (s : ByteArray) (a k : Nat) : dpos s a (k + 1) = if byteAt s (dpos s a k + 1) = 95 then dpos s a k + 2 else dpos s a k + 1 := rfl

theorem dpos_mono (s : ByteArray) (a : Nat) : ∀ j k : Nat, j ≤ k → dpos s a j ≤ dpos s a k
  | j, 0, h => by obtain rfl : j = 0 := by omega
                  exact Nat.le_refl _
  | j, k + 1, h => by
    by_cases hj : j = k + 1
    · rw [hj]; exact Nat.le_refl _
    · have := dpos_mono s a j k (by omega)
      have : dpos s a k ≤ dpos s a (k + 1) := by
        rw [dpos_succ]
        split <;> omega
      omega

theorem dpos_lt (s : ByteArray) (a k : Nat) : dpos s a k + 1 ≤ dpos s a (k + 1) := by
  rw [dpos_succ]
  split <;> omega

theorem Vw.vdpos {s u : ByteArray} {d P Q a : Nat} (h : Vw s u d P Q) (n : Neu (byteAt u (Q + d))) (ha : P ≤ a) : ∀ k, dpos s a k ≤ Q → dpos u (a + d) k = dpos s a k + d
  | 0, _ => rfl
  | k + 1, hq => by
    have h1 := dpos_lt s a k
    have h2 := dpos_ge s a k
    have ih := Vw.vdpos h n ha k (by omega)
    have e : dpos s a (k + 1) = if byteAt s (dpos s a k + 1) = 95 then dpos s a k + 2 else dpos s a k + 1 := rfl
    have e' : dpos u (a + d) (k + 1) = if byteAt u (dpos u (a + d) k + 1) = 95 then dpos u (a + d) k + 2 else dpos u (a + d) k + 1 := rfl
    rw [e', ih, show dpos s a k + d + 1 = dpos s a k + 1 + d by omega]
    rcases h.at n (show P ≤ dpos s a k + 1 by omega) (show dpos s a k + 1 ≤ Q by omega) with hb | ⟨hx, hn⟩
    · rw [hb, e]
      split <;> omega
    · rw [if_neg (hn.ne (by decide)), e]
      rw [e] at hq
      split at hq
      · omega
      · rename_i hc
        rw [if_neg hc]

theorem Vw.runU {s u : ByteArray} {d P Q a N : Nat} {base : Int} (h : Vw s u d P Q) (n : Neu (byteAt u (Q + d))) (ha : P ≤ a) (hR : RunU s a N base true) (hq : dpos s a N ≤ Q) : RunU u (a + d) N base true := by
  have hd : ∀ k, k ≤ N → dpos u (a + d) k = dpos s a k + d := fun k hk => h.vdpos n ha k (Nat.le_trans (dpos_mono s a k N hk) hq)
  have hP : ∀ k, P ≤ dpos s a k := fun k => by have := dpos_ge s a k; omega
  have hlt : ∀ k, k < N → dpos s a k < Q := fun k hk => by
    have := dpos_lt s a k
    have := dpos_mono s a (k + 1) N (by omega)
    omega
  refine ⟨fun k hk => ?_, fun k hk h95 => ?_, fun _ => ?_, fun e => (by cases e), ?_⟩
  · rw [hd k (by omega), h.eq _ (hP k) (hlt k hk)]
    exact hR.dig k hk
  · rw [hd k (by omega)] at h95 ⊢
    have h1 := dpos_lt s a k
    have h2 := dpos_mono s a (k + 1) N (by omega)
    rw [show dpos s a k + d + 1 = dpos s a k + 1 + d by omega] at h95
    have h95' : byteAt s (dpos s a k + 1) = 95 := by
      rcases h.at n (show P ≤ dpos s a k + 1 by have := hP k; omega) (show dpos s a k + 1 ≤ Q by omega) with hb | ⟨hx, hn⟩
      · rw [← hb]; exact h95
      · exact absurd h95 (hn.ne (by decide))
    have hdig := hR.und k hk h95'
    have e : dpos s a (k + 1) = dpos s a k + 2 := by
      rw [dpos_succ, if_pos h95']
    have hkN : k + 1 < N := by
      rcases Nat.lt_or_ge (k + 1) N with hk2 | hk2
      · exact hk2
      · obtain rfl : N = k + 1 := by omega
        have hst := hR.stop rfl
        rw [e, show dpos s a k + 2 = dpos s a k + 1 + 1 by omega] at hst
        exact absurd hdig hst
    have h3 := hlt (k + 1) hkN
    rw [show dpos s a k + d + 1 + 1 = dpos s a k + 1 + 1 + d by omega, h.eq _ (by have := hP k; omega) (by omega)]
    exact hdig
  · rw [hd N (Nat.le_refl _)]
    rcases h.at n (hP N) hq with hb | ⟨_, hn⟩
    · rw [hb]; exact hR.stop rfl
    · exact hn.digV
  · rw [hd N (Nat.le_refl _)]
    have := h.hu
    omega

theorem Vw.vnumW {s u : ByteArray} {d P Q a base : Nat} (h : Vw s u d P Q) (n : Neu (byteAt u (Q + d))) (ha : P ≤ a) : ∀ N, dpos s a N ≤ Q → numW u (a + d) base N = numW s a base N
  | 0, _ => rfl
  | N + 1, hq => by
    have h1 := dpos_lt s a N
    have h2 := dpos_ge s a N
    have ih := Vw.vnumW (base := base) h n ha N (by omega)
    have hb : byteAt u (dpos u (a + d) N) = byteAt s (dpos s a N) := by
      rw [h.vdpos n ha N (by omega)]
      exact h.eq _ (by omega) (by omega)
    unfold numW
    rw [ih, hb]

theorem expo_ge {s : ByteArray} {a q : Nat} {fl : Bool} {r : Option (Bool × Nat)} (h : Expo s a r) (hr : r = some (fl, q)) : a ≤ q ∧ (fl = true → a + 2 ≤ q) := by
  cases h with
  | no _ _ => cases hr; exact ⟨Nat.le_refl _, fun h => by cases h⟩
  | bad _ _ _ _ _ => cases hr
  | ok g N hR hN =>
    cases hr
    have := dpos_ge s (signEnd s a) N
    have : a + 1 ≤ signEnd s a := by unfold signEnd; split <;> omega
    exact ⟨by omega, fun _ => by omega⟩

theorem Vw.expo {s u : ByteArray} {d P Q a q : Nat} {fl : Bool} {r : Option (Bool × Nat)} (h : Vw s u d P Q) (n : Neu (byteAt u (Q + d))) (ha : P ≤ a) (hE : Expo s a r) (hr : r = some (fl, q)) (hq : q ≤ Q) : Expo u (a + d) (some (fl, q + d)) := by
  cases hE with
  | no h1 h2 =>
    cases hr
    rcases h.at n ha hq with hb | ⟨_, hn⟩
    · exact .no (by rw [hb]; exact h1) (by rw [hb]; exact h2)
    · exact .no (hn.ne (by decide)) (hn.ne (by decide))
  | bad _ _ _ _ _ => cases hr
  | ok g N hR hN =>
    cases hr
    have hge := dpos_ge s (signEnd s a) N
    have hse : a + 1 ≤ signEnd s a := by unfold signEnd; split <;> omega
    have e0 := h.eq a ha (by omega)
    have e1 := h.eq (a + 1) (by omega) (by omega)
    have es : signEnd u (a + d) = signEnd s a + d := by
      unfold signEnd
      rw [show a + d + 1 = a + 1 + d by omega, e1]
      split <;> omega
    have hR' := h.runU n (by omega) hR hq
    have hd := h.vdpos n (show P ≤ signEnd s a by omega) N hq
    rw [← es] at hR' hd
    rw [← hd]
    exact .ok (by rw [e0]; exact g) N hR' hN

theorem frac_ge {s : ByteArray} {a q : Nat} {fl : Bool} {r : Option (Bool × Nat)} (h : Frac s a r) (hr : r = some (fl, q)) : a ≤ q := by
  cases h with
  | noPoint _ _ he => exact (expo_ge he hr).1
  | badPoint _ _ _ _ _ _ => cases hr
  | point g1 g2 N hR hN r' he =>
    cases r' with
    | none => cases hr
    | some x =>
      obtain ⟨f, q'⟩ := x
      cases hr
      have := (expo_ge he rfl).1
      have := dpos_ge s (a + 1) N
      show a ≤ q'
      omega

theorem Vw.frac {s u : ByteArray} {d P Q a q : Nat} {fl : Bool} {r : Option (Bool × Nat)} (h : Vw s u d P Q) (n : Neu (byteAt u (Q + d))) (ha : P ≤ a) (hF : Frac s a r) (hr : r = some (fl, q)) (hq : q ≤ Q) : Frac u (a + d) (some (fl, q + d)) := by
  cases hF with
  | noPoint g _ he =>
    have hge := (expo_ge he hr).1
    refine .noPoint ?_ _ (h.expo n ha he hr hq)
    rintro ⟨k1, k2⟩
    rcases h.at n ha (show a ≤ Q by omega) with hb | ⟨_, hn⟩
    · rcases Nat.lt_or_ge a Q with hx | hx
      · rw [show a + d + 1 = a + 1 + d by omega] at k2
        rcases h.at n (show P ≤ a + 1 by omega) (show a + 1 ≤ Q by omega) with hb2 | ⟨_, hn⟩
        · exact g ⟨by rw [← hb]; exact k1, by rw [← hb2]; exact k2⟩
        · rw [hn.dig] at k2; cases k2
      · obtain rfl : a = Q := by omega
        exact absurd k1 (n.ne (by decide))
    · exact absurd k1 (hn.ne (by decide))
  | badPoint _ _ _ _ _ _ => cases hr
  | point g1 g2 N hR hN r' he =>
    cases r' with
    | none => cases hr
    | some x =>
      obtain ⟨f, q'⟩ := x
      have hr' : (true, q') = (fl, q) := Option.some.inj hr
      cases hr'
      have h1 := (expo_ge he rfl).1
      have h2 := dpos_ge s (a + 1) N
      have e0 := h.eq a ha (by omega)
      have e1 := h.eq (a + 1) (by omega) (by omega)
      have hR' := h.runU n (show P ≤ a + 1 by omega) hR (by omega)
      have hd := h.vdpos n (show P ≤ a + 1 by omega) N (by omega)
      have he' := h.expo n (show P ≤ dpos s (a + 1) N by omega) he rfl hq
      rw [← hd] at he'
      rw [show a + 1 + d = a + d + 1 by omega] at hR' he' e1
      exact .point (by rw [e0]; exact g1) (by rw [e1]; exact g2) N hR' hN (some (f, q + d)) he'

theorem nz_zx : ∀ b ∈ zx.data.toList, b ≠ 0 ∧ b ≠ 9 ∧ b ≠ 10 ∧ b ≠ 32 := by decide
theorem nz_zb : ∀ b ∈ zb.data.toList, b ≠ 0 ∧ b ≠ 9 ∧ b ≠ 10 ∧ b ≠ 32 := by decide
theorem nz_q3 : ∀ b ∈ quote3.data.toList, b ≠ 0 ∧ b ≠ 9 ∧ b ≠ 10 ∧ b ≠ 32 := by decide
theorem nz_b1 : ∀ b ∈ back1.data.toList, b ≠ 0 ∧ b ≠ 9 ∧ b ≠ 10 ∧ b ≠ 32 := by decide
theorem nz_s2 : ∀ b ∈ slash2.data.toList, b ≠ 0 ∧ b ≠ 9 ∧ b ≠ 10 ∧ b ≠ 32 := by decide
theorem nz_sS : ∀ b ∈ slashS.data.toList, b ≠ 0 ∧ b ≠ 9 ∧ b ≠ 10 ∧ b ≠ 32 := by decide

/-- A prefix that is not there is not there in the window, either. -/
theorem Vw.pre_no {s u : ByteArray} {d P Q p : Nat} (h : Vw s u d P Q) (n : Neu (byteAt u (Q + d))) {x : ByteArray} (hx : ∀ b ∈ x.data.toList, b ≠ 0 ∧ b ≠ 9 ∧ b ≠ 10 ∧ b ≠ 32) (h1 : P ≤ p) (h2 : p ≤ Q) (hp : pre s p x = false) : pre u (p + d) x = false := by
  rcases Nat.lt_or_ge Q (p + x.data.toList.length) with hl | hl
  · exact Vw.pre_over n hx h2 hl
  · show Lib.hasPrefix _ _ = false
    rw [h.vpre h1 (fun b hb => (hx b hb).1) hl]
    exact hp

theorem Vw.pre_yes {s u : ByteArray} {d P Q p : Nat} (h : Vw s u d P Q) {x : ByteArray} (hx : ∀ b ∈ x.data.toList, b ≠ 0 ∧ b ≠ 9 ∧ b ≠ 10 ∧ b ≠ 32) (h1 : P ≤ p) (h2 : p + x.data.toList.length ≤ Q) (hp : pre s p x = true) : pre u (p + d) x = true := by
  show Lib.hasPrefix _ _ = true
  rw [h.vpre h1 (fun b hb => (hx b hb).1) h2]
  exact hp

theorem Vw.num {s u : ByteArray} {d P Q p q : Nat} {k : Int} {tx : ByteArray} {r : Option (Int × ByteArray × Nat)} (h : Vw s u d P Q) (n : Neu (byteAt u (Q + d))) (hp : P ≤ p) (hN : NumAt s p r) (hr : r = some (k, tx, q)) (hq : q ≤ Q) : NumAt u (p + d) (some (k, tx, q + d)) := by
  have l2x : zx.data.toList.length = 2 := rfl
  have l2b : zb.data.toList.length = 2 := rfl
  have hi : ∀ (a N base : Nat), P ≤ a → dpos s a N ≤ Q → intT u (a + d) base N = intT s a base N := fun a N base h1 h2 => by
    unfold intT
    rw [h.vnumW n h1 N h2]
  cases hN with
  | hexBad _ _ _ _ _ => cases hr
  | hexOver _ _ _ _ _ => cases hr
  | binBad _ _ _ _ _ _ => cases hr
  | binOver _ _ _ _ _ _ => cases hr
  | decBad _ _ _ _ _ _ => cases hr
  | decFrac _ _ _ _ _ _ => cases hr
  | decOver _ _ _ _ _ _ _ _ => cases hr
  | hexOk h0 N hR hN hv =>
    cases hr
    have h2 := dpos_ge s (p + 2) N
    have hd := h.vdpos n (show P ≤ p + 2 by omega) N hq
    have hR' := h.runU n (show P ≤ p + 2 by omega) hR hq
    have hi' := hi (p + 2) N 16 (by omega) hq
    have hw := h.vnumW (base := 16) n (show P ≤ p + 2 by omega) N hq
    rw [show p + 2 + d = p + d + 2 by omega] at hd hR' hi' hw
    rw [← hd, ← hi']
    exact .hexOk (h.pre_yes nz_zx hp (by omega) h0) N hR' hN (by rw [hw]; exact hv)
  | binOk h0 hb N hR hN hv =>
    cases hr
    have h2 := dpos_ge s (p + 2) N
    have hd := h.vdpos n (show P ≤ p + 2 by omega) N hq
    have hR' := h.runU n (show P ≤ p + 2 by omega) hR hq
    have hi' := hi (p + 2) N 2 (by omega) hq
    have hw := h.vnumW (base := 2) n (show P ≤ p + 2 by omega) N hq
    rw [show p + 2 + d = p + d + 2 by omega] at hd hR' hi' hw
    rw [← hd, ← hi']
    exact .binOk (h.pre_no n nz_zx hp (by omega) h0) (h.pre_yes nz_zb hp (by omega) hb) N hR' hN (by rw [hw]; exact hv)
  | decOk h0 hb N q' hR hN hF hv =>
    cases hr
    have h2 := dpos_ge s p N
    have h3 := frac_ge hF rfl
    have hd := h.vdpos n hp N (by omega)
    have hR' := h.runU n hp hR (by omega)
    have hw := h.vnumW (base := 10) n hp N (by omega)
    have hF' := h.frac n (show P ≤ dpos s p N by omega) hF rfl hq
    rw [← hd] at hF'
    rw [← hi p N 10 hp (by omega)]
    exact .decOk (h.pre_no n nz_zx hp (by omega) h0) (h.pre_no n nz_zb hp (by omega) hb) N _ hR' hN hF' (by rw [hw]; exact hv)
  | decFloat h0 hb N q' hR hN hF =>
    cases hr
    have h2 := dpos_ge s p N
    have h3 := frac_ge hF rfl
    have hd := h.vdpos n hp N (by omega)
    have hR' := h.runU n hp hR (by omega)
    have hF' := h.frac n (show P ≤ dpos s p N by omega) hF rfl hq
    rw [← hd] at hF'
    rw [← h.ext hp hq]
    exact .decFloat (h.pre_no n nz_zx hp (by omega) h0) (h.pre_no n nz_zb hp (by omega) hb) N _ hR' hN hF'

end Tk
end Go.Proofs.YtmphkifhnjfkmaaGreatDoor

namespace Go.Proofs.YtmphkifhnjfkmaaGreatDoor
open Go.ChangeShapes Go.WideShapes Go.ChangeAt Go.RowKit Go.WideMaps Go.Maps
namespace Tk

/-! ### Symbols -/

/-- A symbol stands at a place, whole. -/
def symC (s : ByteArray) (p : Nat) (y : ByteArray) : Bool := hasB s p y && wholeB s p y

theorem bestN_succ (s : ByteArray) (a k : Nat) : bestN s a (k + 1) = if decide ((bestN s a k).size < (symB.getD k ⟨#[]⟩).size) && hasB s a (symB.getD k ⟨#[]⟩) && wholeB s a (symB.getD k ⟨#[]⟩) then symB.getD k ⟨#[]⟩ else bestN s a k := rfl

theorem bestN_mono (s : ByteArray) (a : Nat) : ∀ j k : Nat, j ≤ k → (bestN s a j).size ≤ (bestN s a k).size
  | j, 0, h => by obtain rfl : j = 0 := by omega
                  exact Nat.le_refl _
  | j, k + 1, h => by
    by_cases hj : j = k + 1
    · rw [hj]; exact Nat.le_refl _
    · have h1 := bestN_mono s a j k (by omega)
      have h2 : (bestN s a k).size ≤ (bestN s a (k + 1)).size := by
        rw [bestN_succ]
        split
        · rename_i hc
          rw [Bool.and_eq_true, Bool.and_eq_true, decide_eq_true_eq] at hc
          omega
        · exact Nat.le_refl _
      omega

/-- The best symbol is as long as any that stands there. -/
theorem bestN_max (s : ByteArray) (a n k : Nat) (hk : k < n) (h : symC s a (symB.getD k ⟨#[]⟩) = true) : (symB.getD k ⟨#[]⟩).size ≤ (bestN s a n).size := by
  have h1 := bestN_mono s a (k + 1) n (by omega)
  have h2 : (symB.getD k ⟨#[]⟩).size ≤ (bestN s a (k + 1)).size := by
    rw [bestN_succ]
    split
    · exact Nat.le_refl _
    · rename_i hc
      unfold symC at h
      rw [Bool.and_assoc, h, Bool.and_true, decide_eq_true_eq] at hc
      omega
  omega

/-- What is best is none, or a symbol of the list that stands there. -/
theorem bestN_is (s : ByteArray) (a : Nat) : ∀ n, (bestN s a n).size = 0 ∨ ∃ k, k < n ∧ bestN s a n = symB.getD k ⟨#[]⟩ ∧ symC s a (bestN s a n) = true
  | 0 => .inl rfl
  | n + 1 => by
    rw [bestN_succ]
    split
    · rename_i hc
      rw [Bool.and_assoc, Bool.and_eq_true] at hc
      exact .inr ⟨n, by omega, rfl, hc.2⟩
    · rcases bestN_is s a n with h | ⟨k, hk, h1, h2⟩
      · exact .inl h
      · exact .inr ⟨k, by omega, h1, h2⟩

theorem sym_neu : ∀ k, k < 43 → ∀ b ∈ (symB.getD k ⟨#[]⟩).data.toList, b ≠ 0 ∧ b ≠ 9 ∧ b ≠ 10 ∧ b ≠ 32 := by
  have h : ∀ l ∈ symB, ∀ b ∈ l.data.toList, b ≠ 0 ∧ b ≠ 9 ∧ b ≠ 10 ∧ b ≠ 32 := by decide +kernel
  intro k hk
  have hl : symB.length = 43 := by decide
  rw [List.getD_eq_getElem?_getD, List.getElem?_eq_getElem (by omega)]
  exact h _ (List.getElem_mem _)

/-- Of the symbols that end with a letter no other one is the beginning. -/
theorem sym_alone : ∀ j, j < 43 → ∀ k, k < 43 → letB (byteAt (symB.getD k ⟨#[]⟩) ((symB.getD k ⟨#[]⟩).size - 1)) = true → (symB.getD j ⟨#[]⟩).data.toList.isPrefixOf (symB.getD k ⟨#[]⟩).data.toList = true → symB.getD j ⟨#[]⟩ = symB.getD k ⟨#[]⟩ := by
  have h : ((List.range 43).all fun j => (List.range 43).all fun k => !letB (byteAt (symB.getD k ⟨#[]⟩) ((symB.getD k ⟨#[]⟩).size - 1)) || !(symB.getD j ⟨#[]⟩).data.toList.isPrefixOf (symB.getD k ⟨#[]⟩).data.toList || (symB.getD j ⟨#[]⟩).data.toList == (symB.getD k ⟨#[]⟩).data.toList) = true := by decide +kernel
  intro j hj k hk h1 h2
  have h3 := List.all_eq_true.1 (List.all_eq_true.1 h j (List.mem_range.2 hj)) k (List.mem_range.2 hk)
  rw [h1, h2] at h3
  have h4 : (symB.getD j ⟨#[]⟩).data.toList = (symB.getD k ⟨#[]⟩).data.toList := by simpa using h3
  apply ByteArray.ext
  exact Array.toList_inj.1 h4

theorem size_list (x : ByteArray) : x.data.toList.length = x.size := by rw [Array.length_toList]; rfl

theorem Vw.sym {s u : ByteArray} {d P Q p : Nat} (h : Vw s u d P Q) (n : Neu (byteAt u (Q + d))) (hp : P ≤ p) (h1 : 1 ≤ (bestN s p 43).size) (hq : p + (bestN s p 43).size ≤ Q) : bestN u (p + d) 43 = bestN s p 43 := by
  obtain ⟨z, hz⟩ : ∃ z, z = bestN s p 43 := ⟨_, rfl⟩
  have hzc : ∃ k, k < 43 ∧ z = symB.getD k ⟨#[]⟩ ∧ symC s p z = true := by
    rcases bestN_is s p 43 with e | ⟨k, a, b, c⟩
    · omega
    · exact ⟨k, a, by rw [hz]; exact b, by rw [hz]; exact c⟩
  obtain ⟨kz, hkz, ez, cz⟩ := hzc
  have key : ∀ k, k < 43 → symC u (p + d) (symB.getD k ⟨#[]⟩) = symC s p (symB.getD k ⟨#[]⟩) := by
    intro k hk
    have hnz := sym_neu k hk
    have hmax := bestN_max s p 43 k hk
    obtain ⟨y, hy⟩ : ∃ y, y = symB.getD k ⟨#[]⟩ := ⟨_, rfl⟩
    rw [← hy] at hnz hmax ⊢
    rw [← hz] at hmax
    have hyl := size_list y
    have hzl := size_list z
    have fwd : symC s p y = true → symC u (p + d) y = true := by
      intro hc
      have hle := hmax hc
      unfold symC at hc ⊢
      rw [Bool.and_eq_true] at hc ⊢
      have hin : p + y.data.toList.length ≤ Q := by rw [hyl]; rw [← hz] at hq; omega
      refine ⟨?_, ?_⟩
      · show Lib.hasPrefix _ _ = true
        rw [h.vpre hp (fun b hb => (hnz b hb).1) hin]
        exact hc.1
      · have hw := hc.2
        unfold wholeB at hw ⊢
        rw [show p + d + y.size = p + y.size + d by omega]
        rcases h.at n (show P ≤ p + y.size by omega) (show p + y.size ≤ Q by rw [← hyl]; exact hin) with e | ⟨_, e⟩
        · rw [e]; exact hw
        · rw [e.part]; simp
    have bwd : symC u (p + d) y = true → symC s p y = true := by
      intro hc
      unfold symC at hc
      rw [Bool.and_eq_true] at hc
      have hin : p + y.data.toList.length ≤ Q := by
        rcases Nat.lt_or_ge Q (p + y.data.toList.length) with hl | hl
        · have := Vw.pre_over n hnz (show p ≤ Q by omega) hl
          have h2 : Lib.hasPrefix (u.extract (p + d) u.size).data.toList y.data.toList = true := hc.1
          rw [this] at h2
          cases h2
        · exact hl
      have hs : hasB s p y = true := by
        show Lib.hasPrefix _ _ = true
        rw [← h.vpre hp (fun b hb => (hnz b hb).1) hin]
        exact hc.1
      cases hl : letB (byteAt y (y.size - 1))
      · unfold symC wholeB
        rw [hs, hl]
        rfl
      · have hw := hc.2
        unfold wholeB at hw
        rw [hl] at hw
        rw [show p + d + y.size = p + y.size + d by omega] at hw
        rcases h.at n (show P ≤ p + y.size by omega) (show p + y.size ≤ Q by omega) with e | ⟨hx, _⟩
        · unfold symC wholeB
          rw [hs, hl, ← e]
          exact hw
        · -- the symbol ends where the window does: the best one is a beginning of it
          have hzs : hasB s p z = true := by
            unfold symC at cz
            rw [Bool.and_eq_true] at cz
            exact cz.1
          have p1 : y.data.toList <+: (s.extract p s.size).data.toList := List.isPrefixOf_iff_prefix.1 hs
          have p2 : z.data.toList <+: (s.extract p s.size).data.toList := List.isPrefixOf_iff_prefix.1 hzs
          have p3 : z.data.toList <+: y.data.toList := List.prefix_of_prefix_length_le p2 p1 (by rw [hyl, hzl]; rw [← hz] at hq; omega)
          have e := sym_alone kz hkz k hk (by rw [← hy]; exact hl) (by rw [← hy, ← ez]; exact List.isPrefixOf_iff_prefix.2 p3)
          rw [hy, ← e, ← ez]
          exact cz
    cases ha : symC u (p + d) y <;> cases hb : symC s p y
    · rfl
    · rw [fwd hb] at ha; cases ha
    · rw [bwd ha] at hb; cases hb
    · rfl
  have all : ∀ m, m ≤ 43 → bestN u (p + d) m = bestN s p m := by
    intro m
    induction m with
    | zero => intro _; rfl
    | succ m ih =>
      intro hm
      have hk := key m (by omega)
      unfold symC at hk
      rw [bestN_succ, bestN_succ, ih (by omega), Bool.and_assoc, Bool.and_assoc, hk]
  exact all 43 (Nat.le_refl _)

/-! ### Characters and strings -/

theorem Vw.vhexOk {s u : ByteArray} {d P Q a : Nat} (h : Vw s u d P Q) (ha : P ≤ a) : ∀ n, a + n ≤ Q → hexOk u (a + d) n = hexOk s a n ∧ hexV u (a + d) n = hexV s a n
  | 0, _ => ⟨rfl, rfl⟩
  | n + 1, hq => by
    obtain ⟨h1, h2⟩ := Vw.vhexOk h ha n (by omega)
    have e := h.eq (a + n) (by omega) (by omega)
    unfold hexOk hexV
    rw [h1, h2, show a + d + n = a + n + d by omega, e]
    exact ⟨rfl, rfl⟩

theorem Vw.vhexM {s u : ByteArray} {d P Q a n : Nat} {most : Int} (h : Vw s u d P Q) (ha : P ≤ a) (hq : a + n ≤ Q) : hexM u (a + d) n most = hexM s a n most := by
  obtain ⟨h1, h2⟩ := h.vhexOk ha n hq
  unfold hexM
  rw [h1, h2]

theorem escM_ge {s : ByteArray} {a q : Nat} {r : Int} (hm : escM s a = some (r, q)) : a + 2 ≤ q := by
  have lit : ∀ k : Int, some (k, a + 2) = some (r, q) → a + 2 ≤ q := fun k hh => by cases hh; exact Nat.le_refl _
  have hx : ∀ (k : Nat) (most : Int), (hexM s (a + 2) k most).map (fun r => (r, a + 2 + k)) = some (r, q) → a + 2 ≤ q := by
    intro k most hh
    rw [Option.map_eq_some_iff] at hh
    obtain ⟨x, h1, h2⟩ := hh
    cases h2
    omega
  unfold escM at hm
  by_cases c : byteAt s (a + 1) = 110
  · rw [if_pos c] at hm; exact lit _ hm
  rw [if_neg c] at hm
  clear c
  by_cases c : byteAt s (a + 1) = 116
  · rw [if_pos c] at hm; exact lit _ hm
  rw [if_neg c] at hm
  clear c
  by_cases c : byteAt s (a + 1) = 114
  · rw [if_pos c] at hm; exact lit _ hm
  rw [if_neg c] at hm
  clear c
  by_cases c : byteAt s (a + 1) = 48
  · rw [if_pos c] at hm; exact lit _ hm
  rw [if_neg c] at hm
  clear c
  by_cases c : byteAt s (a + 1) = 92
  · rw [if_pos c] at hm; exact lit _ hm
  rw [if_neg c] at hm
  clear c
  by_cases c : byteAt s (a + 1) = 34
  · rw [if_pos c] at hm; exact lit _ hm
  rw [if_neg c] at hm
  clear c
  by_cases c : byteAt s (a + 1) = 39
  · rw [if_pos c] at hm; exact lit _ hm
  rw [if_neg c] at hm
  clear c
  by_cases c : byteAt s (a + 1) = 120
  · rw [if_pos c] at hm; exact hx _ _ hm
  rw [if_neg c] at hm
  clear c
  by_cases c : byteAt s (a + 1) = 117
  · rw [if_pos c] at hm; exact hx _ _ hm
  rw [if_neg c] at hm
  clear c
  by_cases c : byteAt s (a + 1) = 85
  · rw [if_pos c] at hm; exact hx _ _ hm
  rw [if_neg c] at hm
  clear c
  cases hm

theorem Vw.esc {s u : ByteArray} {d P Q a q : Nat} {r : Int} (h : Vw s u d P Q) (ha : P ≤ a) (hm : escM s a = some (r, q)) (hq : q ≤ Q) : escM u (a + d) = some (r, q + d) := by
  have hge := escM_ge hm
  have e := h.eq (a + 1) (by omega) (by omega)
  rw [show a + 1 + d = a + d + 1 by omega] at e
  have lit : ∀ k : Int, some (k, a + 2) = some (r, q) → some (k, a + d + 2) = some (r, q + d) := fun k hh => by
    cases hh
    rw [show a + d + 2 = a + 2 + d by omega]
  have hx : ∀ (k : Nat) (most : Int), (hexM s (a + 2) k most).map (fun r => (r, a + 2 + k)) = some (r, q) → (hexM u (a + d + 2) k most).map (fun r => (r, a + d + 2 + k)) = some (r, q + d) := by
    intro k most hh
    rw [Option.map_eq_some_iff] at hh
    obtain ⟨x, h1, h2⟩ := hh
    have e1 : x = r := congrArg Prod.fst h2
    have e2 : a + 2 + k = q := congrArg Prod.snd h2
    have e3 := h.vhexM (n := k) (most := most) (show P ≤ a + 2 by omega) (by omega)
    rw [show a + 2 + d = a + d + 2 by omega, h1] at e3
    rw [e3]
    show some (x, a + d + 2 + k) = some (r, q + d)
    rw [e1, show a + d + 2 + k = q + d by omega]
  unfold escM at hm ⊢
  rw [e]
  by_cases c : byteAt s (a + 1) = 110
  · rw [if_pos c] at hm ⊢; exact lit _ hm
  rw [if_neg c] at hm ⊢
  clear c
  by_cases c : byteAt s (a + 1) = 116
  · rw [if_pos c] at hm ⊢; exact lit _ hm
  rw [if_neg c] at hm ⊢
  clear c
  by_cases c : byteAt s (a + 1) = 114
  · rw [if_pos c] at hm ⊢; exact lit _ hm
  rw [if_neg c] at hm ⊢
  clear c
  by_cases c : byteAt s (a + 1) = 48
  · rw [if_pos c] at hm ⊢; exact lit _ hm
  rw [if_neg c] at hm ⊢
  clear c
  by_cases c : byteAt s (a + 1) = 92
  · rw [if_pos c] at hm ⊢; exact lit _ hm
  rw [if_neg c] at hm ⊢
  clear c
  by_cases c : byteAt s (a + 1) = 34
  · rw [if_pos c] at hm ⊢; exact lit _ hm
  rw [if_neg c] at hm ⊢
  clear c
  by_cases c : byteAt s (a + 1) = 39
  · rw [if_pos c] at hm ⊢; exact lit _ hm
  rw [if_neg c] at hm ⊢
  clear c
  by_cases c : byteAt s (a + 1) = 120
  · rw [if_pos c] at hm ⊢; exact hx _ _ hm
  rw [if_neg c] at hm ⊢
  clear c
  by_cases c : byteAt s (a + 1) = 117
  · rw [if_pos c] at hm ⊢; exact hx _ _ hm
  rw [if_neg c] at hm ⊢
  clear c
  by_cases c : byteAt s (a + 1) = 85
  · rw [if_pos c] at hm ⊢; exact hx _ _ hm
  rw [if_neg c] at hm ⊢
  clear c
  cases hm

/-- What was decoded hangs on its own bytes alone. -/
theorem dec_local (n b0 b1 b2 b3 n' c0 c1 c2 c3 : Nat) (hv : ¬ ((Lib.decodeN n b0 b1 b2 b3).1 = 65533 ∧ (Lib.decodeN n b0 b1 b2 b3).2 < 2))
    (e0 : c0 = b0) (e1 : 2 ≤ (Lib.decodeN n b0 b1 b2 b3).2 → c1 = b1) (e2 : 3 ≤ (Lib.decodeN n b0 b1 b2 b3).2 → c2 = b2) (e3 : 4 ≤ (Lib.decodeN n b0 b1 b2 b3).2 → c3 = b3)
    (hn : (Lib.decodeN n b0 b1 b2 b3).2 ≤ n') : Lib.decodeN n' c0 c1 c2 c3 = Lib.decodeN n b0 b1 b2 b3 := by
  rcases Lib.decodeN_shape n b0 b1 b2 b3 with ⟨g1, g⟩ | ⟨g1, g2, g3, g4, g⟩ | ⟨g1, g2, g3, g4, g5, g6, g⟩ | ⟨g1, g2, g3, g4, g5, g6, g7, g⟩ | g
  · rw [g] at e1 e2 e3 hn ⊢
    subst e0
    unfold Lib.decodeN
    rw [if_pos g1]
  · rw [g] at e1 e2 e3 hn ⊢
    have e1' := e1 (Nat.le_refl _)
    subst e0 e1'
    have hn' : 2 ≤ n' := hn
    unfold Lib.decodeN
    rw [if_neg (by omega), if_pos ⟨g1, by omega, g3⟩, if_pos g4]
  · rw [g] at e1 e2 e3 hn ⊢
    have e1' := e1 (show 2 ≤ 3 by decide)
    have e2' := e2 (Nat.le_refl _)
    subst e0 e1' e2'
    have hn' : 3 ≤ n' := hn
    unfold Lib.decodeN
    rw [if_neg (by omega), if_neg (by omega), if_pos ⟨g1, ⟨by omega, g3⟩, by omega, g4⟩, if_pos ⟨g5, by omega⟩]
  · rw [g] at e1 e2 e3 hn ⊢
    have e1' := e1 (show 2 ≤ 4 by decide)
    have e2' := e2 (show 3 ≤ 4 by decide)
    have e3' := e3 (Nat.le_refl _)
    subst e0 e1' e2' e3'
    have hn' : 4 ≤ n' := hn
    unfold Lib.decodeN
    rw [if_neg (by omega), if_neg (by omega), if_neg (by omega), if_pos ⟨g1, ⟨by omega, g3⟩, ⟨by omega, g4⟩, by omega, g5⟩, if_pos ⟨g6, by omega⟩]
  · rw [g] at hv
    exact absurd ⟨rfl, by decide⟩ hv

theorem byteAt_nat (s : ByteArray) (j : Nat) : (byteAt s j).toNat = (s.data.toList.getD j 0).toNat := by rw [byteAt_list]; simp

theorem decGo_N (s : ByteArray) (a : Nat) (h : a < s.size) : Lib.decodeGo (s.extract a s.size) = Lib.decodeN (s.size - a) (byteAt s a).toNat (byteAt s (a + 1)).toNat (byteAt s (a + 2)).toNat (byteAt s (a + 3)).toNat := by
  have hz : (s.extract a s.size).size ≠ 0 := by rw [Lib.ext_size]; omega
  have e1 : Lib.decodeGo (s.extract a s.size) = Lib.decodeL (s.data.toList.drop a) := by
    unfold Lib.decodeGo
    rw [if_neg hz, ← Lib.ext_list]
    rfl
  have hd : ∀ i, (s.data.toList.drop a).getD i 0 = s.data.toList.getD (a + i) 0 := fun i => by
    rw [List.getD_eq_getElem?_getD, List.getD_eq_getElem?_getD, List.getElem?_drop]
  have h0 := hd 0
  rw [Nat.add_zero] at h0
  rw [e1, Lib.decodeL_N, h0, hd 1, hd 2, hd 3, byteAt_nat, byteAt_nat, byteAt_nat, byteAt_nat, List.length_drop, size_list]

theorem size_of_has' {s : ByteArray} {a : Nat} (hb : hasB s a back1 = true) : a < s.size := by
  rcases Nat.lt_or_ge a s.size with h | h
  · exact h
  · have e := (pre_iff s a back1.data.toList fun b hb => (nz_b1 b hb).1).1 hb 0 (by decide)
    rw [Nat.add_zero, byteAt_out h] at e
    exact absurd e (by decide)

theorem charM_ge {s : ByteArray} {a q : Nat} {r : Int} (hm : charM s a = some (r, q)) : a + 1 ≤ q ∧ a < s.size := by
  unfold charM at hm
  split at hm
  · rename_i hb
    have := escM_ge hm
    have := size_of_has' hb
    exact ⟨by omega, this⟩
  · split at hm
    · cases hm
    · rename_i hc
      have hlt : a < s.size := by
        rcases Nat.lt_or_ge a s.size with h1 | h1
        · exact h1
        · exfalso
          apply hc
          right
          have hz : (s.extract a s.size).size = 0 := by rw [Lib.ext_size]; omega
          unfold Lib.decodeGo
          rw [if_pos hz]
          exact ⟨rfl, by decide⟩
      cases hm
      rw [decGo_N s a hlt]
      have := Lib.decodeN_ge1 (s.size - a) (byteAt s a).toNat (byteAt s (a + 1)).toNat (byteAt s (a + 2)).toNat (byteAt s (a + 3)).toNat
      exact ⟨by omega, hlt⟩

theorem Vw.char {s u : ByteArray} {d P Q a q : Nat} {r : Int} (h : Vw s u d P Q) (ha : P ≤ a) (hm : charM s a = some (r, q)) (hq : q ≤ Q) : charM u (a + d) = some (r, q + d) := by
  obtain ⟨hge, hlt⟩ := charM_ge hm
  have hhas : hasB u (a + d) back1 = hasB s a back1 := h.vpre ha (fun b hb => (nz_b1 b hb).1) (show a + 1 ≤ Q by omega)
  have hu := h.hu
  unfold charM at hm ⊢
  rw [hhas]
  split at hm
  · rename_i hb
    rw [if_pos hb]
    exact h.esc ha hm hq
  · rename_i hb
    rw [if_neg hb]
    split at hm
    · cases hm
    · rename_i hc
      have e : Lib.decodeGo (u.extract (a + d) u.size) = Lib.decodeGo (s.extract a s.size) := by
        rw [decGo_N s a hlt] at hm hc ⊢
        rw [decGo_N u (a + d) (by omega)]
        have hK : a + (Lib.decodeN (s.size - a) (byteAt s a).toNat (byteAt s (a + 1)).toNat (byteAt s (a + 2)).toNat (byteAt s (a + 3)).toNat).2 = q := congrArg Prod.snd (Option.some.inj hm)
        refine dec_local _ _ _ _ _ _ _ _ _ _ (fun hh => hc (.inr ?_)) ?_ (fun hk => ?_) (fun hk => ?_) (fun hk => ?_) (by omega)
        · exact ⟨by have := hh.1; omega, by have := hh.2; omega⟩
        · rw [h.eq a ha (by omega)]
        · rw [show a + d + 1 = a + 1 + d by omega, h.eq (a + 1) (by omega) (by omega)]
        · rw [show a + d + 2 = a + 2 + d by omega, h.eq (a + 2) (by omega) (by omega)]
        · rw [show a + d + 3 = a + 3 + d by omega, h.eq (a + 3) (by omega) (by omega)]
      rw [e, if_neg hc]
      have e1 := congrArg Prod.fst (Option.some.inj hm)
      have e2 := congrArg Prod.snd (Option.some.inj hm)
      have e1' : ((Lib.decodeGo (s.extract a s.size)).1 : Int) = r := e1
      have e2' : a + (Lib.decodeGo (s.extract a s.size)).2 = q := e2
      rw [e1', ← e2', show a + d + (Lib.decodeGo (s.extract a s.size)).2 = a + (Lib.decodeGo (s.extract a s.size)).2 + d by omega]

theorem litF_ge {s : ByteArray} : ∀ (n p q : Nat) (rs : List Int), litF s n p = some (rs, q) → p ≤ q
  | 0, _, _, _, h => by cases h
  | n + 1, p, q, rs, h => by
    unfold litF at h
    split at h
    · cases h; exact Nat.le_refl _
    · cases hc : charM s p with
      | none => rw [hc] at h; cases h
      | some x =>
        obtain ⟨r, p2⟩ := x
        rw [hc] at h
        dsimp only at h
        rw [Option.map_eq_some_iff] at h
        obtain ⟨⟨rs2, q2⟩, h1, h2⟩ := h
        cases h2
        have := (charM_ge hc).1
        have := litF_ge n p2 q2 rs2 h1
        show p ≤ q2
        omega

theorem Vw.lit {s u : ByteArray} {d P Q : Nat} (h : Vw s u d P Q) : ∀ (n p q : Nat) (rs : List Int), litF s n p = some (rs, q) → P ≤ p → q < Q → ∀ n', q + 1 ≤ n' + p → litF u n' (p + d) = some (rs, q + d)
  | 0, _, _, _, hl, _, _, _, _ => by cases hl
  | n + 1, p, q, rs, hl, hp, hq, n', hn => by
    have hge := litF_ge _ _ _ _ hl
    obtain ⟨m, rfl⟩ : ∃ m, n' = m + 1 := ⟨n' - 1, by omega⟩
    have e := h.eq p hp (by omega)
    unfold litF at hl ⊢
    rw [e]
    split at hl
    · rename_i hc
      cases hl
      rw [if_pos hc]
    · rename_i hc34
      rw [if_neg hc34]
      cases hc : charM s p with
      | none => rw [hc] at hl; cases hl
      | some x =>
        obtain ⟨r, p2⟩ := x
        rw [hc] at hl
        dsimp only at hl
        rw [Option.map_eq_some_iff] at hl
        obtain ⟨⟨rs2, q2⟩, h1, h2⟩ := hl
        cases h2
        have g1 := (charM_ge hc).1
        have g2 := litF_ge n p2 q2 rs2 h1
        have hq' : q2 < Q := hq
        have hn' : q2 + 1 ≤ m + 1 + p := hn
        have e1 := h.char hp hc (by omega)
        have e2 := Vw.lit h n p2 q2 rs2 h1 (by omega) hq' m (by omega)
        rw [e1]
        dsimp only
        rw [e2]
        rfl

theorem chrM_ge {s : ByteArray} {a q : Nat} {r : Int} (hm : chrM s a = some (r, q)) : a + 3 ≤ q := by
  unfold chrM at hm
  split at hm
  · cases hm
  · cases hc : charM s (a + 1) with
    | none => rw [hc] at hm; cases hm
    | some x =>
      obtain ⟨r0, q0⟩ := x
      rw [hc] at hm
      dsimp only at hm
      have := (charM_ge hc).1
      split at hm
      · cases hm; omega
      · cases hm

theorem Vw.chr {s u : ByteArray} {d P Q a q : Nat} {r : Int} (h : Vw s u d P Q) (ha : P ≤ a) (hm : chrM s a = some (r, q)) (hq : q ≤ Q) : chrM u (a + d) = some (r, q + d) := by
  have hge := chrM_ge hm
  have e := h.eq (a + 1) (by omega) (by omega)
  rw [show a + 1 + d = a + d + 1 by omega] at e
  unfold chrM at hm ⊢
  rw [e]
  split at hm
  · cases hm
  · rename_i h39
    rw [if_neg h39]
    cases hc : charM s (a + 1) with
    | none => rw [hc] at hm; cases hm
    | some x =>
      obtain ⟨r0, q0⟩ := x
      rw [hc] at hm
      dsimp only at hm
      have g := (charM_ge hc).1
      split at hm
      · rename_i hz
        cases hm
        have e1 := h.char (show P ≤ a + 1 by omega) hc (by omega)
        rw [show a + 1 + d = a + d + 1 by omega] at e1
        rw [e1]
        dsimp only
        rw [h.eq q0 (by omega) (by omega), if_pos hz, show q0 + d + 1 = q0 + 1 + d by omega]
      · cases hm

theorem Vw.blk {s u : ByteArray} {d P Q a q : Nat} (h : Vw s u d P Q) (ha : P ≤ a) (hm : blkM s a = some q) (hq : q + 3 ≤ Q) : blkM u (a + d) = some (q + d) := by
  have hs := h.hs
  have hu := h.hu
  unfold blkM at hm
  split at hm
  · cases hm
  · rename_i hc
    split at hm
    · rename_i hv
      obtain ⟨j, hj, hjl, hocc, hno⟩ : ∃ j : Nat, findQ s (a + 3) = j ∧ j ≤ (s.extract (a + 3) s.size).data.toList.length ∧ Lib.occAt (s.extract (a + 3) s.size).data.toList quote3.data.toList j = true ∧ Lib.NoOcc (s.extract (a + 3) s.size).data.toList quote3.data.toList j := by
        rcases Lib.index_spec (s.extract (a + 3) s.size).data.toList quote3.data.toList with ⟨e, _⟩ | ⟨i, e1, e2, e3, e4⟩
        · exact absurd e hc
        · exact ⟨i, e1, e2, e3, e4⟩
      rw [hj] at hm hv
      have hq' : a + 3 + j = q := by
        have := Option.some.inj hm
        omega
      have occ : ∀ (t : ByteArray) (p i : Nat), Lib.occAt (t.extract p t.size).data.toList quote3.data.toList i = Lib.hasPrefix (t.extract (p + i) t.size).data.toList quote3.data.toList := by
        intro t p i
        unfold Lib.occAt Lib.hasPrefix
        rw [Lib.ext_list, Lib.ext_list, List.drop_drop]
      have l3 : quote3.data.toList.length = 3 := rfl
      have same : ∀ i, i ≤ j → Lib.occAt (u.extract (a + d + 3) u.size).data.toList quote3.data.toList i = Lib.occAt (s.extract (a + 3) s.size).data.toList quote3.data.toList i := by
        intro i hi
        rw [occ, occ, show a + d + 3 + i = a + 3 + i + d by omega]
        exact h.vpre (by omega) (fun b hb => (nz_q3 b hb).1) (by omega)
      have hlen : (u.extract (a + d + 3) u.size).data.toList.length = u.size - (a + d + 3) := by rw [size_list, Lib.ext_size]
      have hf : findQ u (a + d + 3) = j := Lib.index_first (by omega) (by rw [same j (Nat.le_refl _)]; exact hocc) (fun i hi => by rw [same i (by omega)]; exact hno i hi)
      have hx : u.extract (a + d + 3) (a + d + 3 + j) = s.extract (a + 3) (a + 3 + j) := by
        rw [show a + d + 3 = a + 3 + d by omega, show a + 3 + d + j = a + 3 + j + d by omega]
        exact h.ext (by omega) (by omega)
      have hjn : ((j : Int)).toNat = j := by omega
      unfold blkM
      rw [hf, hjn, hx]
      rw [hjn] at hv
      rw [if_neg (by omega), if_pos hv]
      congr 1
      omega
    · cases hm

end Tk
end Go.Proofs.YtmphkifhnjfkmaaGreatDoor

namespace Go.Proofs.YtmphkifhnjfkmaaGreatDoor
open Go.ChangeShapes Go.WideShapes Go.ChangeAt Go.RowKit Go.WideMaps Go.Maps
namespace Tk

/-! ### The token at a place -/

theorem word_gt {s : ByteArray} {p : Nat} (hb : partB (byteAt s p) = true) : p < wordEnd s p := by
  unfold wordEnd
  rw [runEnd_on part0 hb]
  have g1 := runEnd_ge partB part0 s s.size (p + 1) (by omega)
  have g2 := runEnd_ge quoteB quote0 s s.size (runEnd partB s (p + 1)) (by omega)
  omega

theorem num_gt {s : ByteArray} {p q : Nat} {k : Int} {tx : ByteArray} {r : Option (Int × ByteArray × Nat)} (hN : NumAt s p r) (hr : r = some (k, tx, q)) : p < q := by
  cases hN with
  | hexBad _ _ _ _ _ => cases hr
  | hexOver _ _ _ _ _ => cases hr
  | binBad _ _ _ _ _ _ => cases hr
  | binOver _ _ _ _ _ _ => cases hr
  | decBad _ _ _ _ _ _ => cases hr
  | decFrac _ _ _ _ _ _ => cases hr
  | decOver _ _ _ _ _ _ _ _ => cases hr
  | hexOk h0 N hR hN hv => cases hr; have := dpos_ge s (p + 2) N; omega
  | binOk h0 hb N hR hN hv => cases hr; have := dpos_ge s (p + 2) N; omega
  | decOk h0 hb N q' hR hN hF hv => cases hr; have := dpos_ge s p N; have := frac_ge hF rfl; omega
  | decFloat h0 hb N q' hR hN hF => cases hr; have := dpos_ge s p N; have := frac_ge hF rfl; omega

theorem blkM_ge {s : ByteArray} {a q : Nat} (hm : blkM s a = some q) : a + 3 ≤ q := by
  unfold blkM at hm
  split at hm
  · cases hm
  · split at hm
    · have := Option.some.inj hm; omega
    · cases hm

set_option maxRecDepth 20000 in
/-- A token that ends in a window is the token there. -/
theorem Vw.tok {s u : ByteArray} {d P Q p q : Nat} {k : Int} {tx : ByteArray} {r : (Int × ByteArray × Nat) ⊕ Int} (h : Vw s u d P Q) (n : Neu (byteAt u (Q + d))) (hp : P ≤ p) (hT : TokAt s p r) (hr : r = .inl (k, tx, q)) (hq : q ≤ Q) : p < q ∧ TokAt u (p + d) (.inl (k, tx, q + d)) := by
  have part : ∀ x, P ≤ x → x ≤ Q → partB (byteAt s x) = false → partB (byteAt u (x + d)) = false := fun x h1 h2 h3 => by
    rcases h.at n h1 h2 with e | ⟨_, e⟩
    · rw [e]; exact h3
    · exact e.part
  cases hT with
  | word hl =>
    simp only [Sum.inl.injEq, Prod.mk.injEq] at hr
    obtain ⟨rfl, rfl, rfl⟩ := hr
    have hg := word_gt (s := s) (p := p) (by unfold partB; rw [hl]; rfl)
    have e0 := h.eq p hp (by omega)
    have ht : TokAt u (p + d) _ := .word (by rw [e0]; exact hl)
    rw [h.word n hp hq, h.ext hp hq] at ht
    exact ⟨hg, ht⟩
  | under hl h95 =>
    simp only [Sum.inl.injEq, Prod.mk.injEq] at hr
    obtain ⟨rfl, rfl, rfl⟩ := hr
    have hg := word_gt (s := s) (p := p) (by rw [h95]; decide)
    have e0 := h.eq p hp (by omega)
    have ht : TokAt u (p + d) _ := .under (by rw [e0]; exact hl) (by rw [e0]; exact h95)
    rw [h.word n hp hq, h.ext hp hq] at ht
    exact ⟨hg, ht⟩
  | num hl hd h95 _ _ _ hN he =>
    simp only [Sum.inl.injEq, Prod.mk.injEq] at hr
    obtain ⟨rfl, rfl, rfl⟩ := hr
    have hg := num_gt hN rfl
    have e0 := h.eq p hp (by omega)
    exact ⟨hg, .num (by rw [e0]; exact hl) (by rw [e0]; exact hd) (by rw [e0]; exact h95) _ _ _ (h.num n hp hN rfl hq) (part _ (by omega) hq he)⟩
  | char hl hd h95 h39 r0 _ hm he =>
    simp only [Sum.inl.injEq, Prod.mk.injEq] at hr
    obtain ⟨rfl, rfl, rfl⟩ := hr
    have hg := chrM_ge hm
    have e0 := h.eq p hp (by omega)
    exact ⟨by omega, .char (by rw [e0]; exact hl) (by rw [e0]; exact hd) (by rw [e0]; exact h95) (by rw [e0]; exact h39) _ _ (h.chr hp hm hq) (part _ (by omega) hq he)⟩
  | block hl hd h95 h39 h34 h3 q0 hm =>
    simp only [Sum.inl.injEq, Prod.mk.injEq] at hr
    obtain ⟨rfl, rfl, rfl⟩ := hr
    have hg := blkM_ge hm
    have e0 := h.eq p hp (by omega)
    have ht : TokAt u (p + d) _ := .block (by rw [e0]; exact hl) (by rw [e0]; exact hd) (by rw [e0]; exact h95) (by rw [e0]; exact h39) (by rw [e0]; exact h34) (h.pre_yes nz_q3 hp (show p + 3 ≤ Q by omega) h3) _ (h.blk hp hm hq)
    rw [show p + d + 3 = p + 3 + d by omega, h.ext (show P ≤ p + 3 by omega) (show q0 ≤ Q by omega), show q0 + d + 3 = q0 + 3 + d by omega] at ht
    exact ⟨by omega, ht⟩
  | line h34 h3 rs q0 hm =>
    simp only [Sum.inl.injEq, Prod.mk.injEq] at hr
    obtain ⟨rfl, rfl, rfl⟩ := hr
    have hg := litF_ge _ _ _ _ hm
    have e0 := h.eq p hp (by omega)
    have hu := h.hu
    have hl := h.lit _ _ _ _ hm (show P ≤ p + 1 by omega) (by omega) (u.size + 1) (by omega)
    rw [show p + 1 + d = p + d + 1 by omega] at hl
    have ht : TokAt u (p + d) _ := .line (by rw [e0]; exact h34) (h.pre_no n nz_q3 hp (by omega) h3) _ _ hl
    rw [show q0 + d + 1 = q0 + 1 + d by omega] at ht
    exact ⟨by omega, ht⟩
  | symbol hl hd h95 h39 h34 h3 hn =>
    simp only [Sum.inl.injEq, Prod.mk.injEq] at hr
    obtain ⟨rfl, rfl, rfl⟩ := hr
    have e0 := h.eq p hp (by omega)
    have eb := h.sym n hp hn hq
    obtain ⟨z, hz⟩ : ∃ z, z = bestN s p 43 := ⟨_, rfl⟩
    have ht : TokAt u (p + d) (.inl (6, bestN u (p + d) 43, p + d + (bestN u (p + d) 43).size)) := .symbol (by rw [e0]; exact hl) (by rw [e0]; exact hd) (by rw [e0]; exact h95) (by rw [e0]; exact h39) (by rw [e0]; exact h34) (h.pre_no n nz_q3 hp (by omega) h3) (by rw [eb]; exact hn)
    rw [eb] at ht
    rw [← hz] at ht hn ⊢
    rw [show p + d + z.size = p + z.size + d by omega] at ht
    exact ⟨by omega, ht⟩
  | numPart _ _ _ _ _ _ _ _ => cases hr
  | numBad _ _ _ _ => cases hr
  | charPart _ _ _ _ _ _ _ => cases hr
  | charBad _ _ _ _ _ => cases hr
  | blockBad _ _ _ _ _ _ _ => cases hr
  | lineBad _ _ _ => cases hr
  | symbolBad _ _ _ _ _ _ _ => cases hr

/-! ### Blanks and comments -/

theorem byte_some (s : ByteArray) (j : Nat) (c : UInt8) (hc : c ≠ 0) : byteAt s j = c.toNat ↔ s.data.toList[j]? = some c := by
  rw [byteAt_list, List.getD_eq_getElem?_getD]
  cases s.data.toList[j]? with
  | none =>
    constructor
    · intro h
      exfalso
      apply hc
      apply UInt8.toNat.inj
      have h1 : ((0 : UInt8).toNat : Int) = c.toNat := h
      have h2 : (0 : UInt8).toNat = c.toNat := by exact_mod_cast h1
      exact h2.symm
    · intro h; cases h
  | some x =>
    constructor
    · intro h
      have h1 : (x.toNat : Int) = c.toNat := h
      have h2 : x.toNat = c.toNat := by exact_mod_cast h1
      rw [UInt8.toNat.inj h2]
    · intro h
      cases h
      rfl

/-- Where a line ends. -/
theorem lineN_is (s : ByteArray) (p : Nat) (_ : p ≤ s.size) : (lineN s p = s.size ∨ byteAt s (lineN s p) = 10) ∧ ∀ x, p ≤ x → x < lineN s p → byteAt s x ≠ 10 := by
  have hl : (s.extract p s.size).data.toList = s.data.toList.drop p := Lib.ext_list s p
  have e10 : (10 : UInt8).toNat = 10 := rfl
  have hd : ∀ i, (s.data.toList.drop p)[i]? = s.data.toList[p + i]? := fun i => by rw [List.getElem?_drop]
  unfold lineN lineEndZ findAt
  rw [hl]
  split
  · rename_i h0
    obtain ⟨o, ho⟩ : ∃ o : Nat, Lib.indexByte (s.data.toList.drop p) 10 = o := ⟨(Lib.indexByte (s.data.toList.drop p) 10).toNat, by omega⟩
    obtain ⟨h1, h2⟩ := Lib.indexByte_some ho
    rw [ho]
    have ez : ((p : Int) + (o : Int)).toNat = p + o := by omega
    rw [ez]
    refine ⟨.inr ?_, fun x hx1 hx2 hb => ?_⟩
    · have := (byte_some s (p + o) 10 (by decide)).2 (by rw [← hd]; exact h1)
      rw [this]; rfl
    · apply h2 (x - p) (by omega)
      rw [hd, show p + (x - p) = x by omega]
      exact (byte_some s x 10 (by decide)).1 (by rw [hb]; rfl)
  · rename_i h0
    have hn : Lib.indexByte (s.data.toList.drop p) 10 = -1 := by have := Lib.indexByte_ge (s.data.toList.drop p) 10; omega
    have h2 := Lib.indexByte_none hn
    have ez : ((s.size : Int)).toNat = s.size := by omega
    rw [ez]
    refine ⟨.inl rfl, fun x hx1 hx2 hb => ?_⟩
    apply h2 (x - p)
    rw [hd, show p + (x - p) = x by omega]
    exact (byte_some s x 10 (by decide)).1 (by rw [hb]; rfl)

theorem lineN_one {s : ByteArray} {p e : Nat} (hp : p ≤ e) (he : e ≤ s.size) (h1 : e = s.size ∨ byteAt s e = 10) (h2 : ∀ x, p ≤ x → x < e → byteAt s x ≠ 10) : lineN s p = e := by
  obtain ⟨g1, g2⟩ := lineN_is s p (by omega)
  obtain ⟨_, g3, g4⟩ := lineN_spec s p (by omega)
  rcases Nat.lt_trichotomy (lineN s p) e with h | h | h
  · rcases g1 with g1 | g1
    · omega
    · exact absurd g1 (h2 _ g4 h)
  · exact h
  · rcases h1 with h1 | h1
    · omega
    · exact absurd h1 (g2 e hp h)

theorem skipF_fuel (s : ByteArray) : ∀ (n m p : Nat), p ≤ s.size → s.size < n + p → s.size < m + p → skipF s n p = skipF s m p
  | 0, m, p, hp, h, _ => by omega
  | n + 1, 0, p, hp, _, h => by omega
  | n + 1, m + 1, p, hp, hn, hm => by
    unfold skipF
    by_cases hlt : p < s.size
    · rw [if_pos hlt, if_pos hlt]
      have hc : commentEndZ s p = -1 ∨ ((p : Int) < commentEndZ s p ∧ commentEndZ s p ≤ s.size) := ceF_range s (s.size + 1) p 0
      rw [skipF_fuel s n m (p + 1) (by omega) (by omega) (by omega)]
      by_cases hb : hasP s p slash2 = true
      · have hl := lineN_spec s p hp
        have hl2 := lineN_lt s p hlt hb
        rw [skipF_fuel s n m (lineN s p) hl.2.1 (by omega) (by omega)]
        rw [if_pos hb, if_pos hb]
      · rw [if_neg hb, if_neg hb]
        by_cases hz : commentEndZ s p = -1
        · rw [if_pos hz, if_pos hz]
        · rw [if_neg hz, if_neg hz, skipF_fuel s n m (commentEndZ s p).toNat (by omega) (by omega) (by omega)]
    · rw [if_neg hlt, if_neg hlt]

theorem skipM_eq (s : ByteArray) (p : Nat) (hp : p ≤ s.size) : skipM s p =
    if p < s.size then
      (if 0 ≤ blankI (byteAt s p) then skipM s (p + 1)
       else if hasP s p slash2 = true then (if Lib.validD (s.extract p (lineN s p)).data.toList = true then skipM s (lineN s p) else .inr p)
       else if hasP s p slashS = true then
         (if commentEndZ s p = -1 then .inr p else if Lib.validD (s.extract p (commentEndZ s p).toNat).data.toList = true then skipM s (commentEndZ s p).toNat else .inr p)
       else .inl p)
    else .inl p := by
  unfold skipM
  rw [show s.size + 1 - p = s.size - p + 1 by omega]
  conv => lhs; unfold skipF
  by_cases hlt : p < s.size
  · rw [if_pos hlt, if_pos hlt]
    have hc : commentEndZ s p = -1 ∨ ((p : Int) < commentEndZ s p ∧ commentEndZ s p ≤ s.size) := ceF_range s (s.size + 1) p 0
    rw [skipF_fuel s (s.size - p) (s.size + 1 - (p + 1)) (p + 1) (by omega) (by omega) (by omega)]
    by_cases hb : hasP s p slash2 = true
    · have hl := lineN_spec s p hp
      have hl2 := lineN_lt s p hlt hb
      rw [skipF_fuel s (s.size - p) (s.size + 1 - lineN s p) (lineN s p) hl.2.1 (by omega) (by omega), if_pos hb, if_pos hb]
    · rw [if_neg hb, if_neg hb]
      by_cases hz : commentEndZ s p = -1
      · rw [if_pos hz, if_pos hz]
      · rw [if_neg hz, if_neg hz, skipF_fuel s (s.size - p) (s.size + 1 - (commentEndZ s p).toNat) (commentEndZ s p).toNat (by omega) (by omega) (by omega)]
  · rw [if_neg hlt, if_neg hlt]

/-- How one step of passing over goes, when all of it succeeds. -/
theorem skip_cases {s : ByteArray} {p b : Nat} (hp : p ≤ s.size) (h : skipM s p = .inl b) :
    (b = p ∧ p = s.size) ∨
    (p < s.size ∧ 0 ≤ blankI (byteAt s p) ∧ skipM s (p + 1) = .inl b) ∨
    (p < s.size ∧ ¬ 0 ≤ blankI (byteAt s p) ∧ hasP s p slash2 = true ∧ Lib.validD (s.extract p (lineN s p)).data.toList = true ∧ skipM s (lineN s p) = .inl b) ∨
    (∃ e : Nat, p < s.size ∧ ¬ 0 ≤ blankI (byteAt s p) ∧ hasP s p slash2 = false ∧ hasP s p slashS = true ∧ commentEndZ s p = e ∧ p < e ∧ e ≤ s.size ∧ Lib.validD (s.extract p e).data.toList = true ∧ skipM s e = .inl b) ∨
    (b = p ∧ p < s.size ∧ ¬ 0 ≤ blankI (byteAt s p) ∧ hasP s p slash2 = false ∧ hasP s p slashS = false) := by
  rw [skipM_eq s p hp] at h
  by_cases hlt : p < s.size
  · rw [if_pos hlt] at h
    by_cases hb : 0 ≤ blankI (byteAt s p)
    · rw [if_pos hb] at h
      exact .inr (.inl ⟨hlt, hb, h⟩)
    · rw [if_neg hb] at h
      cases h2 : hasP s p slash2
      · rw [h2, if_neg (by decide)] at h
        cases h3 : hasP s p slashS
        · rw [h3, if_neg (by decide)] at h
          cases h
          exact .inr (.inr (.inr (.inr ⟨rfl, hlt, hb, rfl, rfl⟩)))
        · rw [h3, if_pos rfl] at h
          have hc : commentEndZ s p = -1 ∨ ((p : Int) < commentEndZ s p ∧ commentEndZ s p ≤ s.size) := ceF_range s (s.size + 1) p 0
          by_cases hz : commentEndZ s p = -1
          · rw [if_pos hz] at h; cases h
          · rw [if_neg hz] at h
            split at h
            · rename_i hv
              exact .inr (.inr (.inr (.inl ⟨(commentEndZ s p).toNat, hlt, hb, rfl, rfl, by omega, by omega, by omega, hv, h⟩)))
            · cases h
      · rw [h2, if_pos rfl] at h
        split at h
        · rename_i hv
          exact .inr (.inr (.inl ⟨hlt, hb, rfl, hv, h⟩))
        · cases h
  · rw [if_neg hlt] at h
    cases h
    exact .inl ⟨rfl, by omega⟩

theorem skip_idem {s : ByteArray} : ∀ (n p b : Nat), s.size ≤ n + p → p ≤ s.size → skipM s p = .inl b → skipM s b = .inl b
  | n, p, b, hn, hp, h => by
    rcases skip_cases hp h with ⟨rfl, _⟩ | ⟨hlt, hb, h1⟩ | ⟨hlt, hb, h2, hv, h1⟩ | ⟨e, hlt, hb, h2, h3, h4, h5, h6, hv, h1⟩ | ⟨rfl, _⟩
    · exact h
    · obtain ⟨n, rfl⟩ : ∃ m, n = m + 1 := ⟨n - 1, by omega⟩
      exact skip_idem n (p + 1) b (by omega) (by omega) h1
    · obtain ⟨n, rfl⟩ : ∃ m, n = m + 1 := ⟨n - 1, by omega⟩
      have hl := lineN_spec s p hp
      have hl2 := lineN_lt s p hlt h2
      exact skip_idem n (lineN s p) b (by omega) hl.2.1 h1
    · obtain ⟨n, rfl⟩ : ∃ m, n = m + 1 := ⟨n - 1, by omega⟩
      exact skip_idem n e b (by omega) h6 h1
    · exact h

/-- Where a nested comment ends, through a window. -/
theorem Vw.ce {s u : ByteArray} {d P Q : Nat} (h : Vw s u d P Q) : ∀ (n i : Nat) (δ : Int) (e : Nat), ceF s n i δ = e → 1 ≤ δ → P ≤ i → e ≤ Q → ∀ m, e ≤ m + i → ceF u m (i + d) δ = ((e + d : Nat) : Int)
  | 0, i, δ, e, hc, _, _, _, _, _ => by
    have : (-1 : Int) = e := hc
    omega
  | n + 1, i, δ, e, hc, hδ, hi, he, m, hm => by
    have hs := h.hs
    have hu := h.hu
    have r1 := ceF_range s n (i + 1) δ
    have r2 := fun k => ceF_range s n (i + 2) k
    unfold ceF at hc
    by_cases hlt : i + 1 < s.size
    · rw [if_pos hlt] at hc
      have hex : i + 2 ≤ Q → u.extract (i + d) (i + d + 2) = s.extract i (i + 2) := fun hq => by
        rw [show i + d + 2 = i + 2 + d by omega]
        exact h.ext hi hq
      by_cases c1 : ((s.extract i (i + 2)).toList == [47, 42]) = true
      · rw [if_pos c1, if_neg (by omega)] at hc
        have := r2 (δ + 1)
        rw [hc] at this
        have hq : i + 2 < e := by omega
        obtain ⟨m, rfl⟩ : ∃ k, m = k + 1 := ⟨m - 1, by omega⟩
        have ih := Vw.ce h n (i + 2) (δ + 1) e hc (by omega) (by omega) he m (by omega)
        unfold ceF
        rw [if_pos (by omega), hex (by omega), if_pos c1, if_neg (by omega), show i + d + 2 = i + 2 + d by omega]
        exact ih
      · rw [if_neg c1] at hc
        by_cases c2 : ((s.extract i (i + 2)).toList == [42, 47]) = true
        · rw [if_pos c2] at hc
          by_cases hz : δ - 1 = 0
          · rw [if_pos hz] at hc
            have hq : i + 2 = e := by omega
            obtain ⟨m, rfl⟩ : ∃ k, m = k + 1 := ⟨m - 1, by omega⟩
            unfold ceF
            rw [if_pos (by omega), hex (by omega), if_neg c1, if_pos c2, if_pos hz]
            omega
          · rw [if_neg hz] at hc
            have := r2 (δ - 1)
            rw [hc] at this
            have hq : i + 2 < e := by omega
            obtain ⟨m, rfl⟩ : ∃ k, m = k + 1 := ⟨m - 1, by omega⟩
            have ih := Vw.ce h n (i + 2) (δ - 1) e hc (by omega) (by omega) he m (by omega)
            unfold ceF
            rw [if_pos (by omega), hex (by omega), if_neg c1, if_pos c2, if_neg hz, show i + d + 2 = i + 2 + d by omega]
            exact ih
        · rw [if_neg c2, if_neg (by omega)] at hc
          rw [hc] at r1
          have hq : i + 1 < e := by omega
          obtain ⟨m, rfl⟩ : ∃ k, m = k + 1 := ⟨m - 1, by omega⟩
          have ih := Vw.ce h n (i + 1) δ e hc hδ (by omega) he m (by omega)
          unfold ceF
          rw [if_pos (by omega), hex (by omega), if_neg c1, if_neg c2, if_neg (by omega), show i + d + 1 = i + 1 + d by omega]
          exact ih
    · rw [if_neg hlt] at hc
      omega

theorem slashS_ext {s : ByteArray} {p : Nat} (h : hasP s p slashS = true) : ((s.extract p (p + 2)).toList == [47, 42]) = true ∧ p + 2 ≤ s.size := by
  have e := (pre_iff s p slashS.data.toList fun b hb => (nz_sS b hb).1).1 h
  have e0 := e 0 (by decide)
  have e1 := e 1 (by decide)
  have hz : p + 2 ≤ s.size := size_of_pre (x := slashS) rfl h
  refine ⟨?_, hz⟩
  have : s.extract p (p + 2) = ⟨#[47, 42]⟩ := by
    apply bytes_eq
    · rw [ByteArray.size_extract]; show 2 = _; omega
    · intro i hi
      have hi' : i < 2 := hi
      rw [byteAt_ext (by omega) (by omega)]
      rcases (by omega : i = 0 ∨ i = 1) with rfl | rfl
      · rw [e0]; rfl
      · rw [e1]; rfl
  rw [this, ByteArray.toList_mk]
  decide

theorem ce_begin {s : ByteArray} {p : Nat} (h : hasP s p slashS = true) : commentEndZ s p = ceF s s.size (p + 2) 1 := by
  obtain ⟨h1, h2⟩ := slashS_ext h
  unfold commentEndZ
  conv => lhs; unfold ceF
  rw [if_pos (by omega), if_pos h1, if_neg (by decide)]
  rfl

/-- Passing over, through a window. -/
theorem Vw.skip {s u : ByteArray} {d P Q : Nat} (h : Vw s u d P Q) (hend : Q = s.size → Q + d = u.size) : ∀ (n p b : Nat), s.size ≤ n + p → P ≤ p → p ≤ s.size → skipM s p = .inl b → b ≤ Q → skipM u (p + d) = skipM u (b + d)
  | n, p, b, hn, hP, hp, hk, hq => by
    have hs := h.hs
    have hu := h.hu
    have hr := skipM_range hp hk
    rcases skip_cases hp hk with ⟨rfl, _⟩ | ⟨hlt, hb, h1⟩ | ⟨hlt, hb, h2, hv, h1⟩ | ⟨e, hlt, hb, h2, h3, h4, h5, h6, hv, h1⟩ | ⟨rfl, _⟩
    · rfl
    · obtain ⟨n, rfl⟩ : ∃ m, n = m + 1 := ⟨n - 1, by omega⟩
      have hr1 := skipM_range (show p + 1 ≤ s.size by omega) h1
      have ih := Vw.skip h hend n (p + 1) b (by omega) (by omega) (by omega) h1 hq
      rw [skipM_eq u (p + d) (by omega), if_pos (by omega), if_pos (by rw [h.eq p hP (by omega)]; exact hb), show p + d + 1 = p + 1 + d by omega]
      exact ih
    · obtain ⟨n, rfl⟩ : ∃ m, n = m + 1 := ⟨n - 1, by omega⟩
      have hl := lineN_spec s p hp
      have hl2 := lineN_lt s p hlt h2
      obtain ⟨hl3, hl4⟩ := lineN_is s p hp
      have hz2 : p + 2 ≤ s.size := size_of_pre (x := slash2) rfl h2
      have e := (pre_iff s p slash2.data.toList fun b hb => (nz_s2 b hb).1).1 h2
      have e1 : byteAt s (p + 1) = 47 := e 1 (by decide)
      obtain ⟨E, hE⟩ : ∃ E, E = lineN s p := ⟨_, rfl⟩
      rw [← hE] at hl hl2 hl3 hl4 hv h1
      have hE2 : p + 2 ≤ E := by
        rcases Nat.lt_or_ge E (p + 2) with hc | hc
        · exfalso
          obtain rfl : E = p + 1 := by omega
          rcases hl3 with hl3 | hl3
          · omega
          · rw [e1] at hl3; cases hl3
        · exact hc
      have hr1 := skipM_range hl.2.1 h1
      have ih := Vw.skip h hend n E b (by omega) (by omega) hl.2.1 h1 hq
      have hbl : ¬ 0 ≤ blankI (byteAt u (p + d)) := by rw [h.eq p hP (by omega)]; exact hb
      have hh : hasP u (p + d) slash2 = true := h.pre_yes nz_s2 hP (show p + 2 ≤ Q by omega) h2
      have hln : lineN u (p + d) = E + d := by
        refine lineN_one (by omega) (by omega) ?_ (fun x hx1 hx2 => ?_)
        · rcases hl3 with hl3 | hl3
          · left
            have : Q = s.size := by omega
            have := hend this
            omega
          · right
            have hEs : E < s.size := by
              rcases Nat.lt_or_ge E s.size with hc | hc
              · exact hc
              · rw [byteAt_out hc] at hl3; cases hl3
            have hEb : E < b := by
              rcases Nat.lt_or_ge E b with hc | hc
              · exact hc
              · exfalso
                obtain rfl : E = b := by omega
                rw [skipM_eq s E (by omega), if_pos hEs, if_pos (by rw [hl3]; decide)] at h1
                have := skipM_range (show E + 1 ≤ s.size by omega) h1
                omega
            rw [h.eq E (by omega) (by omega)]
            exact hl3
        · have := hl4 (x - d) (by omega) (by omega)
          rw [show x = x - d + d by omega, h.eq (x - d) (by omega) (by omega)]
          exact this
      rw [skipM_eq u (p + d) (by omega), if_pos (by omega), if_neg hbl, if_pos hh, hln, h.ext hP (show E ≤ Q by omega), if_pos hv]
      exact ih
    · obtain ⟨n, rfl⟩ : ∃ m, n = m + 1 := ⟨n - 1, by omega⟩
      have hr1 := skipM_range h6 h1
      have ih := Vw.skip h hend n e b (by omega) (by omega) h6 h1 hq
      have hbl : ¬ 0 ≤ blankI (byteAt u (p + d)) := by rw [h.eq p hP (by omega)]; exact hb
      have hz2 : p + 2 ≤ s.size := size_of_pre (x := slashS) rfl h3
      have h4' := h4
      rw [ce_begin h3] at h4'
      have hce := ceF_range s s.size (p + 2) 1
      rw [h4'] at hce
      have hp2 : p + 2 ≤ Q := by omega
      have hh2 : hasP u (p + d) slash2 = false := by
        show Lib.hasPrefix _ _ = false
        rw [h.vpre hP (fun b hb => (nz_s2 b hb).1) (show p + 2 ≤ Q from hp2)]
        exact h2
      have hhS : hasP u (p + d) slashS = true := h.pre_yes nz_sS hP (show p + 2 ≤ Q from hp2) h3
      have hcu : commentEndZ u (p + d) = ((e + d : Nat) : Int) := by
        rw [ce_begin hhS, show p + d + 2 = p + 2 + d by omega]
        exact h.ce _ _ _ e h4' (by decide) (by omega) (by omega) _ (by omega)
      have hne : ¬ ((e + d : Nat) : Int) = -1 := by omega
      have hto : (((e + d : Nat) : Int)).toNat = e + d := by omega
      rw [skipM_eq u (p + d) (by omega), if_pos (by omega), if_neg hbl, hh2, if_neg (by decide), hhS, if_pos rfl, hcu, if_neg hne, hto, h.ext hP (show e ≤ Q by omega), if_pos hv]
      exact ih
    · rfl

/-- Where nothing is passed over in s, nothing is in the window. -/
theorem Vw.stop {s u : ByteArray} {d P Q b : Nat} (h : Vw s u d P Q) (n : Neu (byteAt u (Q + d))) (hP : P ≤ b) (hb : b < Q) (hk : skipM s b = .inl b) : skipM u (b + d) = .inl (b + d) := by
  have hs := h.hs
  have hu := h.hu
  rcases skip_cases (show b ≤ s.size by omega) hk with ⟨_, h1⟩ | ⟨hlt, _, h1⟩ | ⟨hlt, hbb, h2, hv, h1⟩ | ⟨e, hlt, hbb, h2, h3, h4, h5, h6, hv, h1⟩ | ⟨_, hlt, hbb, h2, h3⟩
  · omega
  · have := skipM_range (show b + 1 ≤ s.size by omega) h1; omega
  · have hl := lineN_spec s b (by omega)
    have hl2 := lineN_lt s b hlt h2
    have := skipM_range hl.2.1 h1
    omega
  · have := skipM_range h6 h1; omega
  · have g2 : hasP u (b + d) slash2 = false := h.pre_no n nz_s2 hP (by omega) h2
    have g3 : hasP u (b + d) slashS = false := h.pre_no n nz_sS hP (by omega) h3
    rw [skipM_eq u (b + d) (by omega), if_pos (by omega), if_neg (by rw [h.eq b hP hb]; exact hbb), g2, if_neg (by decide), g3, if_neg (by decide)]

end Tk
end Go.Proofs.YtmphkifhnjfkmaaGreatDoor

namespace Go.Proofs.YtmphkifhnjfkmaaGreatDoor
open Go.ChangeShapes Go.WideShapes Go.ChangeAt Go.RowKit Go.WideMaps Go.Maps
namespace Tk

/-! ### The tokens of a text, of one that is cut, of one with more blanks -/

/-- The tokens from place p on, by what stands there. -/
inductive ToksA (s : ByteArray) : Nat → Bool → List Tok → Option (Nat × Int) → Prop
  | last (p : Nat) (f : Bool) (h : skipM s p = .inl s.size) : ToksA s p f [] none
  | badSkip (p : Nat) (f : Bool) (q : Nat) (h : skipM s p = .inr q) : ToksA s p f [] (some (q, 32))
  | badRead (p : Nat) (f : Bool) (b : Nat) (code : Int) (h : skipM s p = .inl b) (hb : b < s.size) (hr : TokAt s b (.inr code)) : ToksA s p f [] (some (b, code))
  | tok (p : Nat) (f : Bool) (b : Nat) (k : Int) (tx : ByteArray) (q : Nat) (ts : List Tok) (res : Option (Nat × Int)) (h : skipM s p = .inl b) (hb : b < s.size) (hr : TokAt s b (.inl (k, tx, q))) (h1 : b < q) (h2 : q ≤ s.size) (hn : ToksA s q false ts res) : ToksA s p f (⟨k, tx, b, feedB s p b || f⟩ :: ts) res

theorem toksA_pos {s : ByteArray} {p : Nat} {f : Bool} {ts : List Tok} {res : Option (Nat × Int)} (h : ToksA s p f ts res) (hp : p ≤ s.size) : (∀ t ∈ ts, p ≤ t.pos ∧ t.pos < s.size) ∧ ts.Pairwise fun a b => a.pos < b.pos := by
  induction h with
  | last => exact ⟨fun t ht => (by cases ht), .nil⟩
  | badSkip => exact ⟨fun t ht => (by cases ht), .nil⟩
  | badRead => exact ⟨fun t ht => (by cases ht), .nil⟩
  | tok p f b k tx q ts res h hb hr h1 h2 hn ih =>
    have hr0 := skipM_range hp h
    obtain ⟨i1, i2⟩ := ih h2
    refine ⟨fun t ht => ?_, .cons (fun t ht => ?_) i2⟩
    · rcases List.mem_cons.1 ht with rfl | ht
      · exact ⟨hr0.1, hb⟩
      · have := i1 t ht
        exact ⟨by omega, this.2⟩
    · have := i1 t ht
      show b < t.pos
      omega

theorem skip_bad_range {s : ByteArray} : ∀ (n p q : Nat), s.size ≤ n + p → p ≤ s.size → skipM s p = .inr q → p ≤ q ∧ q < s.size
  | n, p, q, hn, hp, h => by
    rw [skipM_eq s p hp] at h
    by_cases hlt : p < s.size
    · obtain ⟨n, rfl⟩ : ∃ m, n = m + 1 := ⟨n - 1, by omega⟩
      rw [if_pos hlt] at h
      split at h
      · have := skip_bad_range n (p + 1) q (by omega) (by omega) h; omega
      · split at h
        · rename_i h2
          split at h
          · have hl := lineN_spec s p hp
            have hl2 := lineN_lt s p hlt h2
            have := skip_bad_range n (lineN s p) q (by omega) hl.2.1 h
            omega
          · cases h; omega
        · split at h
          · split at h
            · cases h; omega
            · rename_i hz
              have hc : commentEndZ s p = -1 ∨ ((p : Int) < commentEndZ s p ∧ commentEndZ s p ≤ s.size) := ceF_range s (s.size + 1) p 0
              split at h
              · have := skip_bad_range n (commentEndZ s p).toNat q (by omega) (by omega) h; omega
              · cases h; omega
          · cases h
    · rw [if_neg hlt] at h
      cases h

theorem tokAt_code {s : ByteArray} {p : Nat} {code : Int} {r : (Int × ByteArray × Nat) ⊕ Int} (h : TokAt s p r) (hr : r = .inr code) : code = 33 ∨ code = 31 ∨ code = 30 := by
  cases h with
  | word _ => cases hr
  | under _ _ => cases hr
  | num _ _ _ _ _ _ _ _ => cases hr
  | char _ _ _ _ _ _ _ _ => cases hr
  | block _ _ _ _ _ _ _ _ => cases hr
  | line _ _ _ _ _ => cases hr
  | symbol _ _ _ _ _ _ _ => cases hr
  | numPart _ _ _ _ _ _ _ _ => cases hr; exact .inl rfl
  | numBad _ _ _ _ => cases hr; exact .inl rfl
  | charPart _ _ _ _ _ _ _ _ => cases hr; exact .inl rfl
  | charBad _ _ _ _ _ => cases hr; exact .inr (.inl rfl)
  | blockBad _ _ _ _ _ _ _ => cases hr; exact .inr (.inl rfl)
  | lineBad _ _ _ => cases hr; exact .inr (.inl rfl)
  | symbolBad _ _ _ _ _ _ _ => cases hr; exact .inr (.inr rfl)

theorem toksA_err {s : ByteArray} {p : Nat} {f : Bool} {ts : List Tok} {res : Option (Nat × Int)} (h : ToksA s p f ts res) (hp : p ≤ s.size) : ∀ q code, res = some (q, code) → p ≤ q ∧ q < s.size ∧ 30 ≤ code ∧ code ≤ 33 := by
  induction h with
  | last => intro q code e; cases e
  | badSkip p f q h => intro q' code e; cases e; have := skip_bad_range s.size p q (by omega) hp h; exact ⟨this.1, this.2, by decide, by decide⟩
  | badRead p f b code h hb hr =>
    intro q' code' e
    cases e
    have := skipM_range hp h
    rcases tokAt_code hr rfl with rfl | rfl | rfl <;> exact ⟨this.1, hb, by decide, by decide⟩
  | tok p f b k tx q ts res h hb hr h1 h2 hn ih =>
    intro q' code' e
    have := skipM_range hp h
    have := ih h2 q' code' e
    exact ⟨by omega, this.2⟩

theorem feedB_vw {s u : ByteArray} {d P Q p b : Nat} (h : Vw s u d P Q) (hp : P ≤ p) (hb : b ≤ Q) (he : (b + d = u.size) ↔ (b = s.size)) : feedB u (p + d) (b + d) = feedB s p b := by
  unfold feedB
  rw [h.ext hp hb]
  congr 1
  exact decide_eq_decide.2 he

theorem byteAt_cut {s : ByteArray} {P x : Nat} (hP : P ≤ s.size) (hx : x < P) : byteAt (s.extract 0 P) x = byteAt s x := by
  rw [byteAt_ext (by omega) hP, Nat.zero_add]

/-- A text that is cut where a token begins has the tokens ahead of it. -/
theorem toksA_cut {s : ByteArray} {p : Nat} {f : Bool} {ts : List Tok} {res : Option (Nat × Int)} (h : ToksA s p f ts res) (hres : res = none) (hp : p ≤ s.size) : ∀ (k : Nat) (hk : k < ts.length), ToksA (s.extract 0 (ts[k]'hk).pos) p f (ts.take k) none := by
  induction h with
  | last => intro k hk; exact absurd hk (by simp)
  | badSkip => cases hres
  | badRead => cases hres
  | tok p f b k0 tx q ts res h hb hr h1 h2 hn ih =>
    intro k hk
    have hr0 := skipM_range hp h
    cases k with
    | zero =>
      show ToksA (s.extract 0 b) p f [] none
      have hz : (s.extract 0 b).size = b := by rw [ByteArray.size_extract]; omega
      have V : Vw s (s.extract 0 b) 0 0 b := ⟨by omega, by omega, fun x _ hx => byteAt_cut (by omega) hx⟩
      refine .last p f ?_
      have e := V.skip (fun e => by omega) s.size p b (by omega) (Nat.zero_le _) hp h (Nat.le_refl _)
      rw [Nat.add_zero, Nat.add_zero] at e
      rw [e, skipM_eq _ b (by omega), if_neg (by omega), hz]
    | succ j =>
      have hj : j < ts.length := by simpa using hk
      show ToksA (s.extract 0 (ts[j]'hj).pos) p f (_ :: ts.take j) none
      have hpos := (toksA_pos hn h2).1 _ (List.getElem_mem hj)
      have ih' := ih hres h2 j hj
      obtain ⟨P, hP⟩ : ∃ P, P = (ts[j]'hj).pos := ⟨_, rfl⟩
      rw [← hP] at hpos ih' ⊢
      have hz : (s.extract 0 P).size = P := by rw [ByteArray.size_extract]; omega
      have V : Vw s (s.extract 0 P) 0 0 P := ⟨by omega, by omega, fun x _ hx => byteAt_cut (by omega) hx⟩
      have n : Neu (byteAt (s.extract 0 P) (P + 0)) := .inl (byteAt_out (by omega))
      have e := V.skip (fun e => by omega) s.size p b (by omega) (Nat.zero_le _) hp h (by omega)
      have e2 := V.stop n (Nat.zero_le _) (show b < P by omega) (skip_idem s.size p b (by omega) hp h)
      rw [Nat.add_zero, Nat.add_zero] at e
      rw [Nat.add_zero] at e2
      have ht := (V.tok n (Nat.zero_le _) hr rfl (show q ≤ P by omega)).2
      have hf := feedB_vw (p := p) (b := b) V (Nat.zero_le _) (show b ≤ P by omega) (by omega)
      rw [Nat.add_zero, Nat.add_zero] at hf
      rw [← hf]
      exact .tok p f b k0 tx q (ts.take j) none (e.trans e2) (by omega) ht h1 (by omega) ih'

/-- A token some places further on. -/
def Tok.move (d : Nat) (t : Tok) : Tok := ⟨t.kind, t.text, t.pos + d, t.line⟩

theorem toksA_move {s u : ByteArray} {d P : Nat} (V : Vw s u d P s.size) (hz : u.size = s.size + d) {p : Nat} {f : Bool} {ts : List Tok} {res : Option (Nat × Int)} (h : ToksA s p f ts res) (hres : res = none) (hP : P ≤ p) (hp : p ≤ s.size) : ToksA u (p + d) f (ts.map (Tok.move d)) none := by
  have n : Neu (byteAt u (s.size + d)) := .inl (byteAt_out (by omega))
  induction h with
  | last p f h =>
    refine .last _ _ ?_
    rw [V.skip (fun _ => hz.symm) s.size p s.size (by omega) hP hp h (Nat.le_refl _), skipM_eq u _ (by omega), if_neg (by omega), hz]
  | badSkip => cases hres
  | badRead => cases hres
  | tok p f b k0 tx q ts res h hb hr h1 h2 hn ih =>
    have hr0 := skipM_range hp h
    have e := V.skip (fun _ => hz.symm) s.size p b (by omega) hP hp h (by omega)
    have e2 := V.stop n (show P ≤ b by omega) hb (skip_idem s.size p b (by omega) hp h)
    have ht := (V.tok n (show P ≤ b by omega) hr rfl h2).2
    have hf := feedB_vw (p := p) (b := b) V hP (show b ≤ s.size by omega) (by omega)
    show ToksA u (p + d) f (⟨k0, tx, b + d, feedB s p b || f⟩ :: ts.map (Tok.move d)) none
    rw [← hf]
    exact .tok (p + d) f (b + d) k0 tx (q + d) _ none (e.trans e2) (by omega) ht (by omega) (by omega) (ih hres (by omega) h2)

/-- The tokens of a text with more blanks ahead of one. -/
def wid (D : Nat) (nl : Bool) : Nat → List Tok → List Tok
  | _, [] => []
  | 0, t :: r => ⟨t.kind, t.text, t.pos + D, t.line || nl⟩ :: r.map (Tok.move D)
  | k + 1, t :: r => t :: wid D nl k r

theorem indexB_mem (l : List UInt8) (c : UInt8) : decide (0 ≤ Lib.indexByte l c) = l.contains c := by
  induction l with
  | nil => rfl
  | cons x t ih =>
    have hg := Lib.indexByte_ge t c
    unfold Lib.indexByte
    rw [List.contains_cons]
    by_cases h : x = c
    · subst h
      simp
    · have h1 : (x == c) = false := by simpa using h
      have h2 : (c == x) = false := by simpa using fun e : c = x => h e.symm
      rw [h1, h2, Bool.false_or, ← ih]
      by_cases h3 : Lib.indexByte t c = -1
      · rw [h3]
        rfl
      · have h4 : (Lib.indexByte t c == -1) = false := by simpa using h3
        rw [h4]
        simp only [Bool.false_eq_true, ↓reduceIte]
        exact decide_eq_decide.2 (by omega)

theorem ext_split (u : ByteArray) {a b c : Nat} (h1 : a ≤ b) (h2 : b ≤ c) (_ : c ≤ u.size) : (u.extract a c).data.toList = (u.extract a b).data.toList ++ (u.extract b c).data.toList := by
  simp only [ByteArray.data_extract, Array.toList_extract, List.extract_eq_take_drop]
  rw [show c - a = (b - a) + (c - b) by omega, List.take_add, List.drop_drop, show a + (b - a) = b by omega]

theorem toksA_wid {s u : ByteArray} {D P : Nat} (V1 : Vw s u 0 0 P) (V2 : Vw s u D P s.size) (hz : u.size = s.size + D) (n1 : Neu (byteAt u P)) (hbl : skipM u P = skipM u (P + D)) (nl : Bool) (hnl : nl = decide (0 ≤ Lib.indexByte (u.extract P (P + D)).data.toList 10))
    {p : Nat} {f : Bool} {ts : List Tok} {res : Option (Nat × Int)} (h : ToksA s p f ts res) (hres : res = none) (hp : p ≤ s.size) : ∀ (k : Nat) (hk : k < ts.length), P = (ts[k]'hk).pos → ToksA u p f (wid D nl k ts) none := by
  have n2 : Neu (byteAt u (s.size + D)) := .inl (byteAt_out (by omega))
  have n1' : Neu (byteAt u (P + 0)) := n1
  induction h with
  | last => intro k hk; exact absurd hk (by simp)
  | badSkip => cases hres
  | badRead => cases hres
  | tok p f b k0 tx q ts res h hb hr h1 h2 hn ih =>
    intro k hk hPk
    have hr0 := skipM_range hp h
    have hu1 := V1.hu
    cases k with
    | zero =>
      have hPb : P = b := hPk
      subst hPb
      show ToksA u p f (⟨k0, tx, P + D, (feedB s p P || f) || nl⟩ :: ts.map (Tok.move D)) none
      have e := V1.skip (fun e => by omega) s.size p P (by omega) (Nat.zero_le _) hp h (Nat.le_refl _)
      rw [Nat.add_zero, Nat.add_zero] at e
      have e2 := V2.stop n2 (Nat.le_refl _) hb (skip_idem s.size p P (by omega) hp h)
      have ht := (V2.tok n2 (Nat.le_refl _) hr rfl h2).2
      have hm := toksA_move V2 hz hn hres (by omega) h2
      have hx := V1.ext (a := p) (b := P) (Nat.zero_le _) (Nat.le_refl _)
      rw [Nat.add_zero, Nat.add_zero] at hx
      have hf : (feedB u p (P + D) || f) = ((feedB s p P || f) || nl) := by
        unfold feedB
        rw [hnl, indexB_mem, indexB_mem, indexB_mem, ext_split u hr0.1 (show P ≤ P + D by omega) (by omega), hx, List.contains_append]
        rw [decide_eq_false (show ¬ P + D = u.size by omega), decide_eq_false (show ¬ P = s.size by omega)]
        cases List.contains (s.extract p P).data.toList 10 <;> cases List.contains (u.extract P (P + D)).data.toList 10 <;> cases f <;> rfl
      rw [← hf]
      exact .tok p f (P + D) k0 tx (q + D) _ none ((e.trans hbl).trans e2) (by omega) ht (by omega) (by omega) hm
    | succ j =>
      have hj : j < ts.length := by simpa using hk
      have hPj : P = (ts[j]'hj).pos := hPk
      show ToksA u p f (⟨k0, tx, b, feedB s p b || f⟩ :: wid D nl j ts) none
      have hpos := (toksA_pos hn h2).1 _ (List.getElem_mem hj)
      rw [← hPj] at hpos
      have e := V1.skip (fun e => by omega) s.size p b (by omega) (Nat.zero_le _) hp h (by omega)
      have e2 := V1.stop n1' (Nat.zero_le _) (show b < P by omega) (skip_idem s.size p b (by omega) hp h)
      rw [Nat.add_zero, Nat.add_zero] at e
      rw [Nat.add_zero] at e2
      have ht := (V1.tok n1' (Nat.zero_le _) hr rfl (show q ≤ P by omega)).2
      have hf := feedB_vw (p := p) (b := b) V1 (Nat.zero_le _) (show b ≤ P by omega) (by omega)
      rw [Nat.add_zero, Nat.add_zero] at hf
      rw [← hf]
      exact .tok p f b k0 tx q _ none (e.trans e2) (by omega) ht h1 (by omega) (ih hres h2 j hj hPj)

/-! ### The blanks that a law puts there -/

/-- A text that is a blank alone: it is passed over. -/
theorem blank_over {b : ByteArray} (x : ByteArray) (hx : x = ⟨(b.data.toList ++ [120]).toArray⟩) (hk : skipM x 0 = .inl b.size) {u : ByteArray} {P : Nat} (hu : P + b.size ≤ u.size) (he : u.extract P (P + b.size) = b) : skipM u P = skipM u (P + b.size) := by
  have hz : x.size = b.size + 1 := by
    rw [hx]
    show (b.data.toList ++ [120]).toArray.size = _
    rw [List.size_toArray, List.length_append, size_list]
    rfl
  have V : Vw x u P 0 b.size := by
    refine ⟨by omega, by omega, fun i _ hi => ?_⟩
    have h1 : byteAt (u.extract P (P + b.size)) i = byteAt u (P + i) := byteAt_ext (by omega) hu
    rw [he] at h1
    rw [Nat.add_comm i P, ← h1, byteAt_list, byteAt_list, hx]
    show ((b.data.toList.getD i 0).toNat : Int) = (((b.data.toList ++ [120]).getD i 0).toNat : Int)
    rw [List.getD_eq_getElem?_getD, List.getD_eq_getElem?_getD, List.getElem?_append_left (by rw [size_list]; exact hi)]
  have := V.skip (fun e => by omega) x.size 0 b.size (by omega) (Nat.le_refl _) (Nat.zero_le _) hk (Nat.le_refl _)
  rw [Nat.zero_add, Nat.add_comm b.size P] at this
  exact this

end Tk
end Go.Proofs.YtmphkifhnjfkmaaGreatDoor

namespace Go.Proofs.YtmphkifhnjfkmaaGreatDoor
open Go.ChangeShapes Go.WideShapes Go.ChangeAt Go.RowKit Go.WideMaps Go.Maps
namespace Tk

/-! ### Division by 10^19, as the machine does it, is division -/

/-- The estimate, brought down, is the digit. -/
theorem dQ_spec (U C : Int) (hU0 : 0 ≤ U) (hU : U < 10000000000000000000) (hC0 : 0 ≤ C) (hC : C < 4294967296) :
    ∀ (n : Nat) (q r : Int), 0 ≤ q → q ≤ 4294967296 → 0 ≤ r → r < 4294967296 → q * 2328306436 + r = U → U * 4294967296 + C < (q + 1) * 10000000000000000000 → dFuel n r →
      0 ≤ dQ n 2313682944 C q r ∧ dQ n 2313682944 C q r < 4294967296 ∧ dQ n 2313682944 C q r * 10000000000000000000 ≤ U * 4294967296 + C ∧ U * 4294967296 + C < (dQ n 2313682944 C q r + 1) * 10000000000000000000
  | 0, q, r, _, _, _, h4, _, _, hf => by obtain ⟨_, hf⟩ := hf; omega
  | n + 1, q, r, h1, h2, h3, h4, h5, h6, hf => by
    unfold dQ
    by_cases hq : 4294967296 ≤ q
    · rw [decide_eq_true hq, Bool.true_or, if_pos rfl]
      rw [IntKind.wrap_u64, IntKind.wrap_u64]
      have e1 : (q - 1) % 18446744073709551616 = q - 1 := by omega
      have e2 : (r + 2328306436) % 18446744073709551616 = r + 2328306436 := by omega
      rw [e1, e2]
      split
      · refine ⟨by omega, by omega, by omega, by omega⟩
      · rename_i hr
        obtain ⟨m, hm, hf'⟩ := dFuel_step hf (by rw [IntKind.wrap_u64, e2]; omega)
        rw [IntKind.wrap_u64, e2] at hf'
        obtain rfl : n = m := by omega
        exact dQ_spec U C hU0 hU hC0 hC n (q - 1) (r + 2328306436) (by omega) (by omega) (by omega) (by omega) (by omega) (by omega) hf'
    · rw [decide_eq_false hq, Bool.false_or]
      have e3 : IntKind.u64.wrap (IntKind.u64.wrap (4294967296 * r) + C) = 4294967296 * r + C := by rw [IntKind.wrap_u64, IntKind.wrap_u64]; omega
      have e4 : IntKind.u64.wrap (q * 2313682944) = q * 2313682944 := by rw [IntKind.wrap_u64]; omega
      rw [e3, e4]
      by_cases ht : 4294967296 * r + C < q * 2313682944
      · rw [decide_eq_true ht, if_pos rfl]
        rw [IntKind.wrap_u64, IntKind.wrap_u64]
        have e1 : (q - 1) % 18446744073709551616 = q - 1 := by omega
        have e2 : (r + 2328306436) % 18446744073709551616 = r + 2328306436 := by omega
        rw [e1, e2]
        split
        · refine ⟨by omega, by omega, by omega, by omega⟩
        · rename_i hr
          obtain ⟨m, hm, hf'⟩ := dFuel_step hf (by rw [IntKind.wrap_u64, e2]; omega)
          rw [IntKind.wrap_u64, e2] at hf'
          obtain rfl : n = m := by omega
          exact dQ_spec U C hU0 hU hC0 hC n (q - 1) (r + 2328306436) (by omega) (by omega) (by omega) (by omega) (by omega) (by omega) hf'
      · rw [decide_eq_false ht, if_neg (by decide)]
        refine ⟨by omega, by omega, by omega, by omega⟩

theorem dY_eq : dY = 2313682944 := by
  unfold dY
  rw [show (10000000000000000000 : Int) = ((10000000000000000000 : Nat) : Int) from rfl, show (4294967295 : Int) = ((4294967295 : Nat) : Int) from rfl, u64_and_nat _ _ (by decide) (by decide)]
  decide

theorem and32 (lo : Int) (l0 : 0 ≤ lo) (l1 : lo < 18446744073709551616) : bits .and .u64 lo 4294967295 = lo % 4294967296 := by
  obtain ⟨n, rfl⟩ : ∃ n : Nat, lo = n := ⟨lo.toNat, by omega⟩
  rw [show (4294967295 : Int) = ((4294967295 : Nat) : Int) from rfl, u64_and_nat _ _ (by omega) (by decide)]
  have : n &&& 4294967295 = n % 4294967296 := Nat.and_two_pow_sub_one_eq_mod n 32
  rw [this]
  omega

theorem dU_eq (hi lo : Int) (h0 : 0 ≤ hi) (h1 : hi < 18446744073709551616) (l0 : 0 ≤ lo) (l1 : lo < 18446744073709551616) : dU hi lo = hi := by
  unfold dU
  rw [IntKind.wrap_u64, show hi % 18446744073709551616 = hi by omega, show lo / 18446744073709551616 = 0 by omega]
  obtain ⟨n, rfl⟩ : ∃ n : Nat, hi = n := ⟨hi.toNat, by omega⟩
  rw [show (0 : Int) = ((0 : Nat) : Int) from rfl, u64_or_nat _ _ (by omega) (by decide), Nat.or_zero]

/-- One digit of base 2^32 of the quotient. -/
theorem dD_spec (U C : Int) (hU0 : 0 ≤ U) (hU : U < 10000000000000000000) (hC0 : 0 ≤ C) (hC : C < 4294967296) :
    0 ≤ dD 2313682944 C U ∧ dD 2313682944 C U < 4294967296 ∧ dD 2313682944 C U * 10000000000000000000 ≤ U * 4294967296 + C ∧ U * 4294967296 + C < (dD 2313682944 C U + 1) * 10000000000000000000 := by
  unfold dD
  have e0 : U.tdiv 2328306436 = U / 2328306436 := Int.tdiv_eq_ediv_of_nonneg hU0
  rw [e0]
  have e1 : IntKind.u64.wrap (U / 2328306436) = U / 2328306436 := by rw [IntKind.wrap_u64]; omega
  rw [e1]
  have e2 : IntKind.u64.wrap (U / 2328306436 * 2328306436) = U / 2328306436 * 2328306436 := by rw [IntKind.wrap_u64]; omega
  rw [e2]
  have e3 : IntKind.u64.wrap (U - U / 2328306436 * 2328306436) = U - U / 2328306436 * 2328306436 := by rw [IntKind.wrap_u64]; omega
  rw [e3]
  exact dQ_spec U C hU0 hU hC0 hC 4 _ _ (by omega) (by omega) (by omega) (by omega) (by omega) (by omega) ⟨by omega, .inl (by omega)⟩

theorem div_spec (hi lo : Int) (h0 : 0 ≤ hi) (h1 : hi < 10000000000000000000) (l0 : 0 ≤ lo) (l1 : lo < 18446744073709551616) :
    divHi hi lo * 10000000000000000000 + divLo hi lo = hi * 18446744073709551616 + lo ∧ 0 ≤ divLo hi lo ∧ divLo hi lo < 10000000000000000000 ∧ 0 ≤ divHi hi lo ∧ divHi hi lo < 18446744073709551616 := by
  have eU := dU_eq hi lo h0 (by omega) l0 l1
  obtain ⟨q1, hq1⟩ : ∃ q1, q1 = d1 hi lo := ⟨_, rfl⟩
  have s1 := dD_spec hi (lo / 4294967296) h0 h1 (by omega) (by omega)
  have E1 : dD 2313682944 (lo / 4294967296) hi = q1 := by rw [hq1]; unfold d1; rw [dY_eq, eU]
  rw [E1] at s1
  obtain ⟨a1, a2, a3, a4⟩ := s1
  obtain ⟨V, hV⟩ : ∃ V, V = dV hi lo := ⟨_, rfl⟩
  have EV : V = hi * 4294967296 + lo / 4294967296 - q1 * 10000000000000000000 := by
    rw [hV]
    unfold dV
    rw [eU, ← hq1, IntKind.wrap_u64, IntKind.wrap_u64, IntKind.wrap_u64, IntKind.wrap_u64]
    omega
  have v0 : 0 ≤ V := by omega
  have v1 : V < 10000000000000000000 := by omega
  obtain ⟨q2, hq2⟩ : ∃ q2, q2 = d2 hi lo := ⟨_, rfl⟩
  have s2 := dD_spec V (lo % 4294967296) v0 v1 (by omega) (by omega)
  have E2 : dD 2313682944 (lo % 4294967296) V = q2 := by rw [hq2]; unfold d2; rw [dY_eq, and32 lo l0 l1, ← hV]
  rw [E2] at s2
  obtain ⟨b1, b2, b3, b4⟩ := s2
  have eH : divHi hi lo = q1 * 4294967296 + q2 := by
    unfold divHi
    rw [← hq1, ← hq2, IntKind.wrap_u64, IntKind.wrap_u64]
    omega
  have eL : divLo hi lo = V * 4294967296 + lo % 4294967296 - q2 * 10000000000000000000 := by
    unfold divLo
    rw [← hV, ← hq2, and32 lo l0 l1, IntKind.wrap_u64, IntKind.wrap_u64, IntKind.wrap_u64, IntKind.wrap_u64]
    omega
  rw [eH, eL]
  refine ⟨by omega, by omega, by omega, by omega, by omega⟩

theorem dv_spec (hi lo : Int) (h0 : 0 ≤ hi) (h1 : hi < 10000000000000000000) (l0 : 0 ≤ lo) (l1 : lo < 18446744073709551616) :
    dvH hi lo * 10000000000000000000 + dvL hi lo = hi * 18446744073709551616 + lo ∧ 0 ≤ dvL hi lo ∧ dvL hi lo < 10000000000000000000 ∧ 0 ≤ dvH hi lo ∧ dvH hi lo < 18446744073709551616 := by
  unfold dvH dvL
  by_cases h : hi = 0
  · rw [if_pos h, if_pos h]
    refine ⟨by omega, by omega, by omega, by omega, by omega⟩
  · rw [if_neg h, if_neg h]
    exact div_spec hi lo h0 h1 l0 l1

end Tk
end Go.Proofs.YtmphkifhnjfkmaaGreatDoor

namespace Go.Proofs.YtmphkifhnjfkmaaGreatDoor
open Go.ChangeShapes Go.WideShapes Go.ChangeAt Go.RowKit Go.WideMaps Go.Maps
namespace Tk

/-! ### The text of a number of 128 bits is its decimal digits -/

/-- k decimal digits of b, noughts in front. -/
def fixD : Nat → Nat → List UInt8
  | 0, _ => []
  | k + 1, b => fixD k (b / 10) ++ [UInt8.ofNat (48 + b % 10)]

theorem fixD_succ (k b : Nat) : fixD (k + 1) b = fixD k (b / 10) ++ [UInt8.ofNat (48 + b % 10)] := rfl

theorem fixD_len : ∀ k b, (fixD k b).length = k
  | 0, _ => rfl
  | k + 1, b => by rw [fixD_succ, List.length_append, fixD_len k]; rfl

theorem fixD_zero : ∀ k, fixD k 0 = List.replicate k 48
  | 0 => rfl
  | k + 1 => by
    rw [fixD_succ, Nat.zero_div, fixD_zero k, List.replicate_succ']
    rfl

theorem dec_step {n : Nat} (h : 10 ≤ n) : Lib.decDigits n = Lib.decDigits (n / 10) ++ [UInt8.ofNat (48 + n % 10)] := by
  rw [Lib.decDigits, dif_neg (by omega)]

theorem dec_split : ∀ (k a b : Nat), 0 < a → b < 10 ^ k → Lib.decDigits (a * 10 ^ k + b) = Lib.decDigits a ++ fixD k b
  | 0, a, b, ha, hb => by
    have : b = 0 := by simpa using hb
    subst this
    simp [fixD]
  | k + 1, a, b, ha, hb => by
    have hp : 10 ^ (k + 1) = 10 * 10 ^ k := by rw [Nat.pow_succ, Nat.mul_comm]
    have h1 : 1 ≤ 10 ^ k := Nat.pos_of_ne_zero (by simp)
    have e : a * 10 ^ (k + 1) + b = 10 * (a * 10 ^ k) + b := by rw [hp, Nat.mul_left_comm]
    have h2 : 10 ^ k ≤ a * 10 ^ k := Nat.le_mul_of_pos_left _ ha
    rw [e, dec_step (by omega)]
    have e1 : (10 * (a * 10 ^ k) + b) / 10 = a * 10 ^ k + b / 10 := by omega
    have e2 : (10 * (a * 10 ^ k) + b) % 10 = b % 10 := by omega
    rw [e1, e2, dec_split k a (b / 10) ha (by omega), fixD_succ, List.append_assoc]

theorem fix_dec : ∀ (k b : Nat), 1 ≤ k → b < 10 ^ k → (Lib.decDigits b).length ≤ k ∧ fixD k b = List.replicate (k - (Lib.decDigits b).length) 48 ++ Lib.decDigits b
  | 0, b, h, _ => by omega
  | k + 1, b, _, hb => by
    by_cases h : b < 10
    · have e : Lib.decDigits b = [UInt8.ofNat (48 + b)] := Lib.decDigits_one h
      rw [e, fixD_succ, show b / 10 = 0 by omega, show b % 10 = b by omega, fixD_zero]
      exact ⟨by simp, rfl⟩
    · have hk : 1 ≤ k := by
        rcases Nat.eq_zero_or_pos k with h0 | h0
        · subst h0; omega
        · exact h0
      have hp : 10 ^ (k + 1) = 10 * 10 ^ k := by rw [Nat.pow_succ, Nat.mul_comm]
      obtain ⟨i1, i2⟩ := fix_dec k (b / 10) hk (by omega)
      rw [dec_step (by omega), fixD_succ, i2, List.length_append]
      refine ⟨by simp; omega, ?_⟩
      rw [show k + 1 - ((Lib.decDigits (b / 10)).length + [UInt8.ofNat (48 + b % 10)].length) = k - (Lib.decDigits (b / 10)).length by simp, List.append_assoc]

theorem padF_is : ∀ (n : Nat) (l : List UInt8), 19 ≤ l.length + n → padF n ⟨l.toArray⟩ = ⟨(List.replicate (19 - l.length) 48 ++ l).toArray⟩
  | 0, l, h => by
    rw [show 19 - l.length = 0 by omega]
    rfl
  | n + 1, l, h => by
    unfold padF
    have hz : (⟨l.toArray⟩ : ByteArray).size = l.length := by show l.toArray.size = _; simp
    rw [hz]
    split
    · have e : (⟨#[48]⟩ : ByteArray) ++ ⟨l.toArray⟩ = ⟨(48 :: l).toArray⟩ := by
        apply ByteArray.ext
        rw [ByteArray.data_append]
        simp
      rw [e, padF_is n (48 :: l) (by simp; omega)]
      rw [show 19 - l.length = (19 - (48 :: l).length) + 1 by simp; omega, List.replicate_succ', List.append_assoc]
      rfl
    · rw [show 19 - l.length = 0 by omega]
      rfl

theorem pad_dec (b : Nat) (hb : b < 10 ^ 19) : padF 19 ⟨(Lib.decDigits b).toArray⟩ = ⟨(fixD 19 b).toArray⟩ := by
  obtain ⟨h1, h2⟩ := fix_dec 19 b (by decide) hb
  rw [padF_is 19 _ (by omega), h2]

theorem app_list (a b : List UInt8) : (⟨a.toArray⟩ : ByteArray) ++ ⟨b.toArray⟩ = ⟨(a ++ b).toArray⟩ := by
  apply ByteArray.ext
  rw [ByteArray.data_append]
  simp

theorem wideZ_dec (hi lo : Nat) (h1 : hi < 18446744073709551616) (l1 : lo < 18446744073709551616) : wideZ hi lo = ⟨(Lib.decDigits (hi * 18446744073709551616 + lo)).toArray⟩ := by
  have p19 : (10 : Nat) ^ 19 = 10000000000000000000 := by decide
  unfold wideZ
  by_cases h0 : hi = 0
  · rw [if_pos h0, h0]
    simp
  · rw [if_neg h0]
    dsimp only
    obtain ⟨s1, s2, s3, s4, s5⟩ := dv_spec ((hi : Int) % 10000000000000000000) lo (by omega) (by omega) (by omega) (by omega)
    generalize dvH ((hi : Int) % 10000000000000000000) lo = l at *
    generalize dvL ((hi : Int) % 10000000000000000000) lo = r at *
    obtain ⟨l, rfl⟩ : ∃ n : Nat, l = n := ⟨l.toNat, by omega⟩
    obtain ⟨r, rfl⟩ : ∃ n : Nat, r = n := ⟨r.toNat, by omega⟩
    by_cases hs : hi < 10000000000000000000
    · rw [if_pos hs]
      have el : ((l : Int)).toNat = l := by omega
      have er : ((r : Int)).toNat = r := by omega
      rw [el, er, pad_dec r (by rw [p19]; omega), app_list]
      have e : l * 10 ^ 19 + r = hi * 18446744073709551616 + lo := by rw [p19]; omega
      have h := dec_split 19 l r (by omega) (by rw [p19]; omega)
      rw [e] at h
      rw [h]
    · rw [if_neg hs]
      obtain ⟨t1, t2, t3, t4, t5⟩ := dv_spec 1 l (by omega) (by omega) (by omega) (by omega)
      generalize dvH 1 (l : Int) = a at *
      generalize dvL 1 (l : Int) = b at *
      obtain ⟨a, rfl⟩ : ∃ n : Nat, a = n := ⟨a.toNat, by omega⟩
      obtain ⟨b, rfl⟩ : ∃ n : Nat, b = n := ⟨b.toNat, by omega⟩
      have ea : ((a : Int)).toNat = a := by omega
      have eb : ((b : Int)).toNat = b := by omega
      have er : ((r : Int)).toNat = r := by omega
      rw [ea, eb, er, pad_dec r (by rw [p19]; omega), pad_dec b (by rw [p19]; omega), app_list, app_list]
      have e : (a * 10 ^ 19 + b) * 10 ^ 19 + r = hi * 18446744073709551616 + lo := by rw [p19]; omega
      have h := dec_split 19 a b (by omega) (by rw [p19]; omega)
      have h2 := dec_split 19 (a * 10 ^ 19 + b) r (by rw [p19]; omega) (by rw [p19]; omega)
      rw [e, h] at h2
      rw [h2]

end Tk
end Go.Proofs.YtmphkifhnjfkmaaGreatDoor
