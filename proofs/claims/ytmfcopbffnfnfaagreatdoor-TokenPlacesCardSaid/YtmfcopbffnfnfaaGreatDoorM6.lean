/- The token at a place, or the error, of any text; and that every text has its tokens. What stands in a window of a text, seen in another text: prefixes, words, numbers. What stands in a window of a text, seen in another text: symbols, characters, strings. The token at a place, and what is passed over, in a window of a text. The tokens of a text, of one that is cut, of one with more blanks. The examples of the chapter hold. The variables that the functions of layer 1 read. Scan of any text, by what stands in it. bare: tokens without places and lines. same: two lists of tokens with the same kinds and texts. The law TokenPlaces, given what Scan answers. The law TokenPlaces, whatever the text and the number. From the row's condition and the world's shape to what the walks read. -/
import Derived.Test.YtmfcopbffnfnfaaGreatDoorM5
import Derived.Test.YtmfcopbffnfnfaaGreatDoorRows
import Derived.PinnedBridge
import Derived.Lib.LaidU8T
import Derived.OpenShut
namespace Go.Proofs.YtmfcopbffnfnfaaGreatDoor
open Go.ChangeShapes Go.WideShapes Go.ChangeAt Go.RowKit Go.WideMaps Go.Maps
namespace Tk

theorem skipF_rng (s : ByteArray) : ∀ (n p b : Nat), p ≤ s.size → skipF s n p = .inl b → p ≤ b ∧ b ≤ s.size
  | 0, p, b, hp, h => by cases h; exact ⟨Nat.le_refl _, hp⟩
  | n + 1, p, b, hp, h => by
    unfold skipF at h
    split at h
    · rename_i hlt
      split at h
      · have := skipF_rng s n (p + 1) b (by omega) h; omega
      · split at h
        · split at h
          · have hl := lineN_spec s p hp
            have := skipF_rng s n (lineN s p) b hl.2.1 h; omega
          · cases h
        · split at h
          · split at h
            · cases h
            · rename_i hc
              split at h
              · have hr : commentEndZ s p = -1 ∨ ((p : Int) < commentEndZ s p ∧ commentEndZ s p ≤ s.size) := ceF_range s (s.size + 1) p 0
                have := skipF_rng s n (commentEndZ s p).toNat b (by omega) h
                omega
              · cases h
          · cases h; exact ⟨Nat.le_refl _, hp⟩
    · cases h; exact ⟨Nat.le_refl _, hp⟩

theorem skipM_range {s : ByteArray} {p b : Nat} (hp : p ≤ s.size) (h : skipM s p = .inl b) : p ≤ b ∧ b ≤ s.size := skipF_rng s _ p b hp h

theorem best_has (s : ByteArray) (a : Nat) : ∀ k, (bestN s a k).size = 0 ∨ hasB s a (bestN s a k) = true
  | 0 => .inl rfl
  | k + 1 => by
    unfold bestN
    split
    · rename_i h
      rw [Bool.and_eq_true, Bool.and_eq_true] at h
      exact .inr h.1.2
    · exact best_has s a k

theorem size_of_has {s : ByteArray} {p : Nat} {x : ByteArray} (hp : p ≤ s.size) (h : hasB s p x = true) : p + x.size ≤ s.size := by
  have h1 := (List.isPrefixOf_iff_prefix.1 h).length_le
  have e1 : x.data.toList.length = x.size := by rw [Array.length_toList]; rfl
  have e2 : (s.extract p s.size).data.toList.length = s.size - p := by
    rw [Array.length_toList]
    show (s.extract p s.size).size = _
    rw [ByteArray.size_extract]; omega
  rw [e1, e2] at h1
  omega

/-- The token at a place: its kind, its text, its end; or the error's code. -/
inductive TokAt (s : ByteArray) (p : Nat) : (Int × ByteArray × Nat) ⊕ Int → Prop
  | word (hl : letB (byteAt s p) = true) : TokAt s p (.inl (wordKind (s.extract p (wordEnd s p)).data.toList, s.extract p (wordEnd s p), wordEnd s p))
  | under (hl : letB (byteAt s p) = false) (h95 : byteAt s p = 95) : TokAt s p (.inl (wordKind (s.extract p (wordEnd s p)).data.toList, s.extract p (wordEnd s p), wordEnd s p))
  | num (hl : letB (byteAt s p) = false) (hd : digB (byteAt s p) = true) (h95 : byteAt s p ≠ 95) (k : Int) (tx : ByteArray) (q : Nat) (h : NumAt s p (some (k, tx, q))) (he : partB (byteAt s q) = false) : TokAt s p (.inl (k, tx, q))
  | numPart (hl : letB (byteAt s p) = false) (hd : digB (byteAt s p) = true) (h95 : byteAt s p ≠ 95) (k : Int) (tx : ByteArray) (q : Nat) (h : NumAt s p (some (k, tx, q))) (he : partB (byteAt s q) = true) : TokAt s p (.inr 33)
  | numBad (hl : letB (byteAt s p) = false) (hd : digB (byteAt s p) = true) (h95 : byteAt s p ≠ 95) (h : NumAt s p none) : TokAt s p (.inr 33)
  | char (hl : letB (byteAt s p) = false) (hd : digB (byteAt s p) = false) (h95 : byteAt s p ≠ 95) (h39 : byteAt s p = 39) (r : Int) (q : Nat) (hm : chrM s p = some (r, q)) (he : partB (byteAt s q) = false) : TokAt s p (.inl (3, ⟨(Lib.itoa r).toArray⟩, q))
  | charPart (hl : letB (byteAt s p) = false) (hd : digB (byteAt s p) = false) (h95 : byteAt s p ≠ 95) (h39 : byteAt s p = 39) (r : Int) (q : Nat) (hm : chrM s p = some (r, q)) (he : partB (byteAt s q) = true) : TokAt s p (.inr 33)
  | charBad (hl : letB (byteAt s p) = false) (hd : digB (byteAt s p) = false) (h95 : byteAt s p ≠ 95) (h39 : byteAt s p = 39) (hm : chrM s p = none) : TokAt s p (.inr 31)
  | block (hl : letB (byteAt s p) = false) (hd : digB (byteAt s p) = false) (h95 : byteAt s p ≠ 95) (h39 : byteAt s p ≠ 39) (h34 : byteAt s p = 34) (h3 : pre s p quote3 = true) (q : Nat) (hm : blkM s p = some q) : TokAt s p (.inl (5, s.extract (p + 3) q, q + 3))
  | blockBad (hl : letB (byteAt s p) = false) (hd : digB (byteAt s p) = false) (h95 : byteAt s p ≠ 95) (h39 : byteAt s p ≠ 39) (h34 : byteAt s p = 34) (h3 : pre s p quote3 = true) (hm : blkM s p = none) : TokAt s p (.inr 31)
  | line (h34 : byteAt s p = 34) (h3 : pre s p quote3 = false) (rs : List Int) (q : Nat) (hm : litF s (s.size + 1) (p + 1) = some (rs, q)) : TokAt s p (.inl (5, ⟨(textOf rs).toArray⟩, q + 1))
  | lineBad (h34 : byteAt s p = 34) (h3 : pre s p quote3 = false) (hm : litF s (s.size + 1) (p + 1) = none) : TokAt s p (.inr 31)
  | symbol (hl : letB (byteAt s p) = false) (hd : digB (byteAt s p) = false) (h95 : byteAt s p ≠ 95) (h39 : byteAt s p ≠ 39) (h34 : byteAt s p ≠ 34) (h3 : pre s p quote3 = false) (hn : 1 ≤ (bestN s p 43).size) : TokAt s p (.inl (6, bestN s p 43, p + (bestN s p 43).size))
  | symbolBad (hl : letB (byteAt s p) = false) (hd : digB (byteAt s p) = false) (h95 : byteAt s p ≠ 95) (h39 : byteAt s p ≠ 39) (h34 : byteAt s p ≠ 34) (h3 : pre s p quote3 = false) (hn : (bestN s p 43).size = 0) : TokAt s p (.inr 30)

theorem pre_quote {s : ByteArray} {p : Nat} (hp : p < s.size) (h : pre s p quote3 = true) : byteAt s p = 34 := by
  have h' : Lib.hasPrefix (s.extract p s.size).data.toList quote3.data.toList = true := h
  unfold Lib.hasPrefix at h'
  rw [Lib.ext_list] at h'
  cases hl : s.data.toList.drop p with
  | nil => rw [hl] at h'; cases h'
  | cons x t =>
    rw [hl] at h'
    have hx : ((34 : UInt8) == x) = true := by
      have : (((34 : UInt8) == x) && _) = true := h'
      rw [Bool.and_eq_true] at this
      exact this.1
    have hx' : 34 = x := by simpa using hx
    have hg : s.data.toList[p]? = some x := by
      have := congrArg (fun l => l[0]?) hl
      simpa using this
    rw [byteAt_list, List.getD_eq_getElem?_getD, hg, ← hx']
    rfl

theorem tokAt_ex (s : ByteArray) (p : Nat) (hs : s.size ≤ 20000) (hp : p < s.size) : ∃ r, TokAt s p r := by
  cases hl : letB (byteAt s p)
  · by_cases h95 : byteAt s p = 95
    · exact ⟨_, .under hl h95⟩
    · cases hd : digB (byteAt s p)
      · by_cases h39 : byteAt s p = 39
        · cases hm : chrM s p with
          | none => exact ⟨_, .charBad hl hd h95 h39 hm⟩
          | some x =>
            obtain ⟨r, q⟩ := x
            cases he : partB (byteAt s q)
            · exact ⟨_, .char hl hd h95 h39 r q hm he⟩
            · exact ⟨_, .charPart hl hd h95 h39 r q hm he⟩
        · by_cases h34 : byteAt s p = 34
          · cases h3 : pre s p quote3
            · cases hm : litF s (s.size + 1) (p + 1) with
              | none => exact ⟨_, .lineBad h34 h3 hm⟩
              | some x => exact ⟨_, .line h34 h3 x.1 x.2 hm⟩
            · cases hm : blkM s p with
              | none => exact ⟨_, .blockBad hl hd h95 h39 h34 h3 hm⟩
              | some q => exact ⟨_, .block hl hd h95 h39 h34 h3 q hm⟩
          · have h3 : pre s p quote3 = false := by
              cases h3 : pre s p quote3
              · rfl
              · exact absurd (pre_quote hp h3) h34
            by_cases hn : (bestN s p 43).size = 0
            · exact ⟨_, .symbolBad hl hd h95 h39 h34 h3 hn⟩
            · exact ⟨_, .symbol hl hd h95 h39 h34 h3 (by omega)⟩
      · obtain ⟨r, h⟩ := num_ex s p hp
        cases r with
        | none => exact ⟨_, .numBad hl hd h95 h⟩
        | some x =>
          obtain ⟨k, tx, q⟩ := x
          cases he : partB (byteAt s q)
          · exact ⟨_, .num hl hd h95 k tx q h he⟩
          · exact ⟨_, .numPart hl hd h95 k tx q h he⟩
  · exact ⟨_, .word hl⟩

theorem tokAt_ok {s : ByteArray} {p q : Nat} {k : Int} {tx : ByteArray} {r : (Int × ByteArray × Nat) ⊕ Int} (h : TokAt s p r) (hr0 : r = .inl (k, tx, q)) (hs : s.size ≤ 20000) (hp : p < s.size) : ReadAt s p k tx q ∧ p < q ∧ q ≤ s.size := by
  cases h with
  | word hl =>
    simp only [Sum.inl.injEq, Prod.mk.injEq] at hr0
    obtain ⟨rfl, rfl, rfl⟩ := hr0
    exact ⟨read_word s p _ _ _ hs hp hl rfl rfl rfl, wordEnd_range s p hp (by unfold partB; rw [hl]; rfl)⟩
  | under hl h95 =>
    simp only [Sum.inl.injEq, Prod.mk.injEq] at hr0
    obtain ⟨rfl, rfl, rfl⟩ := hr0
    exact ⟨read_under s p hs hp hl h95, wordEnd_range s p hp (by rw [h95]; decide)⟩
  | num hl hd h95 _ _ _ h he =>
    simp only [Sum.inl.injEq, Prod.mk.injEq] at hr0
    obtain ⟨rfl, rfl, rfl⟩ := hr0
    exact ⟨read_num s p _ _ _ h hs hp hl hd h95 he, num_range h _ _ _ rfl⟩
  | char hl hd h95 h39 r _ hm he =>
    simp only [Sum.inl.injEq, Prod.mk.injEq] at hr0
    obtain ⟨rfl, rfl, rfl⟩ := hr0
    have hr := chrM_range hp hm
    exact ⟨read_char_ok s p _ r hs hp hl hd h95 h39 hm he, hr.1, hr.2.1⟩
  | block hl hd h95 h39 h34 h3 q hm =>
    simp only [Sum.inl.injEq, Prod.mk.injEq] at hr0
    obtain ⟨rfl, rfl, rfl⟩ := hr0
    have h4 := size_of_quote3 h3
    have hr := blkM_range h4 hm
    exact ⟨read_block_ok s p _ hs hp hl hd h95 h39 h34 h3 hm, by omega, hr.2⟩
  | line h34 h3 rs q hm =>
    simp only [Sum.inl.injEq, Prod.mk.injEq] at hr0
    obtain ⟨rfl, rfl, rfl⟩ := hr0
    have hL := litF_ok hs (s.size + 1) (p + 1) rs q (by omega) hm
    have hr := lit_end hL
    exact ⟨read_line s p _ rs _ hs hp h34 h3 hL rfl, by omega, by omega⟩
  | symbol hl hd h95 h39 h34 h3 hn =>
    simp only [Sum.inl.injEq, Prod.mk.injEq] at hr0
    obtain ⟨rfl, rfl, rfl⟩ := hr0
    have hb := best_has s p 43
    have hz : p + (bestN s p 43).size ≤ s.size := by
      rcases hb with hb | hb
      · omega
      · exact size_of_has (by omega) hb
    exact ⟨read_symbol s p _ hs hp hl hd h95 h39 h34 h3 rfl hn, by omega, hz⟩
  | numPart _ _ _ _ _ _ _ _ => cases hr0
  | numBad _ _ _ _ => cases hr0
  | charPart _ _ _ _ _ _ _ => cases hr0
  | charBad _ _ _ _ _ => cases hr0
  | blockBad _ _ _ _ _ _ _ => cases hr0
  | lineBad _ _ _ => cases hr0
  | symbolBad _ _ _ _ _ _ _ => cases hr0

theorem tokAt_bad {s : ByteArray} {p : Nat} {code : Int} {r : (Int × ByteArray × Nat) ⊕ Int} (h : TokAt s p r) (hr0 : r = .inr code) (hs : s.size ≤ 20000) (hp : p < s.size) : ReadBad s p code := by
  cases h with
  | numPart hl hd h95 _ _ _ h he => cases hr0; exact read_num_part s p _ _ _ h hs hp hl hd h95 he
  | numBad hl hd h95 h => cases hr0; exact read_num_bad s p h hs hp hl hd h95
  | charPart hl hd h95 h39 r q hm he => cases hr0; exact read_char_part s p q r hs hp hl hd h95 h39 hm he
  | charBad hl hd h95 h39 hm => cases hr0; exact read_char_bad s p hs hp hl hd h95 h39 hm
  | blockBad hl hd h95 h39 h34 h3 hm => cases hr0; exact read_block_bad s p hs hp hl hd h95 h39 h34 h3 hm
  | lineBad h34 h3 hm => cases hr0; exact read_line_bad s p hs hp h34 h3 hm
  | symbolBad hl hd h95 h39 h34 h3 hn => cases hr0; exact read_symbol_bad s p hs hp hl hd h95 h39 h34 h3 hn
  | word _ => cases hr0
  | under _ _ => cases hr0
  | num _ _ _ _ _ _ _ _ => cases hr0
  | char _ _ _ _ _ _ _ => cases hr0
  | block _ _ _ _ _ _ _ _ => cases hr0
  | line _ _ _ _ _ => cases hr0
  | symbol _ _ _ _ _ _ _ => cases hr0

/-- Every text has its tokens, and its error, if it has one. -/
theorem toksU_ex (s : ByteArray) (hs : s.size ≤ 20000) : ∀ (n p : Nat) (f : Bool), s.size < n + p → p ≤ s.size → ∃ ts res, ToksU s p f ts res
  | 0, p, f, h, hp => by omega
  | n + 1, p, f, h, hp => by
    cases hk : skipM s p with
    | inr q => exact ⟨_, _, .badSkip p f q hk⟩
    | inl b =>
      have hr := skipM_range hp hk
      rcases Nat.lt_or_ge b s.size with hb | hb
      · obtain ⟨r, ht⟩ := tokAt_ex s b hs hb
        cases r with
        | inr code => exact ⟨_, _, .badRead p f b code hk hb (tokAt_bad ht rfl hs hb)⟩
        | inl x =>
          obtain ⟨k, tx, q⟩ := x
          obtain ⟨h1, h2, h3⟩ := tokAt_ok ht rfl hs hb
          obtain ⟨ts, res, hn⟩ := toksU_ex s hs n q false (by omega) h3
          exact ⟨_, _, .tok p f b k tx q ts res hk hb h1 h2 h3 hn⟩
      · obtain rfl : b = s.size := by omega
        exact ⟨_, _, .last p f hk⟩

end Tk
end Go.Proofs.YtmfcopbffnfnfaaGreatDoor

namespace Go.Proofs.YtmfcopbffnfnfaaGreatDoor
open Go.ChangeShapes Go.WideShapes Go.ChangeAt Go.RowKit Go.WideMaps Go.Maps
namespace Tk

/-! ### A window of a text, seen in another one -/

/-- The bytes of s from P to Q stand in u, d places further on. -/
structure Vw (s u : ByteArray) (d P Q : Nat) : Prop where
  hs : Q ≤ s.size
  hu : Q + d ≤ u.size
  eq : ∀ x, P ≤ x → x < Q → byteAt u (x + d) = byteAt s x

/-- What may stand behind a window: nothing, or a blank. -/
def Neu (b : Int) : Prop := b = 0 ∨ b = 9 ∨ b = 10 ∨ b = 32

theorem Vw.sub {s u : ByteArray} {d P Q P' Q' : Nat} (h : Vw s u d P Q) (h1 : P ≤ P') (h2 : Q' ≤ Q) : Vw s u d P' Q' :=
  ⟨Nat.le_trans h2 h.hs, by have := h.hu; omega, fun x a b => h.eq x (by omega) (by omega)⟩

theorem Neu.part {b : Int} (h : Neu b) : partB b = false := by rcases h with rfl | rfl | rfl | rfl <;> decide
theorem Neu.quote {b : Int} (h : Neu b) : quoteB b = false := by rcases h with rfl | rfl | rfl | rfl <;> decide
theorem Neu.dig {b : Int} (h : Neu b) : digB b = false := by rcases h with rfl | rfl | rfl | rfl <;> decide
theorem Neu.digV {b base : Int} (h : Neu b) : ¬ digitV b base < base := by
  rcases h with rfl | rfl | rfl | rfl <;> (unfold digitV; rw [if_neg (by decide), if_neg (by decide), if_neg (by decide)]; omega)
theorem Neu.ne {b k : Int} (h : Neu b) (hk : k ≠ 0 ∧ k ≠ 9 ∧ k ≠ 10 ∧ k ≠ 32) : b ≠ k := by
  rcases h with rfl | rfl | rfl | rfl <;> omega

/-- The byte at a place up to the window's end: the same, or it is the end and neutral. -/
theorem Vw.at {s u : ByteArray} {d P Q x : Nat} (h : Vw s u d P Q) (n : Neu (byteAt u (Q + d))) (h1 : P ≤ x) (h2 : x ≤ Q) : byteAt u (x + d) = byteAt s x ∨ (x = Q ∧ Neu (byteAt u (x + d))) := by
  rcases Nat.lt_or_ge x Q with hx | hx
  · exact .inl (h.eq x h1 hx)
  · obtain rfl : x = Q := by omega
    exact .inr ⟨rfl, n⟩

theorem bytes_eq {s u : ByteArray} (hz : s.size = u.size) (h : ∀ i, i < s.size → byteAt u i = byteAt s i) : u = s := by
  have hz' : s.data.size = u.data.size := hz
  apply ByteArray.ext
  apply Array.ext (by omega)
  intro i h1 h2
  have hi : i < s.size := h2
  have := h i hi
  unfold byteAt at this
  rw [dif_pos hi, dif_pos (show i < u.size from h1)] at this
  have h3 : (u[i]'h1) = (s[i]'hi) := UInt8.toNat.inj (by omega)
  exact h3

theorem byteAt_ext {s : ByteArray} {a b i : Nat} (h : a + i < b) (hb : b ≤ s.size) : byteAt (s.extract a b) i = byteAt s (a + i) := by
  have hz : (s.extract a b).size = b - a := by rw [ByteArray.size_extract]; omega
  unfold byteAt
  rw [dif_pos (by omega), dif_pos (by omega)]
  congr 2
  simp [ByteArray.getElem_extract]

theorem Vw.ext {s u : ByteArray} {d P Q a b : Nat} (h : Vw s u d P Q) (h1 : P ≤ a) (h2 : b ≤ Q) : u.extract (a + d) (b + d) = s.extract a b := by
  have hs := h.hs
  have hu := h.hu
  apply bytes_eq
  · rw [ByteArray.size_extract, ByteArray.size_extract]; omega
  · intro i hi
    rw [ByteArray.size_extract] at hi
    rw [byteAt_ext (by omega) (by omega), byteAt_ext (by omega) (by omega), show a + d + i = a + i + d by omega]
    exact h.eq _ (by omega) (by omega)

/-- A text begins with a prefix at a place: its bytes. -/
theorem pre_iff (s : ByteArray) (p : Nat) : ∀ (x : List UInt8), (∀ b ∈ x, b ≠ 0) → (Lib.hasPrefix (s.extract p s.size).data.toList x = true ↔ ∀ i (h : i < x.length), byteAt s (p + i) = ((x[i]'h).toNat : Int)) := by
  intro x
  rw [Lib.ext_list]
  unfold Lib.hasPrefix
  induction x generalizing p with
  | nil => intro _; simp
  | cons a t ih =>
    intro hx
    have ha : a ≠ 0 := hx a (.head _)
    have ht : ∀ b ∈ t, b ≠ 0 := fun b hb => hx b (.tail _ hb)
    have hb0 := byteAt_list s p
    cases hl : s.data.toList.drop p with
    | nil =>
      have hz : s.data.toList.length ≤ p := by simpa using hl
      constructor
      · intro h; cases h
      · intro h
        have := h 0 (by simp)
        rw [Nat.add_zero, hb0, List.getD_eq_getElem?_getD, List.getElem?_eq_none hz] at this
        exfalso
        apply ha
        apply UInt8.toNat.inj
        have h4 : ((0 : UInt8).toNat : Int) = a.toNat := this
        have h5 : ((0 : UInt8).toNat) = a.toNat := by exact_mod_cast h4
        exact h5.symm
    | cons y r =>
      have hg : s.data.toList[p]? = some y := by
        have := congrArg (fun l => l[0]?) hl
        simpa using this
      have hr : s.data.toList.drop (p + 1) = r := by
        have := congrArg List.tail hl
        simpa using this
      have hby : byteAt s p = (y.toNat : Int) := by
        rw [hb0, List.getD_eq_getElem?_getD, hg]
        rfl
      have ih' := ih (p + 1) ht
      rw [hr] at ih'
      constructor
      · intro h
        have h' : ((a == y) && t.isPrefixOf r) = true := h
        rw [Bool.and_eq_true] at h'
        have hay : a = y := by simpa using h'.1
        have h3 := ih'.1 h'.2
        intro i hi
        cases i with
        | zero => rw [Nat.add_zero, hby, hay]; rfl
        | succ i =>
          have := h3 i (by simpa using hi)
          rw [show p + (i + 1) = p + 1 + i by omega, this]
          rfl
      · intro h
        have h0 := h 0 (by simp)
        rw [Nat.add_zero, hby] at h0
        have hay : a = y := UInt8.toNat.inj (by have : (y.toNat : Int) = a.toNat := h0; omega)
        have h3 : t.isPrefixOf r = true := ih'.2 fun i hi => by
          have := h (i + 1) (by simpa using hi)
          rw [show p + 1 + i = p + (i + 1) by omega, this]
          rfl
        show ((a == y) && t.isPrefixOf r) = true
        rw [Bool.and_eq_true]
        exact ⟨by simp [hay], h3⟩

/-- A prefix that has no neutral byte, seen through a window. -/
theorem Vw.vpre {s u : ByteArray} {d P Q p : Nat} (h : Vw s u d P Q) (h1 : P ≤ p) {x : List UInt8} (hx : ∀ b ∈ x, b ≠ 0) (hl : p + x.length ≤ Q) :
    Lib.hasPrefix (u.extract (p + d) u.size).data.toList x = Lib.hasPrefix (s.extract p s.size).data.toList x := by
  have e1 := pre_iff s p x hx
  have e2 := pre_iff u (p + d) x hx
  have : (Lib.hasPrefix (u.extract (p + d) u.size).data.toList x = true) ↔ (Lib.hasPrefix (s.extract p s.size).data.toList x = true) := by
    rw [e1, e2]
    constructor
    · intro g i hi
      rw [← h.eq (p + i) (by omega) (by omega), ← g i hi]
      congr 1
      omega
    · intro g i hi
      rw [← g i hi, ← h.eq (p + i) (by omega) (by omega)]
      congr 1
      omega
  cases ha : Lib.hasPrefix (u.extract (p + d) u.size).data.toList x <;> cases hb : Lib.hasPrefix (s.extract p s.size).data.toList x
  · rfl
  · rw [ha, hb] at this; simp at this
  · rw [ha, hb] at this; simp at this
  · rfl

/-- A prefix without a neutral byte that would reach over the window's end is not there. -/
theorem Vw.pre_over {s u : ByteArray} {d P Q p : Nat} (n : Neu (byteAt u (Q + d))) {x : List UInt8} (hx : ∀ b ∈ x, b ≠ 0 ∧ b ≠ 9 ∧ b ≠ 10 ∧ b ≠ 32) (h2 : p ≤ Q) (hl : Q < p + x.length) :
    Lib.hasPrefix (u.extract (p + d) u.size).data.toList x = false := by
  cases hb : Lib.hasPrefix (u.extract (p + d) u.size).data.toList x
  · rfl
  · have e := (pre_iff u (p + d) x fun b hb => (hx b hb).1).1 hb (Q - p) (by omega)
    rw [show p + d + (Q - p) = Q + d by omega] at e
    obtain ⟨h3, h4, h5, h6⟩ := hx _ (List.getElem_mem (show Q - p < x.length by omega))
    generalize x[Q - p]'(by omega) = b at e h3 h4 h5 h6
    rw [e] at n
    have f : ∀ k : UInt8, b ≠ k → b.toNat ≠ k.toNat := fun k hk hh => hk (UInt8.toNat.inj hh)
    have f0 := f 0 h3
    have f1 := f 9 h4
    have f2 := f 10 h5
    have f3 := f 32 h6
    have g0 : (0 : UInt8).toNat = 0 := rfl
    have g1 : (9 : UInt8).toNat = 9 := rfl
    have g2 : (10 : UInt8).toNat = 10 := rfl
    have g3 : (32 : UInt8).toNat = 32 := rfl
    rcases n with n | n | n | n <;> omega

/-! ### Runs, words -/

theorem runEnd_ge (p : Int → Bool) (p0 : p 0 = false) (s : ByteArray) : ∀ (n a : Nat), s.size ≤ a + n → a ≤ runEnd p s a
  | 0, a, h => by
    have : p (byteAt s a) = false := by rw [byteAt_out (by omega)]; exact p0
    rw [runEnd_off this]
    exact Nat.le_refl _
  | n + 1, a, h => by
    cases hb : p (byteAt s a)
    · rw [runEnd_off hb]
      exact Nat.le_refl _
    · rw [runEnd_on p0 hb]
      have := runEnd_ge p p0 s n (a + 1) (by omega)
      omega

theorem Vw.run {s u : ByteArray} {d P Q : Nat} (h : Vw s u d P Q) (n : Neu (byteAt u (Q + d))) {p : Int → Bool} (p0 : p 0 = false) (pn : ∀ b, Neu b → p b = false) :
    ∀ (k a : Nat), Q ≤ a + k → P ≤ a → runEnd p s a ≤ Q → runEnd p u (a + d) = runEnd p s a + d
  | 0, a, hk, ha, hq => by
    have hg := runEnd_ge p p0 s s.size a (by omega)
    obtain rfl : a = Q := by omega
    rw [runEnd_off (pn _ n)]
    omega
  | k + 1, a, hk, ha, hq => by
    have hg := runEnd_ge p p0 s s.size a (by omega)
    rcases h.at n ha (show a ≤ Q by omega) with e | ⟨rfl, e⟩
    · cases hb : p (byteAt s a)
      · rw [runEnd_off hb, runEnd_off (by rw [e]; exact hb)]
      · rw [runEnd_on p0 hb] at hq ⊢
        rw [runEnd_on p0 (by rw [e]; exact hb), show a + d + 1 = a + 1 + d by omega]
        exact Vw.run h n p0 pn k (a + 1) (by omega) (by omega) hq
    · rw [runEnd_off (pn _ e)]
      omega

theorem Vw.word {s u : ByteArray} {d P Q a : Nat} (h : Vw s u d P Q) (n : Neu (byteAt u (Q + d))) (ha : P ≤ a) (hq : wordEnd s a ≤ Q) : wordEnd u (a + d) = wordEnd s a + d := by
  unfold wordEnd at hq ⊢
  have g1 := runEnd_ge partB part0 s s.size a (by omega)
  have g2 := runEnd_ge quoteB quote0 s s.size (runEnd partB s a) (by omega)
  rw [h.run n part0 (fun _ e => e.part) Q a (by omega) ha (by omega)]
  exact h.run n quote0 (fun _ e => e.quote) Q _ (by omega) (by omega) hq

/-! ### Digits -/

theorem dpos_succ (s : ByteArray) (a k : Nat) : dpos s a (k + 1) = if byteAt s (dpos s a k + 1) = 95 then dpos s a k + 2 else dpos s a k + 1 := rfl

theorem dpos_mono (s : ByteArray) (a : Nat) : ∀ j k : Nat, j ≤ k → dpos s a j ≤ dpos s a k
  | j, 0, h => by obtain rfl : j = 0 := by omega
                  exact Nat.le_refl _
  | j, k + 1, h => by
    by_cases hj : j = k + 1
    · rw [hj]; exact Nat.le_refl _
    · have := dpos_mono s a j k (by omega)
      have : dpos s a k ≤ dpos s a (k + 1) := by
        rw [dpos_succ]
        split <;> omega
      omega

theorem dpos_lt (s : ByteArray) (a k : Nat) : dpos s a k + 1 ≤ dpos s a (k + 1) := by
  rw [dpos_succ]
  split <;> omega

theorem Vw.vdpos {s u : ByteArray} {d P Q a : Nat} (h : Vw s u d P Q) (n : Neu (byteAt u (Q + d))) (ha : P ≤ a) : ∀ k, dpos s a k ≤ Q → dpos u (a + d) k = dpos s a k + d
  | 0, _ => rfl
  | k + 1, hq => by
    have h1 := dpos_lt s a k
    have h2 := dpos_ge s a k
    have ih := Vw.vdpos h n ha k (by omega)
    have e : dpos s a (k + 1) = if byteAt s (dpos s a k + 1) = 95 then dpos s a k + 2 else dpos s a k + 1 := rfl
    have e' : dpos u (a + d) (k + 1) = if byteAt u (dpos u (a + d) k + 1) = 95 then dpos u (a + d) k + 2 else dpos u (a + d) k + 1 := rfl
    rw [e', ih, show dpos s a k + d + 1 = dpos s a k + 1 + d by omega]
    rcases h.at n (show P ≤ dpos s a k + 1 by omega) (show dpos s a k + 1 ≤ Q by omega) with hb | ⟨hx, hn⟩
    · rw [hb, e]
      split <;> omega
    · rw [if_neg (hn.ne (by decide)), e]
      rw [e] at hq
      split at hq
      · omega
      · rename_i hc
        rw [if_neg hc]

theorem Vw.runU {s u : ByteArray} {d P Q a N : Nat} {base : Int} (h : Vw s u d P Q) (n : Neu (byteAt u (Q + d))) (ha : P ≤ a) (hR : RunU s a N base true) (hq : dpos s a N ≤ Q) : RunU u (a + d) N base true := by
  have hd : ∀ k, k ≤ N → dpos u (a + d) k = dpos s a k + d := fun k hk => h.vdpos n ha k (Nat.le_trans (dpos_mono s a k N hk) hq)
  have hP : ∀ k, P ≤ dpos s a k := fun k => by have := dpos_ge s a k; omega
  have hlt : ∀ k, k < N → dpos s a k < Q := fun k hk => by
    have := dpos_lt s a k
    have := dpos_mono s a (k + 1) N (by omega)
    omega
  refine ⟨fun k hk => ?_, fun k hk h95 => ?_, fun _ => ?_, fun e => (by cases e), ?_⟩
  · rw [hd k (by omega), h.eq _ (hP k) (hlt k hk)]
    exact hR.dig k hk
  · rw [hd k (by omega)] at h95 ⊢
    have h1 := dpos_lt s a k
    have h2 := dpos_mono s a (k + 1) N (by omega)
    rw [show dpos s a k + d + 1 = dpos s a k + 1 + d by omega] at h95
    have h95' : byteAt s (dpos s a k + 1) = 95 := by
      rcases h.at n (show P ≤ dpos s a k + 1 by have := hP k; omega) (show dpos s a k + 1 ≤ Q by omega) with hb | ⟨hx, hn⟩
      · rw [← hb]; exact h95
      · exact absurd h95 (hn.ne (by decide))
    have hdig := hR.und k hk h95'
    have e : dpos s a (k + 1) = dpos s a k + 2 := by
      rw [dpos_succ, if_pos h95']
    have hkN : k + 1 < N := by
      rcases Nat.lt_or_ge (k + 1) N with hk2 | hk2
      · exact hk2
      · obtain rfl : N = k + 1 := by omega
        have hst := hR.stop rfl
        rw [e, show dpos s a k + 2 = dpos s a k + 1 + 1 by omega] at hst
        exact absurd hdig hst
    have h3 := hlt (k + 1) hkN
    rw [show dpos s a k + d + 1 + 1 = dpos s a k + 1 + 1 + d by omega, h.eq _ (by have := hP k; omega) (by omega)]
    exact hdig
  · rw [hd N (Nat.le_refl _)]
    rcases h.at n (hP N) hq with hb | ⟨_, hn⟩
    · rw [hb]; exact hR.stop rfl
    · exact hn.digV
  · rw [hd N (Nat.le_refl _)]
    have := h.hu
    omega

theorem Vw.vnumW {s u : ByteArray} {d P Q a base : Nat} (h : Vw s u d P Q) (n : Neu (byteAt u (Q + d))) (ha : P ≤ a) : ∀ N, dpos s a N ≤ Q → numW u (a + d) base N = numW s a base N
  | 0, _ => rfl
  | N + 1, hq => by
    have h1 := dpos_lt s a N
    have h2 := dpos_ge s a N
    have ih := Vw.vnumW (base := base) h n ha N (by omega)
    have hb : byteAt u (dpos u (a + d) N) = byteAt s (dpos s a N) := by
      rw [h.vdpos n ha N (by omega)]
      exact h.eq _ (by omega) (by omega)
    unfold numW
    rw [ih, hb]

theorem expo_ge {s : ByteArray} {a q : Nat} {fl : Bool} {r : Option (Bool × Nat)} (h : Expo s a r) (hr : r = some (fl, q)) : a ≤ q ∧ (fl = true → a + 2 ≤ q) := by
  cases h with
  | no _ _ => cases hr; exact ⟨Nat.le_refl _, fun h => by cases h⟩
  | bad _ _ _ _ _ => cases hr
  | ok g N hR hN =>
    cases hr
    have := dpos_ge s (signEnd s a) N
    have : a + 1 ≤ signEnd s a := by unfold signEnd; split <;> omega
    exact ⟨by omega, fun _ => by omega⟩

theorem Vw.expo {s u : ByteArray} {d P Q a q : Nat} {fl : Bool} {r : Option (Bool × Nat)} (h : Vw s u d P Q) (n : Neu (byteAt u (Q + d))) (ha : P ≤ a) (hE : Expo s a r) (hr : r = some (fl, q)) (hq : q ≤ Q) : Expo u (a + d) (some (fl, q + d)) := by
  cases hE with
  | no h1 h2 =>
    cases hr
    rcases h.at n ha hq with hb | ⟨_, hn⟩
    · exact .no (by rw [hb]; exact h1) (by rw [hb]; exact h2)
    · exact .no (hn.ne (by decide)) (hn.ne (by decide))
  | bad _ _ _ _ _ => cases hr
  | ok g N hR hN =>
    cases hr
    have hge := dpos_ge s (signEnd s a) N
    have hse : a + 1 ≤ signEnd s a := by unfold signEnd; split <;> omega
    have e0 := h.eq a ha (by omega)
    have e1 := h.eq (a + 1) (by omega) (by omega)
    have es : signEnd u (a + d) = signEnd s a + d := by
      unfold signEnd
      rw [show a + d + 1 = a + 1 + d by omega, e1]
      split <;> omega
    have hR' := h.runU n (by omega) hR hq
    have hd := h.vdpos n (show P ≤ signEnd s a by omega) N hq
    rw [← es] at hR' hd
    rw [← hd]
    exact .ok (by rw [e0]; exact g) N hR' hN

theorem frac_ge {s : ByteArray} {a q : Nat} {fl : Bool} {r : Option (Bool × Nat)} (h : Frac s a r) (hr : r = some (fl, q)) : a ≤ q := by
  cases h with
  | noPoint _ _ he => exact (expo_ge he hr).1
  | badPoint _ _ _ _ _ _ => cases hr
  | point g1 g2 N hR hN r' he =>
    cases r' with
    | none => cases hr
    | some x =>
      obtain ⟨f, q'⟩ := x
      cases hr
      have := (expo_ge he rfl).1
      have := dpos_ge s (a + 1) N
      show a ≤ q'
      omega

theorem Vw.frac {s u : ByteArray} {d P Q a q : Nat} {fl : Bool} {r : Option (Bool × Nat)} (h : Vw s u d P Q) (n : Neu (byteAt u (Q + d))) (ha : P ≤ a) (hF : Frac s a r) (hr : r = some (fl, q)) (hq : q ≤ Q) : Frac u (a + d) (some (fl, q + d)) := by
  cases hF with
  | noPoint g _ he =>
    have hge := (expo_ge he hr).1
    refine .noPoint ?_ _ (h.expo n ha he hr hq)
    rintro ⟨k1, k2⟩
    rcases h.at n ha (show a ≤ Q by omega) with hb | ⟨_, hn⟩
    · rcases Nat.lt_or_ge a Q with hx | hx
      · rw [show a + d + 1 = a + 1 + d by omega] at k2
        rcases h.at n (show P ≤ a + 1 by omega) (show a + 1 ≤ Q by omega) with hb2 | ⟨_, hn⟩
        · exact g ⟨by rw [← hb]; exact k1, by rw [← hb2]; exact k2⟩
        · rw [hn.dig] at k2; cases k2
      · obtain rfl : a = Q := by omega
        exact absurd k1 (n.ne (by decide))
    · exact absurd k1 (hn.ne (by decide))
  | badPoint _ _ _ _ _ _ => cases hr
  | point g1 g2 N hR hN r' he =>
    cases r' with
    | none => cases hr
    | some x =>
      obtain ⟨f, q'⟩ := x
      have hr' : (true, q') = (fl, q) := Option.some.inj hr
      cases hr'
      have h1 := (expo_ge he rfl).1
      have h2 := dpos_ge s (a + 1) N
      have e0 := h.eq a ha (by omega)
      have e1 := h.eq (a + 1) (by omega) (by omega)
      have hR' := h.runU n (show P ≤ a + 1 by omega) hR (by omega)
      have hd := h.vdpos n (show P ≤ a + 1 by omega) N (by omega)
      have he' := h.expo n (show P ≤ dpos s (a + 1) N by omega) he rfl hq
      rw [← hd] at he'
      rw [show a + 1 + d = a + d + 1 by omega] at hR' he' e1
      exact .point (by rw [e0]; exact g1) (by rw [e1]; exact g2) N hR' hN (some (f, q + d)) he'

theorem nz_zx : ∀ b ∈ zx.data.toList, b ≠ 0 ∧ b ≠ 9 ∧ b ≠ 10 ∧ b ≠ 32 := by decide
theorem nz_zb : ∀ b ∈ zb.data.toList, b ≠ 0 ∧ b ≠ 9 ∧ b ≠ 10 ∧ b ≠ 32 := by decide
theorem nz_q3 : ∀ b ∈ quote3.data.toList, b ≠ 0 ∧ b ≠ 9 ∧ b ≠ 10 ∧ b ≠ 32 := by decide
theorem nz_b1 : ∀ b ∈ back1.data.toList, b ≠ 0 ∧ b ≠ 9 ∧ b ≠ 10 ∧ b ≠ 32 := by decide
theorem nz_s2 : ∀ b ∈ slash2.data.toList, b ≠ 0 ∧ b ≠ 9 ∧ b ≠ 10 ∧ b ≠ 32 := by decide
theorem nz_sS : ∀ b ∈ slashS.data.toList, b ≠ 0 ∧ b ≠ 9 ∧ b ≠ 10 ∧ b ≠ 32 := by decide

/-- A prefix that is not there is not there in the window, either. -/
theorem Vw.pre_no {s u : ByteArray} {d P Q p : Nat} (h : Vw s u d P Q) (n : Neu (byteAt u (Q + d))) {x : ByteArray} (hx : ∀ b ∈ x.data.toList, b ≠ 0 ∧ b ≠ 9 ∧ b ≠ 10 ∧ b ≠ 32) (h1 : P ≤ p) (h2 : p ≤ Q) (hp : pre s p x = false) : pre u (p + d) x = false := by
  rcases Nat.lt_or_ge Q (p + x.data.toList.length) with hl | hl
  · exact Vw.pre_over (s := s) (P := P) n hx h2 hl
  · show Lib.hasPrefix _ _ = false
    rw [h.vpre h1 (fun b hb => (hx b hb).1) hl]
    exact hp

theorem Vw.pre_yes {s u : ByteArray} {d P Q p : Nat} (h : Vw s u d P Q) {x : ByteArray} (hx : ∀ b ∈ x.data.toList, b ≠ 0 ∧ b ≠ 9 ∧ b ≠ 10 ∧ b ≠ 32) (h1 : P ≤ p) (h2 : p + x.data.toList.length ≤ Q) (hp : pre s p x = true) : pre u (p + d) x = true := by
  show Lib.hasPrefix _ _ = true
  rw [h.vpre h1 (fun b hb => (hx b hb).1) h2]
  exact hp

theorem Vw.num {s u : ByteArray} {d P Q p q : Nat} {k : Int} {tx : ByteArray} {r : Option (Int × ByteArray × Nat)} (h : Vw s u d P Q) (n : Neu (byteAt u (Q + d))) (hp : P ≤ p) (hN : NumAt s p r) (hr : r = some (k, tx, q)) (hq : q ≤ Q) : NumAt u (p + d) (some (k, tx, q + d)) := by
  have l2x : zx.data.toList.length = 2 := rfl
  have l2b : zb.data.toList.length = 2 := rfl
  have hi : ∀ (a N base : Nat), P ≤ a → dpos s a N ≤ Q → intT u (a + d) base N = intT s a base N := fun a N base h1 h2 => by
    unfold intT
    rw [h.vnumW n h1 N h2]
  cases hN with
  | hexBad _ _ _ _ _ => cases hr
  | hexOver _ _ _ _ _ => cases hr
  | binBad _ _ _ _ _ _ => cases hr
  | binOver _ _ _ _ _ _ => cases hr
  | decBad _ _ _ _ _ _ => cases hr
  | decFrac _ _ _ _ _ _ => cases hr
  | decOver _ _ _ _ _ _ _ _ => cases hr
  | hexOk h0 N hR hN hv =>
    cases hr
    have h2 := dpos_ge s (p + 2) N
    have hd := h.vdpos n (show P ≤ p + 2 by omega) N hq
    have hR' := h.runU n (show P ≤ p + 2 by omega) hR hq
    have hi' := hi (p + 2) N 16 (by omega) hq
    have hw := h.vnumW (base := 16) n (show P ≤ p + 2 by omega) N hq
    rw [show p + 2 + d = p + d + 2 by omega] at hd hR' hi' hw
    rw [← hd, ← hi']
    exact .hexOk (h.pre_yes nz_zx hp (by omega) h0) N hR' hN (by rw [hw]; exact hv)
  | binOk h0 hb N hR hN hv =>
    cases hr
    have h2 := dpos_ge s (p + 2) N
    have hd := h.vdpos n (show P ≤ p + 2 by omega) N hq
    have hR' := h.runU n (show P ≤ p + 2 by omega) hR hq
    have hi' := hi (p + 2) N 2 (by omega) hq
    have hw := h.vnumW (base := 2) n (show P ≤ p + 2 by omega) N hq
    rw [show p + 2 + d = p + d + 2 by omega] at hd hR' hi' hw
    rw [← hd, ← hi']
    exact .binOk (h.pre_no n nz_zx hp (by omega) h0) (h.pre_yes nz_zb hp (by omega) hb) N hR' hN (by rw [hw]; exact hv)
  | decOk h0 hb N q' hR hN hF hv =>
    cases hr
    have h2 := dpos_ge s p N
    have h3 := frac_ge hF rfl
    have hd := h.vdpos n hp N (by omega)
    have hR' := h.runU n hp hR (by omega)
    have hw := h.vnumW (base := 10) n hp N (by omega)
    have hF' := h.frac n (show P ≤ dpos s p N by omega) hF rfl hq
    rw [← hd] at hF'
    rw [← hi p N 10 hp (by omega)]
    exact .decOk (h.pre_no n nz_zx hp (by omega) h0) (h.pre_no n nz_zb hp (by omega) hb) N _ hR' hN hF' (by rw [hw]; exact hv)
  | decFloat h0 hb N q' hR hN hF =>
    cases hr
    have h2 := dpos_ge s p N
    have h3 := frac_ge hF rfl
    have hd := h.vdpos n hp N (by omega)
    have hR' := h.runU n hp hR (by omega)
    have hF' := h.frac n (show P ≤ dpos s p N by omega) hF rfl hq
    rw [← hd] at hF'
    rw [← h.ext hp hq]
    exact .decFloat (h.pre_no n nz_zx hp (by omega) h0) (h.pre_no n nz_zb hp (by omega) hb) N _ hR' hN hF'

end Tk
end Go.Proofs.YtmfcopbffnfnfaaGreatDoor

namespace Go.Proofs.YtmfcopbffnfnfaaGreatDoor
open Go.ChangeShapes Go.WideShapes Go.ChangeAt Go.RowKit Go.WideMaps Go.Maps
namespace Tk

/-! ### Symbols -/

/-- A symbol stands at a place, whole. -/
def symC (s : ByteArray) (p : Nat) (y : ByteArray) : Bool := hasB s p y && wholeB s p y

theorem bestN_succ (s : ByteArray) (a k : Nat) : bestN s a (k + 1) = if decide ((bestN s a k).size < (symB.getD k ⟨#[]⟩).size) && hasB s a (symB.getD k ⟨#[]⟩) && wholeB s a (symB.getD k ⟨#[]⟩) then symB.getD k ⟨#[]⟩ else bestN s a k := rfl

theorem bestN_mono (s : ByteArray) (a : Nat) : ∀ j k : Nat, j ≤ k → (bestN s a j).size ≤ (bestN s a k).size
  | j, 0, h => by obtain rfl : j = 0 := by omega
                  exact Nat.le_refl _
  | j, k + 1, h => by
    by_cases hj : j = k + 1
    · rw [hj]; exact Nat.le_refl _
    · have h1 := bestN_mono s a j k (by omega)
      have h2 : (bestN s a k).size ≤ (bestN s a (k + 1)).size := by
        rw [bestN_succ]
        split
        · rename_i hc
          rw [Bool.and_eq_true, Bool.and_eq_true, decide_eq_true_eq] at hc
          omega
        · exact Nat.le_refl _
      omega

/-- The best symbol is as long as any that stands there. -/
theorem bestN_max (s : ByteArray) (a n k : Nat) (hk : k < n) (h : symC s a (symB.getD k ⟨#[]⟩) = true) : (symB.getD k ⟨#[]⟩).size ≤ (bestN s a n).size := by
  have h1 := bestN_mono s a (k + 1) n (by omega)
  have h2 : (symB.getD k ⟨#[]⟩).size ≤ (bestN s a (k + 1)).size := by
    rw [bestN_succ]
    split
    · exact Nat.le_refl _
    · rename_i hc
      unfold symC at h
      rw [Bool.and_assoc, h, Bool.and_true, decide_eq_true_eq] at hc
      omega
  omega

/-- What is best is none, or a symbol of the list that stands there. -/
theorem bestN_is (s : ByteArray) (a : Nat) : ∀ n, (bestN s a n).size = 0 ∨ ∃ k, k < n ∧ bestN s a n = symB.getD k ⟨#[]⟩ ∧ symC s a (bestN s a n) = true
  | 0 => .inl rfl
  | n + 1 => by
    rw [bestN_succ]
    split
    · rename_i hc
      rw [Bool.and_assoc, Bool.and_eq_true] at hc
      exact .inr ⟨n, by omega, rfl, hc.2⟩
    · rcases bestN_is s a n with h | ⟨k, hk, h1, h2⟩
      · exact .inl h
      · exact .inr ⟨k, by omega, h1, h2⟩

theorem sym_neu : ∀ k, k < 43 → ∀ b ∈ (symB.getD k ⟨#[]⟩).data.toList, b ≠ 0 ∧ b ≠ 9 ∧ b ≠ 10 ∧ b ≠ 32 := by
  have h : ∀ l ∈ symB, ∀ b ∈ l.data.toList, b ≠ 0 ∧ b ≠ 9 ∧ b ≠ 10 ∧ b ≠ 32 := by decide +kernel
  intro k hk
  have hl : symB.length = 43 := by decide
  rw [List.getD_eq_getElem?_getD, List.getElem?_eq_getElem (by omega)]
  exact h _ (List.getElem_mem _)

/-- Of the symbols that end with a letter no other one is the beginning. -/
theorem sym_alone : ∀ j, j < 43 → ∀ k, k < 43 → letB (byteAt (symB.getD k ⟨#[]⟩) ((symB.getD k ⟨#[]⟩).size - 1)) = true → (symB.getD j ⟨#[]⟩).data.toList.isPrefixOf (symB.getD k ⟨#[]⟩).data.toList = true → symB.getD j ⟨#[]⟩ = symB.getD k ⟨#[]⟩ := by
  have h : ((List.range 43).all fun j => (List.range 43).all fun k => !letB (byteAt (symB.getD k ⟨#[]⟩) ((symB.getD k ⟨#[]⟩).size - 1)) || !(symB.getD j ⟨#[]⟩).data.toList.isPrefixOf (symB.getD k ⟨#[]⟩).data.toList || (symB.getD j ⟨#[]⟩).data.toList == (symB.getD k ⟨#[]⟩).data.toList) = true := by decide +kernel
  intro j hj k hk h1 h2
  have h3 := List.all_eq_true.1 (List.all_eq_true.1 h j (List.mem_range.2 hj)) k (List.mem_range.2 hk)
  rw [h1, h2] at h3
  have h4 : (symB.getD j ⟨#[]⟩).data.toList = (symB.getD k ⟨#[]⟩).data.toList := by simpa using h3
  apply ByteArray.ext
  exact Array.toList_inj.1 h4

theorem size_list (x : ByteArray) : x.data.toList.length = x.size := by rw [Array.length_toList]; rfl

theorem Vw.sym {s u : ByteArray} {d P Q p : Nat} (h : Vw s u d P Q) (n : Neu (byteAt u (Q + d))) (hp : P ≤ p) (h1 : 1 ≤ (bestN s p 43).size) (hq : p + (bestN s p 43).size ≤ Q) : bestN u (p + d) 43 = bestN s p 43 := by
  obtain ⟨z, hz⟩ : ∃ z, z = bestN s p 43 := ⟨_, rfl⟩
  have hzc : ∃ k, k < 43 ∧ z = symB.getD k ⟨#[]⟩ ∧ symC s p z = true := by
    rcases bestN_is s p 43 with e | ⟨k, a, b, c⟩
    · omega
    · exact ⟨k, a, by rw [hz]; exact b, by rw [hz]; exact c⟩
  obtain ⟨kz, hkz, ez, cz⟩ := hzc
  have key : ∀ k, k < 43 → symC u (p + d) (symB.getD k ⟨#[]⟩) = symC s p (symB.getD k ⟨#[]⟩) := by
    intro k hk
    have hnz := sym_neu k hk
    have hmax := bestN_max s p 43 k hk
    obtain ⟨y, hy⟩ : ∃ y, y = symB.getD k ⟨#[]⟩ := ⟨_, rfl⟩
    rw [← hy] at hnz hmax ⊢
    rw [← hz] at hmax
    have hyl := size_list y
    have hzl := size_list z
    have fwd : symC s p y = true → symC u (p + d) y = true := by
      intro hc
      have hle := hmax hc
      unfold symC at hc ⊢
      rw [Bool.and_eq_true] at hc ⊢
      have hin : p + y.data.toList.length ≤ Q := by rw [hyl]; rw [← hz] at hq; omega
      refine ⟨?_, ?_⟩
      · show Lib.hasPrefix _ _ = true
        rw [h.vpre hp (fun b hb => (hnz b hb).1) hin]
        exact hc.1
      · have hw := hc.2
        unfold wholeB at hw ⊢
        rw [show p + d + y.size = p + y.size + d by omega]
        rcases h.at n (show P ≤ p + y.size by omega) (show p + y.size ≤ Q by rw [← hyl]; exact hin) with e | ⟨_, e⟩
        · rw [e]; exact hw
        · rw [e.part]; simp
    have bwd : symC u (p + d) y = true → symC s p y = true := by
      intro hc
      unfold symC at hc
      rw [Bool.and_eq_true] at hc
      have hin : p + y.data.toList.length ≤ Q := by
        rcases Nat.lt_or_ge Q (p + y.data.toList.length) with hl | hl
        · have := Vw.pre_over (s := s) (P := P) n hnz (show p ≤ Q by omega) hl
          have h2 : Lib.hasPrefix (u.extract (p + d) u.size).data.toList y.data.toList = true := hc.1
          rw [this] at h2
          cases h2
        · exact hl
      have hs : hasB s p y = true := by
        show Lib.hasPrefix _ _ = true
        rw [← h.vpre hp (fun b hb => (hnz b hb).1) hin]
        exact hc.1
      cases hl : letB (byteAt y (y.size - 1))
      · unfold symC wholeB
        rw [hs, hl]
        rfl
      · have hw := hc.2
        unfold wholeB at hw
        rw [hl] at hw
        rw [show p + d + y.size = p + y.size + d by omega] at hw
        rcases h.at n (show P ≤ p + y.size by omega) (show p + y.size ≤ Q by omega) with e | ⟨hx, _⟩
        · unfold symC wholeB
          rw [hs, hl, ← e]
          exact hw
        · -- the symbol ends where the window does: the best one is a beginning of it
          have hzs : hasB s p z = true := by
            unfold symC at cz
            rw [Bool.and_eq_true] at cz
            exact cz.1
          have p1 : y.data.toList <+: (s.extract p s.size).data.toList := List.isPrefixOf_iff_prefix.1 hs
          have p2 : z.data.toList <+: (s.extract p s.size).data.toList := List.isPrefixOf_iff_prefix.1 hzs
          have p3 : z.data.toList <+: y.data.toList := List.prefix_of_prefix_length_le p2 p1 (by rw [hyl, hzl]; rw [← hz] at hq; omega)
          have e := sym_alone kz hkz k hk (by rw [← hy]; exact hl) (by rw [← hy, ← ez]; exact List.isPrefixOf_iff_prefix.2 p3)
          rw [hy, ← e, ← ez]
          exact cz
    cases ha : symC u (p + d) y <;> cases hb : symC s p y
    · rfl
    · rw [fwd hb] at ha; cases ha
    · rw [bwd ha] at hb; cases hb
    · rfl
  have all : ∀ m, m ≤ 43 → bestN u (p + d) m = bestN s p m := by
    intro m
    induction m with
    | zero => intro _; rfl
    | succ m ih =>
      intro hm
      have hk := key m (by omega)
      unfold symC at hk
      rw [bestN_succ, bestN_succ, ih (by omega), Bool.and_assoc, Bool.and_assoc, hk]
  exact all 43 (Nat.le_refl _)

/-! ### Characters and strings -/

theorem Vw.vhexOk {s u : ByteArray} {d P Q a : Nat} (h : Vw s u d P Q) (ha : P ≤ a) : ∀ n, a + n ≤ Q → hexOk u (a + d) n = hexOk s a n ∧ hexV u (a + d) n = hexV s a n
  | 0, _ => ⟨rfl, rfl⟩
  | n + 1, hq => by
    obtain ⟨h1, h2⟩ := Vw.vhexOk h ha n (by omega)
    have e := h.eq (a + n) (by omega) (by omega)
    unfold hexOk hexV
    rw [h1, h2, show a + d + n = a + n + d by omega, e]
    exact ⟨rfl, rfl⟩

theorem Vw.vhexM {s u : ByteArray} {d P Q a n : Nat} {most : Int} (h : Vw s u d P Q) (ha : P ≤ a) (hq : a + n ≤ Q) : hexM u (a + d) n most = hexM s a n most := by
  obtain ⟨h1, h2⟩ := h.vhexOk ha n hq
  unfold hexM
  rw [h1, h2]

theorem escM_ge {s : ByteArray} {a q : Nat} {r : Int} (hm : escM s a = some (r, q)) : a + 2 ≤ q := by
  have lit : ∀ k : Int, some (k, a + 2) = some (r, q) → a + 2 ≤ q := fun k hh => by cases hh; exact Nat.le_refl _
  have hx : ∀ (k : Nat) (most : Int), (hexM s (a + 2) k most).map (fun r => (r, a + 2 + k)) = some (r, q) → a + 2 ≤ q := by
    intro k most hh
    rw [Option.map_eq_some_iff] at hh
    obtain ⟨x, h1, h2⟩ := hh
    cases h2
    omega
  unfold escM at hm
  by_cases c : byteAt s (a + 1) = 110
  · rw [if_pos c] at hm; exact lit _ hm
  rw [if_neg c] at hm
  clear c
  by_cases c : byteAt s (a + 1) = 116
  · rw [if_pos c] at hm; exact lit _ hm
  rw [if_neg c] at hm
  clear c
  by_cases c : byteAt s (a + 1) = 114
  · rw [if_pos c] at hm; exact lit _ hm
  rw [if_neg c] at hm
  clear c
  by_cases c : byteAt s (a + 1) = 48
  · rw [if_pos c] at hm; exact lit _ hm
  rw [if_neg c] at hm
  clear c
  by_cases c : byteAt s (a + 1) = 92
  · rw [if_pos c] at hm; exact lit _ hm
  rw [if_neg c] at hm
  clear c
  by_cases c : byteAt s (a + 1) = 34
  · rw [if_pos c] at hm; exact lit _ hm
  rw [if_neg c] at hm
  clear c
  by_cases c : byteAt s (a + 1) = 39
  · rw [if_pos c] at hm; exact lit _ hm
  rw [if_neg c] at hm
  clear c
  by_cases c : byteAt s (a + 1) = 120
  · rw [if_pos c] at hm; exact hx _ _ hm
  rw [if_neg c] at hm
  clear c
  by_cases c : byteAt s (a + 1) = 117
  · rw [if_pos c] at hm; exact hx _ _ hm
  rw [if_neg c] at hm
  clear c
  by_cases c : byteAt s (a + 1) = 85
  · rw [if_pos c] at hm; exact hx _ _ hm
  rw [if_neg c] at hm
  clear c
  cases hm

theorem Vw.esc {s u : ByteArray} {d P Q a q : Nat} {r : Int} (h : Vw s u d P Q) (ha : P ≤ a) (hm : escM s a = some (r, q)) (hq : q ≤ Q) : escM u (a + d) = some (r, q + d) := by
  have hge := escM_ge hm
  have e := h.eq (a + 1) (by omega) (by omega)
  rw [show a + 1 + d = a + d + 1 by omega] at e
  have lit : ∀ k : Int, some (k, a + 2) = some (r, q) → some (k, a + d + 2) = some (r, q + d) := fun k hh => by
    cases hh
    rw [show a + d + 2 = a + 2 + d by omega]
  have hx : ∀ (k : Nat) (most : Int), (hexM s (a + 2) k most).map (fun r => (r, a + 2 + k)) = some (r, q) → (hexM u (a + d + 2) k most).map (fun r => (r, a + d + 2 + k)) = some (r, q + d) := by
    intro k most hh
    rw [Option.map_eq_some_iff] at hh
    obtain ⟨x, h1, h2⟩ := hh
    have e1 : x = r := congrArg Prod.fst h2
    have e2 : a + 2 + k = q := congrArg Prod.snd h2
    have e3 := h.vhexM (n := k) (most := most) (show P ≤ a + 2 by omega) (by omega)
    rw [show a + 2 + d = a + d + 2 by omega, h1] at e3
    rw [e3]
    show some (x, a + d + 2 + k) = some (r, q + d)
    rw [e1, show a + d + 2 + k = q + d by omega]
  unfold escM at hm ⊢
  rw [e]
  by_cases c : byteAt s (a + 1) = 110
  · rw [if_pos c] at hm ⊢; exact lit _ hm
  rw [if_neg c] at hm ⊢
  clear c
  by_cases c : byteAt s (a + 1) = 116
  · rw [if_pos c] at hm ⊢; exact lit _ hm
  rw [if_neg c] at hm ⊢
  clear c
  by_cases c : byteAt s (a + 1) = 114
  · rw [if_pos c] at hm ⊢; exact lit _ hm
  rw [if_neg c] at hm ⊢
  clear c
  by_cases c : byteAt s (a + 1) = 48
  · rw [if_pos c] at hm ⊢; exact lit _ hm
  rw [if_neg c] at hm ⊢
  clear c
  by_cases c : byteAt s (a + 1) = 92
  · rw [if_pos c] at hm ⊢; exact lit _ hm
  rw [if_neg c] at hm ⊢
  clear c
  by_cases c : byteAt s (a + 1) = 34
  · rw [if_pos c] at hm ⊢; exact lit _ hm
  rw [if_neg c] at hm ⊢
  clear c
  by_cases c : byteAt s (a + 1) = 39
  · rw [if_pos c] at hm ⊢; exact lit _ hm
  rw [if_neg c] at hm ⊢
  clear c
  by_cases c : byteAt s (a + 1) = 120
  · rw [if_pos c] at hm ⊢; exact hx _ _ hm
  rw [if_neg c] at hm ⊢
  clear c
  by_cases c : byteAt s (a + 1) = 117
  · rw [if_pos c] at hm ⊢; exact hx _ _ hm
  rw [if_neg c] at hm ⊢
  clear c
  by_cases c : byteAt s (a + 1) = 85
  · rw [if_pos c] at hm ⊢; exact hx _ _ hm
  rw [if_neg c] at hm ⊢
  clear c
  cases hm

/-- What was decoded hangs on its own bytes alone. -/
theorem dec_local (n b0 b1 b2 b3 n' c0 c1 c2 c3 : Nat) (hv : ¬ ((Lib.decodeN n b0 b1 b2 b3).1 = 65533 ∧ (Lib.decodeN n b0 b1 b2 b3).2 < 2))
    (e0 : c0 = b0) (e1 : 2 ≤ (Lib.decodeN n b0 b1 b2 b3).2 → c1 = b1) (e2 : 3 ≤ (Lib.decodeN n b0 b1 b2 b3).2 → c2 = b2) (e3 : 4 ≤ (Lib.decodeN n b0 b1 b2 b3).2 → c3 = b3)
    (hn : (Lib.decodeN n b0 b1 b2 b3).2 ≤ n') : Lib.decodeN n' c0 c1 c2 c3 = Lib.decodeN n b0 b1 b2 b3 := by
  rcases Lib.decodeN_shape n b0 b1 b2 b3 with ⟨g1, g⟩ | ⟨g1, g2, g3, g4, g⟩ | ⟨g1, g2, g3, g4, g5, g6, g⟩ | ⟨g1, g2, g3, g4, g5, g6, g7, g⟩ | g
  · rw [g] at e1 e2 e3 hn ⊢
    subst e0
    unfold Lib.decodeN
    rw [if_pos g1]
  · rw [g] at e1 e2 e3 hn ⊢
    have e1' := e1 (Nat.le_refl _)
    subst e0 e1'
    have hn' : 2 ≤ n' := hn
    unfold Lib.decodeN
    rw [if_neg (by omega), if_pos ⟨g1, by omega, g3⟩, if_pos g4]
  · rw [g] at e1 e2 e3 hn ⊢
    have e1' := e1 (show 2 ≤ 3 by decide)
    have e2' := e2 (Nat.le_refl _)
    subst e0 e1' e2'
    have hn' : 3 ≤ n' := hn
    unfold Lib.decodeN
    rw [if_neg (by omega), if_neg (by omega), if_pos ⟨g1, ⟨by omega, g3⟩, by omega, g4⟩, if_pos ⟨g5, by omega⟩]
  · rw [g] at e1 e2 e3 hn ⊢
    have e1' := e1 (show 2 ≤ 4 by decide)
    have e2' := e2 (show 3 ≤ 4 by decide)
    have e3' := e3 (Nat.le_refl _)
    subst e0 e1' e2' e3'
    have hn' : 4 ≤ n' := hn
    unfold Lib.decodeN
    rw [if_neg (by omega), if_neg (by omega), if_neg (by omega), if_pos ⟨g1, ⟨by omega, g3⟩, ⟨by omega, g4⟩, by omega, g5⟩, if_pos ⟨g6, by omega⟩]
  · rw [g] at hv
    exact absurd ⟨rfl, by decide⟩ hv

theorem byteAt_nat (s : ByteArray) (j : Nat) : (byteAt s j).toNat = (s.data.toList.getD j 0).toNat := by rw [byteAt_list]; simp

theorem decGo_N (s : ByteArray) (a : Nat) (h : a < s.size) : Lib.decodeGo (s.extract a s.size) = Lib.decodeN (s.size - a) (byteAt s a).toNat (byteAt s (a + 1)).toNat (byteAt s (a + 2)).toNat (byteAt s (a + 3)).toNat := by
  have hz : (s.extract a s.size).size ≠ 0 := by rw [Lib.ext_size]; omega
  have e1 : Lib.decodeGo (s.extract a s.size) = Lib.decodeL (s.data.toList.drop a) := by
    unfold Lib.decodeGo
    rw [if_neg hz, ← Lib.ext_list]
    rfl
  have hd : ∀ i, (s.data.toList.drop a).getD i 0 = s.data.toList.getD (a + i) 0 := fun i => by
    rw [List.getD_eq_getElem?_getD, List.getD_eq_getElem?_getD, List.getElem?_drop]
  have h0 := hd 0
  rw [Nat.add_zero] at h0
  rw [e1, Lib.decodeL_N, h0, hd 1, hd 2, hd 3, byteAt_nat, byteAt_nat, byteAt_nat, byteAt_nat, List.length_drop, size_list]

theorem size_of_has' {s : ByteArray} {a : Nat} (hb : hasB s a back1 = true) : a < s.size := by
  rcases Nat.lt_or_ge a s.size with h | h
  · exact h
  · have e := (pre_iff s a back1.data.toList fun b hb => (nz_b1 b hb).1).1 hb 0 (by decide)
    rw [Nat.add_zero, byteAt_out h] at e
    exact absurd e (by decide)

theorem charM_ge {s : ByteArray} {a q : Nat} {r : Int} (hm : charM s a = some (r, q)) : a + 1 ≤ q ∧ a < s.size := by
  unfold charM at hm
  split at hm
  · rename_i hb
    have := escM_ge hm
    have := size_of_has' hb
    exact ⟨by omega, this⟩
  · split at hm
    · cases hm
    · rename_i hc
      have hlt : a < s.size := by
        rcases Nat.lt_or_ge a s.size with h1 | h1
        · exact h1
        · exfalso
          apply hc
          right
          have hz : (s.extract a s.size).size = 0 := by rw [Lib.ext_size]; omega
          unfold Lib.decodeGo
          rw [if_pos hz]
          exact ⟨rfl, by decide⟩
      cases hm
      rw [decGo_N s a hlt]
      have := Lib.decodeN_ge1 (s.size - a) (byteAt s a).toNat (byteAt s (a + 1)).toNat (byteAt s (a + 2)).toNat (byteAt s (a + 3)).toNat
      exact ⟨by omega, hlt⟩

theorem Vw.char {s u : ByteArray} {d P Q a q : Nat} {r : Int} (h : Vw s u d P Q) (ha : P ≤ a) (hm : charM s a = some (r, q)) (hq : q ≤ Q) : charM u (a + d) = some (r, q + d) := by
  obtain ⟨hge, hlt⟩ := charM_ge hm
  have hhas : hasB u (a + d) back1 = hasB s a back1 := h.vpre ha (fun b hb => (nz_b1 b hb).1) (show a + 1 ≤ Q by omega)
  have hu := h.hu
  unfold charM at hm ⊢
  rw [hhas]
  split at hm
  · rename_i hb
    rw [if_pos hb]
    exact h.esc ha hm hq
  · rename_i hb
    rw [if_neg hb]
    split at hm
    · cases hm
    · rename_i hc
      have e : Lib.decodeGo (u.extract (a + d) u.size) = Lib.decodeGo (s.extract a s.size) := by
        rw [decGo_N s a hlt] at hm hc ⊢
        rw [decGo_N u (a + d) (by omega)]
        have hK : a + (Lib.decodeN (s.size - a) (byteAt s a).toNat (byteAt s (a + 1)).toNat (byteAt s (a + 2)).toNat (byteAt s (a + 3)).toNat).2 = q := congrArg Prod.snd (Option.some.inj hm)
        refine dec_local _ _ _ _ _ _ _ _ _ _ (fun hh => hc (.inr ?_)) ?_ (fun hk => ?_) (fun hk => ?_) (fun hk => ?_) (by omega)
        · exact ⟨by have := hh.1; omega, by have := hh.2; omega⟩
        · rw [h.eq a ha (by omega)]
        · rw [show a + d + 1 = a + 1 + d by omega, h.eq (a + 1) (by omega) (by omega)]
        · rw [show a + d + 2 = a + 2 + d by omega, h.eq (a + 2) (by omega) (by omega)]
        · rw [show a + d + 3 = a + 3 + d by omega, h.eq (a + 3) (by omega) (by omega)]
      rw [e, if_neg hc]
      have e1 := congrArg Prod.fst (Option.some.inj hm)
      have e2 := congrArg Prod.snd (Option.some.inj hm)
      have e1' : ((Lib.decodeGo (s.extract a s.size)).1 : Int) = r := e1
      have e2' : a + (Lib.decodeGo (s.extract a s.size)).2 = q := e2
      rw [e1', ← e2', show a + d + (Lib.decodeGo (s.extract a s.size)).2 = a + (Lib.decodeGo (s.extract a s.size)).2 + d by omega]

theorem litF_ge {s : ByteArray} : ∀ (n p q : Nat) (rs : List Int), litF s n p = some (rs, q) → p ≤ q
  | 0, _, _, _, h => by cases h
  | n + 1, p, q, rs, h => by
    unfold litF at h
    split at h
    · cases h; exact Nat.le_refl _
    · cases hc : charM s p with
      | none => rw [hc] at h; cases h
      | some x =>
        obtain ⟨r, p2⟩ := x
        rw [hc] at h
        dsimp only at h
        rw [Option.map_eq_some_iff] at h
        obtain ⟨⟨rs2, q2⟩, h1, h2⟩ := h
        cases h2
        have := (charM_ge hc).1
        have := litF_ge n p2 q2 rs2 h1
        show p ≤ q2
        omega

theorem Vw.lit {s u : ByteArray} {d P Q : Nat} (h : Vw s u d P Q) : ∀ (n p q : Nat) (rs : List Int), litF s n p = some (rs, q) → P ≤ p → q < Q → ∀ n', q + 1 ≤ n' + p → litF u n' (p + d) = some (rs, q + d)
  | 0, _, _, _, hl, _, _, _, _ => by cases hl
  | n + 1, p, q, rs, hl, hp, hq, n', hn => by
    have hge := litF_ge _ _ _ _ hl
    obtain ⟨m, rfl⟩ : ∃ m, n' = m + 1 := ⟨n' - 1, by omega⟩
    have e := h.eq p hp (by omega)
    unfold litF at hl ⊢
    rw [e]
    split at hl
    · rename_i hc
      cases hl
      rw [if_pos hc]
    · rename_i hc34
      rw [if_neg hc34]
      cases hc : charM s p with
      | none => rw [hc] at hl; cases hl
      | some x =>
        obtain ⟨r, p2⟩ := x
        rw [hc] at hl
        dsimp only at hl
        rw [Option.map_eq_some_iff] at hl
        obtain ⟨⟨rs2, q2⟩, h1, h2⟩ := hl
        cases h2
        have g1 := (charM_ge hc).1
        have g2 := litF_ge n p2 q2 rs2 h1
        have hq' : q2 < Q := hq
        have hn' : q2 + 1 ≤ m + 1 + p := hn
        have e1 := h.char hp hc (by omega)
        have e2 := Vw.lit h n p2 q2 rs2 h1 (by omega) hq' m (by omega)
        rw [e1]
        dsimp only
        rw [e2]
        rfl

theorem chrM_ge {s : ByteArray} {a q : Nat} {r : Int} (hm : chrM s a = some (r, q)) : a + 3 ≤ q := by
  unfold chrM at hm
  split at hm
  · cases hm
  · cases hc : charM s (a + 1) with
    | none => rw [hc] at hm; cases hm
    | some x =>
      obtain ⟨r0, q0⟩ := x
      rw [hc] at hm
      dsimp only at hm
      have := (charM_ge hc).1
      split at hm
      · cases hm; omega
      · cases hm

theorem Vw.chr {s u : ByteArray} {d P Q a q : Nat} {r : Int} (h : Vw s u d P Q) (ha : P ≤ a) (hm : chrM s a = some (r, q)) (hq : q ≤ Q) : chrM u (a + d) = some (r, q + d) := by
  have hge := chrM_ge hm
  have e := h.eq (a + 1) (by omega) (by omega)
  rw [show a + 1 + d = a + d + 1 by omega] at e
  unfold chrM at hm ⊢
  rw [e]
  split at hm
  · cases hm
  · rename_i h39
    rw [if_neg h39]
    cases hc : charM s (a + 1) with
    | none => rw [hc] at hm; cases hm
    | some x =>
      obtain ⟨r0, q0⟩ := x
      rw [hc] at hm
      dsimp only at hm
      have g := (charM_ge hc).1
      split at hm
      · rename_i hz
        cases hm
        have e1 := h.char (show P ≤ a + 1 by omega) hc (by omega)
        rw [show a + 1 + d = a + d + 1 by omega] at e1
        rw [e1]
        dsimp only
        rw [h.eq q0 (by omega) (by omega), if_pos hz, show q0 + d + 1 = q0 + 1 + d by omega]
      · cases hm

theorem Vw.blk {s u : ByteArray} {d P Q a q : Nat} (h : Vw s u d P Q) (ha : P ≤ a) (hm : blkM s a = some q) (hq : q + 3 ≤ Q) : blkM u (a + d) = some (q + d) := by
  have hs := h.hs
  have hu := h.hu
  unfold blkM at hm
  split at hm
  · cases hm
  · rename_i hc
    split at hm
    · rename_i hv
      obtain ⟨j, hj, hjl, hocc, hno⟩ : ∃ j : Nat, findQ s (a + 3) = j ∧ j ≤ (s.extract (a + 3) s.size).data.toList.length ∧ Lib.occAt (s.extract (a + 3) s.size).data.toList quote3.data.toList j = true ∧ Lib.NoOcc (s.extract (a + 3) s.size).data.toList quote3.data.toList j := by
        rcases Lib.index_spec (s.extract (a + 3) s.size).data.toList quote3.data.toList with ⟨e, _⟩ | ⟨i, e1, e2, e3, e4⟩
        · exact absurd e hc
        · exact ⟨i, e1, e2, e3, e4⟩
      rw [hj] at hm hv
      have hq' : a + 3 + j = q := by
        have := Option.some.inj hm
        omega
      have occ : ∀ (t : ByteArray) (p i : Nat), Lib.occAt (t.extract p t.size).data.toList quote3.data.toList i = Lib.hasPrefix (t.extract (p + i) t.size).data.toList quote3.data.toList := by
        intro t p i
        unfold Lib.occAt Lib.hasPrefix
        rw [Lib.ext_list, Lib.ext_list, List.drop_drop]
      have l3 : quote3.data.toList.length = 3 := rfl
      have same : ∀ i, i ≤ j → Lib.occAt (u.extract (a + d + 3) u.size).data.toList quote3.data.toList i = Lib.occAt (s.extract (a + 3) s.size).data.toList quote3.data.toList i := by
        intro i hi
        rw [occ, occ, show a + d + 3 + i = a + 3 + i + d by omega]
        exact h.vpre (by omega) (fun b hb => (nz_q3 b hb).1) (by omega)
      have hlen : (u.extract (a + d + 3) u.size).data.toList.length = u.size - (a + d + 3) := by rw [size_list, Lib.ext_size]
      have hf : findQ u (a + d + 3) = j := Lib.index_first (by omega) (by rw [same j (Nat.le_refl _)]; exact hocc) (fun i hi => by rw [same i (by omega)]; exact hno i hi)
      have hx : u.extract (a + d + 3) (a + d + 3 + j) = s.extract (a + 3) (a + 3 + j) := by
        rw [show a + d + 3 = a + 3 + d by omega, show a + 3 + d + j = a + 3 + j + d by omega]
        exact h.ext (by omega) (by omega)
      have hjn : ((j : Int)).toNat = j := by omega
      unfold blkM
      rw [hf, hjn, hx]
      rw [hjn] at hv
      rw [if_neg (by omega), if_pos hv]
      congr 1
      omega
    · cases hm

end Tk
end Go.Proofs.YtmfcopbffnfnfaaGreatDoor

namespace Go.Proofs.YtmfcopbffnfnfaaGreatDoor
open Go.ChangeShapes Go.WideShapes Go.ChangeAt Go.RowKit Go.WideMaps Go.Maps
namespace Tk

/-! ### The token at a place -/

theorem word_gt {s : ByteArray} {p : Nat} (hb : partB (byteAt s p) = true) : p < wordEnd s p := by
  unfold wordEnd
  rw [runEnd_on part0 hb]
  have g1 := runEnd_ge partB part0 s s.size (p + 1) (by omega)
  have g2 := runEnd_ge quoteB quote0 s s.size (runEnd partB s (p + 1)) (by omega)
  omega

theorem num_gt {s : ByteArray} {p q : Nat} {k : Int} {tx : ByteArray} {r : Option (Int × ByteArray × Nat)} (hN : NumAt s p r) (hr : r = some (k, tx, q)) : p < q := by
  cases hN with
  | hexBad _ _ _ _ _ => cases hr
  | hexOver _ _ _ _ _ => cases hr
  | binBad _ _ _ _ _ _ => cases hr
  | binOver _ _ _ _ _ _ => cases hr
  | decBad _ _ _ _ _ _ => cases hr
  | decFrac _ _ _ _ _ _ => cases hr
  | decOver _ _ _ _ _ _ _ _ => cases hr
  | hexOk h0 N hR hN hv => cases hr; have := dpos_ge s (p + 2) N; omega
  | binOk h0 hb N hR hN hv => cases hr; have := dpos_ge s (p + 2) N; omega
  | decOk h0 hb N q' hR hN hF hv => cases hr; have := dpos_ge s p N; have := frac_ge hF rfl; omega
  | decFloat h0 hb N q' hR hN hF => cases hr; have := dpos_ge s p N; have := frac_ge hF rfl; omega

theorem blkM_ge {s : ByteArray} {a q : Nat} (hm : blkM s a = some q) : a + 3 ≤ q := by
  unfold blkM at hm
  split at hm
  · cases hm
  · split at hm
    · have := Option.some.inj hm; omega
    · cases hm

set_option maxRecDepth 20000 in
/-- A token that ends in a window is the token there. -/
theorem Vw.tok {s u : ByteArray} {d P Q p q : Nat} {k : Int} {tx : ByteArray} {r : (Int × ByteArray × Nat) ⊕ Int} (h : Vw s u d P Q) (n : Neu (byteAt u (Q + d))) (hp : P ≤ p) (hT : TokAt s p r) (hr : r = .inl (k, tx, q)) (hq : q ≤ Q) : p < q ∧ TokAt u (p + d) (.inl (k, tx, q + d)) := by
  have part : ∀ x, P ≤ x → x ≤ Q → partB (byteAt s x) = false → partB (byteAt u (x + d)) = false := fun x h1 h2 h3 => by
    rcases h.at n h1 h2 with e | ⟨_, e⟩
    · rw [e]; exact h3
    · exact e.part
  cases hT with
  | word hl =>
    simp only [Sum.inl.injEq, Prod.mk.injEq] at hr
    obtain ⟨rfl, rfl, rfl⟩ := hr
    have hg := word_gt (s := s) (p := p) (by unfold partB; rw [hl]; rfl)
    have e0 := h.eq p hp (by omega)
    have ht : TokAt u (p + d) _ := .word (by rw [e0]; exact hl)
    rw [h.word n hp hq, h.ext hp hq] at ht
    exact ⟨hg, ht⟩
  | under hl h95 =>
    simp only [Sum.inl.injEq, Prod.mk.injEq] at hr
    obtain ⟨rfl, rfl, rfl⟩ := hr
    have hg := word_gt (s := s) (p := p) (by rw [h95]; decide)
    have e0 := h.eq p hp (by omega)
    have ht : TokAt u (p + d) _ := .under (by rw [e0]; exact hl) (by rw [e0]; exact h95)
    rw [h.word n hp hq, h.ext hp hq] at ht
    exact ⟨hg, ht⟩
  | num hl hd h95 _ _ _ hN he =>
    simp only [Sum.inl.injEq, Prod.mk.injEq] at hr
    obtain ⟨rfl, rfl, rfl⟩ := hr
    have hg := num_gt hN rfl
    have e0 := h.eq p hp (by omega)
    exact ⟨hg, .num (by rw [e0]; exact hl) (by rw [e0]; exact hd) (by rw [e0]; exact h95) _ _ _ (h.num n hp hN rfl hq) (part _ (by omega) hq he)⟩
  | char hl hd h95 h39 r0 _ hm he =>
    simp only [Sum.inl.injEq, Prod.mk.injEq] at hr
    obtain ⟨rfl, rfl, rfl⟩ := hr
    have hg := chrM_ge hm
    have e0 := h.eq p hp (by omega)
    exact ⟨by omega, .char (by rw [e0]; exact hl) (by rw [e0]; exact hd) (by rw [e0]; exact h95) (by rw [e0]; exact h39) _ _ (h.chr hp hm hq) (part _ (by omega) hq he)⟩
  | block hl hd h95 h39 h34 h3 q0 hm =>
    simp only [Sum.inl.injEq, Prod.mk.injEq] at hr
    obtain ⟨rfl, rfl, rfl⟩ := hr
    have hg := blkM_ge hm
    have e0 := h.eq p hp (by omega)
    have ht : TokAt u (p + d) _ := .block (by rw [e0]; exact hl) (by rw [e0]; exact hd) (by rw [e0]; exact h95) (by rw [e0]; exact h39) (by rw [e0]; exact h34) (h.pre_yes nz_q3 hp (show p + 3 ≤ Q by omega) h3) _ (h.blk hp hm hq)
    rw [show p + d + 3 = p + 3 + d by omega, h.ext (show P ≤ p + 3 by omega) (show q0 ≤ Q by omega), show q0 + d + 3 = q0 + 3 + d by omega] at ht
    exact ⟨by omega, ht⟩
  | line h34 h3 rs q0 hm =>
    simp only [Sum.inl.injEq, Prod.mk.injEq] at hr
    obtain ⟨rfl, rfl, rfl⟩ := hr
    have hg := litF_ge _ _ _ _ hm
    have e0 := h.eq p hp (by omega)
    have hu := h.hu
    have hl := h.lit _ _ _ _ hm (show P ≤ p + 1 by omega) (by omega) (u.size + 1) (by omega)
    rw [show p + 1 + d = p + d + 1 by omega] at hl
    have ht : TokAt u (p + d) _ := .line (by rw [e0]; exact h34) (h.pre_no n nz_q3 hp (by omega) h3) _ _ hl
    rw [show q0 + d + 1 = q0 + 1 + d by omega] at ht
    exact ⟨by omega, ht⟩
  | symbol hl hd h95 h39 h34 h3 hn =>
    simp only [Sum.inl.injEq, Prod.mk.injEq] at hr
    obtain ⟨rfl, rfl, rfl⟩ := hr
    have e0 := h.eq p hp (by omega)
    have eb := h.sym n hp hn hq
    obtain ⟨z, hz⟩ : ∃ z, z = bestN s p 43 := ⟨_, rfl⟩
    have ht : TokAt u (p + d) (.inl (6, bestN u (p + d) 43, p + d + (bestN u (p + d) 43).size)) := .symbol (by rw [e0]; exact hl) (by rw [e0]; exact hd) (by rw [e0]; exact h95) (by rw [e0]; exact h39) (by rw [e0]; exact h34) (h.pre_no n nz_q3 hp (by omega) h3) (by rw [eb]; exact hn)
    rw [eb] at ht
    rw [← hz] at ht hn ⊢
    rw [show p + d + z.size = p + z.size + d by omega] at ht
    exact ⟨by omega, ht⟩
  | numPart _ _ _ _ _ _ _ _ => cases hr
  | numBad _ _ _ _ => cases hr
  | charPart _ _ _ _ _ _ _ => cases hr
  | charBad _ _ _ _ _ => cases hr
  | blockBad _ _ _ _ _ _ _ => cases hr
  | lineBad _ _ _ => cases hr
  | symbolBad _ _ _ _ _ _ _ => cases hr

/-! ### Blanks and comments -/

theorem byte_some (s : ByteArray) (j : Nat) (c : UInt8) (hc : c ≠ 0) : byteAt s j = c.toNat ↔ s.data.toList[j]? = some c := by
  rw [byteAt_list, List.getD_eq_getElem?_getD]
  cases s.data.toList[j]? with
  | none =>
    constructor
    · intro h
      exfalso
      apply hc
      apply UInt8.toNat.inj
      have h1 : ((0 : UInt8).toNat : Int) = c.toNat := h
      have h2 : (0 : UInt8).toNat = c.toNat := by exact_mod_cast h1
      exact h2.symm
    · intro h; cases h
  | some x =>
    constructor
    · intro h
      have h1 : (x.toNat : Int) = c.toNat := h
      have h2 : x.toNat = c.toNat := by exact_mod_cast h1
      rw [UInt8.toNat.inj h2]
    · intro h
      cases h
      rfl

/-- Where a line ends. -/
theorem lineN_is (s : ByteArray) (p : Nat) (hp : p ≤ s.size) : (lineN s p = s.size ∨ byteAt s (lineN s p) = 10) ∧ ∀ x, p ≤ x → x < lineN s p → byteAt s x ≠ 10 := by
  have hl : (s.extract p s.size).data.toList = s.data.toList.drop p := Lib.ext_list s p
  have e10 : (10 : UInt8).toNat = 10 := rfl
  have hd : ∀ i, (s.data.toList.drop p)[i]? = s.data.toList[p + i]? := fun i => by rw [List.getElem?_drop]
  unfold lineN lineEndZ findAt
  rw [hl]
  split
  · rename_i h0
    obtain ⟨o, ho⟩ : ∃ o : Nat, Lib.indexByte (s.data.toList.drop p) 10 = o := ⟨(Lib.indexByte (s.data.toList.drop p) 10).toNat, by omega⟩
    obtain ⟨h1, h2⟩ := Lib.indexByte_some ho
    rw [ho]
    have ez : ((p : Int) + (o : Int)).toNat = p + o := by omega
    rw [ez]
    refine ⟨.inr ?_, fun x hx1 hx2 hb => ?_⟩
    · have := (byte_some s (p + o) 10 (by decide)).2 (by rw [← hd]; exact h1)
      rw [this]; rfl
    · apply h2 (x - p) (by omega)
      rw [hd, show p + (x - p) = x by omega]
      exact (byte_some s x 10 (by decide)).1 (by rw [hb]; rfl)
  · rename_i h0
    have hn : Lib.indexByte (s.data.toList.drop p) 10 = -1 := by have := Lib.indexByte_ge (s.data.toList.drop p) 10; omega
    have h2 := Lib.indexByte_none hn
    have ez : ((s.size : Int)).toNat = s.size := by omega
    rw [ez]
    refine ⟨.inl rfl, fun x hx1 hx2 hb => ?_⟩
    apply h2 (x - p)
    rw [hd, show p + (x - p) = x by omega]
    exact (byte_some s x 10 (by decide)).1 (by rw [hb]; rfl)

theorem lineN_one {s : ByteArray} {p e : Nat} (hp : p ≤ e) (he : e ≤ s.size) (h1 : e = s.size ∨ byteAt s e = 10) (h2 : ∀ x, p ≤ x → x < e → byteAt s x ≠ 10) : lineN s p = e := by
  obtain ⟨g1, g2⟩ := lineN_is s p (by omega)
  obtain ⟨_, g3, g4⟩ := lineN_spec s p (by omega)
  rcases Nat.lt_trichotomy (lineN s p) e with h | h | h
  · rcases g1 with g1 | g1
    · omega
    · exact absurd g1 (h2 _ g4 h)
  · exact h
  · rcases h1 with h1 | h1
    · omega
    · exact absurd h1 (g2 e hp h)

theorem skipF_fuel (s : ByteArray) : ∀ (n m p : Nat), p ≤ s.size → s.size < n + p → s.size < m + p → skipF s n p = skipF s m p
  | 0, m, p, hp, h, _ => by omega
  | n + 1, 0, p, hp, _, h => by omega
  | n + 1, m + 1, p, hp, hn, hm => by
    unfold skipF
    by_cases hlt : p < s.size
    · rw [if_pos hlt, if_pos hlt]
      have hc : commentEndZ s p = -1 ∨ ((p : Int) < commentEndZ s p ∧ commentEndZ s p ≤ s.size) := ceF_range s (s.size + 1) p 0
      rw [skipF_fuel s n m (p + 1) (by omega) (by omega) (by omega)]
      by_cases hb : hasP s p slash2 = true
      · have hl := lineN_spec s p hp
        have hl2 := lineN_lt s p hlt hb
        rw [skipF_fuel s n m (lineN s p) hl.2.1 (by omega) (by omega)]
        rw [if_pos hb, if_pos hb]
      · rw [if_neg hb, if_neg hb]
        by_cases hz : commentEndZ s p = -1
        · rw [if_pos hz, if_pos hz]
        · rw [if_neg hz, if_neg hz, skipF_fuel s n m (commentEndZ s p).toNat (by omega) (by omega) (by omega)]
    · rw [if_neg hlt, if_neg hlt]

theorem skipM_eq (s : ByteArray) (p : Nat) (hp : p ≤ s.size) : skipM s p =
    if p < s.size then
      (if 0 ≤ blankI (byteAt s p) then skipM s (p + 1)
       else if hasP s p slash2 = true then (if Lib.validD (s.extract p (lineN s p)).data.toList = true then skipM s (lineN s p) else .inr p)
       else if hasP s p slashS = true then
         (if commentEndZ s p = -1 then .inr p else if Lib.validD (s.extract p (commentEndZ s p).toNat).data.toList = true then skipM s (commentEndZ s p).toNat else .inr p)
       else .inl p)
    else .inl p := by
  unfold skipM
  rw [show s.size + 1 - p = s.size - p + 1 by omega]
  conv => lhs; unfold skipF
  by_cases hlt : p < s.size
  · rw [if_pos hlt, if_pos hlt]
    have hc : commentEndZ s p = -1 ∨ ((p : Int) < commentEndZ s p ∧ commentEndZ s p ≤ s.size) := ceF_range s (s.size + 1) p 0
    rw [skipF_fuel s (s.size - p) (s.size + 1 - (p + 1)) (p + 1) (by omega) (by omega) (by omega)]
    by_cases hb : hasP s p slash2 = true
    · have hl := lineN_spec s p hp
      have hl2 := lineN_lt s p hlt hb
      rw [skipF_fuel s (s.size - p) (s.size + 1 - lineN s p) (lineN s p) hl.2.1 (by omega) (by omega), if_pos hb, if_pos hb]
    · rw [if_neg hb, if_neg hb]
      by_cases hz : commentEndZ s p = -1
      · rw [if_pos hz, if_pos hz]
      · rw [if_neg hz, if_neg hz, skipF_fuel s (s.size - p) (s.size + 1 - (commentEndZ s p).toNat) (commentEndZ s p).toNat (by omega) (by omega) (by omega)]
  · rw [if_neg hlt, if_neg hlt]

/-- How one step of passing over goes, when all of it succeeds. -/
theorem skip_cases {s : ByteArray} {p b : Nat} (hp : p ≤ s.size) (h : skipM s p = .inl b) :
    (b = p ∧ p = s.size) ∨
    (p < s.size ∧ 0 ≤ blankI (byteAt s p) ∧ skipM s (p + 1) = .inl b) ∨
    (p < s.size ∧ ¬ 0 ≤ blankI (byteAt s p) ∧ hasP s p slash2 = true ∧ Lib.validD (s.extract p (lineN s p)).data.toList = true ∧ skipM s (lineN s p) = .inl b) ∨
    (∃ e : Nat, p < s.size ∧ ¬ 0 ≤ blankI (byteAt s p) ∧ hasP s p slash2 = false ∧ hasP s p slashS = true ∧ commentEndZ s p = e ∧ p < e ∧ e ≤ s.size ∧ Lib.validD (s.extract p e).data.toList = true ∧ skipM s e = .inl b) ∨
    (b = p ∧ p < s.size ∧ ¬ 0 ≤ blankI (byteAt s p) ∧ hasP s p slash2 = false ∧ hasP s p slashS = false) := by
  rw [skipM_eq s p hp] at h
  by_cases hlt : p < s.size
  · rw [if_pos hlt] at h
    by_cases hb : 0 ≤ blankI (byteAt s p)
    · rw [if_pos hb] at h
      exact .inr (.inl ⟨hlt, hb, h⟩)
    · rw [if_neg hb] at h
      cases h2 : hasP s p slash2
      · rw [h2, if_neg (by decide)] at h
        cases h3 : hasP s p slashS
        · rw [h3, if_neg (by decide)] at h
          cases h
          exact .inr (.inr (.inr (.inr ⟨rfl, hlt, hb, rfl, rfl⟩)))
        · rw [h3, if_pos rfl] at h
          have hc : commentEndZ s p = -1 ∨ ((p : Int) < commentEndZ s p ∧ commentEndZ s p ≤ s.size) := ceF_range s (s.size + 1) p 0
          by_cases hz : commentEndZ s p = -1
          · rw [if_pos hz] at h; cases h
          · rw [if_neg hz] at h
            split at h
            · rename_i hv
              exact .inr (.inr (.inr (.inl ⟨(commentEndZ s p).toNat, hlt, hb, rfl, rfl, by omega, by omega, by omega, hv, h⟩)))
            · cases h
      · rw [h2, if_pos rfl] at h
        split at h
        · rename_i hv
          exact .inr (.inr (.inl ⟨hlt, hb, rfl, hv, h⟩))
        · cases h
  · rw [if_neg hlt] at h
    cases h
    exact .inl ⟨rfl, by omega⟩

theorem skip_idem {s : ByteArray} : ∀ (n p b : Nat), s.size ≤ n + p → p ≤ s.size → skipM s p = .inl b → skipM s b = .inl b
  | n, p, b, hn, hp, h => by
    rcases skip_cases hp h with ⟨rfl, _⟩ | ⟨hlt, hb, h1⟩ | ⟨hlt, hb, h2, hv, h1⟩ | ⟨e, hlt, hb, h2, h3, h4, h5, h6, hv, h1⟩ | ⟨rfl, _⟩
    · exact h
    · obtain ⟨n, rfl⟩ : ∃ m, n = m + 1 := ⟨n - 1, by omega⟩
      exact skip_idem n (p + 1) b (by omega) (by omega) h1
    · obtain ⟨n, rfl⟩ : ∃ m, n = m + 1 := ⟨n - 1, by omega⟩
      have hl := lineN_spec s p hp
      have hl2 := lineN_lt s p hlt h2
      exact skip_idem n (lineN s p) b (by omega) hl.2.1 h1
    · obtain ⟨n, rfl⟩ : ∃ m, n = m + 1 := ⟨n - 1, by omega⟩
      exact skip_idem n e b (by omega) h6 h1
    · exact h

/-- Where a nested comment ends, through a window. -/
theorem Vw.ce {s u : ByteArray} {d P Q : Nat} (h : Vw s u d P Q) : ∀ (n i : Nat) (δ : Int) (e : Nat), ceF s n i δ = e → 1 ≤ δ → P ≤ i → e ≤ Q → ∀ m, e ≤ m + i → ceF u m (i + d) δ = ((e + d : Nat) : Int)
  | 0, i, δ, e, hc, _, _, _, _, _ => by
    have : (-1 : Int) = e := hc
    omega
  | n + 1, i, δ, e, hc, hδ, hi, he, m, hm => by
    have hs := h.hs
    have hu := h.hu
    have r1 := ceF_range s n (i + 1) δ
    have r2 := fun k => ceF_range s n (i + 2) k
    unfold ceF at hc
    by_cases hlt : i + 1 < s.size
    · rw [if_pos hlt] at hc
      have hex : i + 2 ≤ Q → u.extract (i + d) (i + d + 2) = s.extract i (i + 2) := fun hq => by
        rw [show i + d + 2 = i + 2 + d by omega]
        exact h.ext hi hq
      by_cases c1 : ((s.extract i (i + 2)).toList == [47, 42]) = true
      · rw [if_pos c1, if_neg (by omega)] at hc
        have := r2 (δ + 1)
        rw [hc] at this
        have hq : i + 2 < e := by omega
        obtain ⟨m, rfl⟩ : ∃ k, m = k + 1 := ⟨m - 1, by omega⟩
        have ih := Vw.ce h n (i + 2) (δ + 1) e hc (by omega) (by omega) he m (by omega)
        unfold ceF
        rw [if_pos (by omega), hex (by omega), if_pos c1, if_neg (by omega), show i + d + 2 = i + 2 + d by omega]
        exact ih
      · rw [if_neg c1] at hc
        by_cases c2 : ((s.extract i (i + 2)).toList == [42, 47]) = true
        · rw [if_pos c2] at hc
          by_cases hz : δ - 1 = 0
          · rw [if_pos hz] at hc
            have hq : i + 2 = e := by omega
            obtain ⟨m, rfl⟩ : ∃ k, m = k + 1 := ⟨m - 1, by omega⟩
            unfold ceF
            rw [if_pos (by omega), hex (by omega), if_neg c1, if_pos c2, if_pos hz]
            omega
          · rw [if_neg hz] at hc
            have := r2 (δ - 1)
            rw [hc] at this
            have hq : i + 2 < e := by omega
            obtain ⟨m, rfl⟩ : ∃ k, m = k + 1 := ⟨m - 1, by omega⟩
            have ih := Vw.ce h n (i + 2) (δ - 1) e hc (by omega) (by omega) he m (by omega)
            unfold ceF
            rw [if_pos (by omega), hex (by omega), if_neg c1, if_pos c2, if_neg hz, show i + d + 2 = i + 2 + d by omega]
            exact ih
        · rw [if_neg c2, if_neg (by omega)] at hc
          rw [hc] at r1
          have hq : i + 1 < e := by omega
          obtain ⟨m, rfl⟩ : ∃ k, m = k + 1 := ⟨m - 1, by omega⟩
          have ih := Vw.ce h n (i + 1) δ e hc hδ (by omega) he m (by omega)
          unfold ceF
          rw [if_pos (by omega), hex (by omega), if_neg c1, if_neg c2, if_neg (by omega), show i + d + 1 = i + 1 + d by omega]
          exact ih
    · rw [if_neg hlt] at hc
      omega

theorem slashS_ext {s : ByteArray} {p : Nat} (h : hasP s p slashS = true) : ((s.extract p (p + 2)).toList == [47, 42]) = true ∧ p + 2 ≤ s.size := by
  have e := (pre_iff s p slashS.data.toList fun b hb => (nz_sS b hb).1).1 h
  have e0 := e 0 (by decide)
  have e1 := e 1 (by decide)
  have hz : p + 2 ≤ s.size := size_of_pre (x := slashS) rfl h
  refine ⟨?_, hz⟩
  have : s.extract p (p + 2) = ⟨#[47, 42]⟩ := by
    apply bytes_eq
    · rw [ByteArray.size_extract]; show 2 = _; omega
    · intro i hi
      have hi' : i < 2 := hi
      rw [byteAt_ext (by omega) (by omega)]
      rcases (by omega : i = 0 ∨ i = 1) with rfl | rfl
      · rw [e0]; rfl
      · rw [e1]; rfl
  rw [this, ByteArray.toList_mk]
  decide

theorem ce_begin {s : ByteArray} {p : Nat} (h : hasP s p slashS = true) : commentEndZ s p = ceF s s.size (p + 2) 1 := by
  obtain ⟨h1, h2⟩ := slashS_ext h
  unfold commentEndZ
  conv => lhs; unfold ceF
  rw [if_pos (by omega), if_pos h1, if_neg (by decide)]
  rfl

/-- Passing over, through a window. -/
theorem Vw.skip {s u : ByteArray} {d P Q : Nat} (h : Vw s u d P Q) (hend : Q = s.size → Q + d = u.size) : ∀ (n p b : Nat), s.size ≤ n + p → P ≤ p → p ≤ s.size → skipM s p = .inl b → b ≤ Q → skipM u (p + d) = skipM u (b + d)
  | n, p, b, hn, hP, hp, hk, hq => by
    have hs := h.hs
    have hu := h.hu
    have hr := skipM_range hp hk
    rcases skip_cases hp hk with ⟨rfl, _⟩ | ⟨hlt, hb, h1⟩ | ⟨hlt, hb, h2, hv, h1⟩ | ⟨e, hlt, hb, h2, h3, h4, h5, h6, hv, h1⟩ | ⟨rfl, _⟩
    · rfl
    · obtain ⟨n, rfl⟩ : ∃ m, n = m + 1 := ⟨n - 1, by omega⟩
      have hr1 := skipM_range (show p + 1 ≤ s.size by omega) h1
      have ih := Vw.skip h hend n (p + 1) b (by omega) (by omega) (by omega) h1 hq
      rw [skipM_eq u (p + d) (by omega), if_pos (by omega), if_pos (by rw [h.eq p hP (by omega)]; exact hb), show p + d + 1 = p + 1 + d by omega]
      exact ih
    · obtain ⟨n, rfl⟩ : ∃ m, n = m + 1 := ⟨n - 1, by omega⟩
      have hl := lineN_spec s p hp
      have hl2 := lineN_lt s p hlt h2
      obtain ⟨hl3, hl4⟩ := lineN_is s p hp
      have hz2 : p + 2 ≤ s.size := size_of_pre (x := slash2) rfl h2
      have e := (pre_iff s p slash2.data.toList fun b hb => (nz_s2 b hb).1).1 h2
      have e1 : byteAt s (p + 1) = 47 := e 1 (by decide)
      obtain ⟨E, hE⟩ : ∃ E, E = lineN s p := ⟨_, rfl⟩
      rw [← hE] at hl hl2 hl3 hl4 hv h1
      have hE2 : p + 2 ≤ E := by
        rcases Nat.lt_or_ge E (p + 2) with hc | hc
        · exfalso
          obtain rfl : E = p + 1 := by omega
          rcases hl3 with hl3 | hl3
          · omega
          · rw [e1] at hl3; cases hl3
        · exact hc
      have hr1 := skipM_range hl.2.1 h1
      have ih := Vw.skip h hend n E b (by omega) (by omega) hl.2.1 h1 hq
      have hbl : ¬ 0 ≤ blankI (byteAt u (p + d)) := by rw [h.eq p hP (by omega)]; exact hb
      have hh : hasP u (p + d) slash2 = true := h.pre_yes nz_s2 hP (show p + 2 ≤ Q by omega) h2
      have hln : lineN u (p + d) = E + d := by
        refine lineN_one (by omega) (by omega) ?_ (fun x hx1 hx2 => ?_)
        · rcases hl3 with hl3 | hl3
          · left
            have : Q = s.size := by omega
            have := hend this
            omega
          · right
            have hEs : E < s.size := by
              rcases Nat.lt_or_ge E s.size with hc | hc
              · exact hc
              · rw [byteAt_out hc] at hl3; cases hl3
            have hEb : E < b := by
              rcases Nat.lt_or_ge E b with hc | hc
              · exact hc
              · exfalso
                obtain rfl : E = b := by omega
                rw [skipM_eq s E (by omega), if_pos hEs, if_pos (by rw [hl3]; decide)] at h1
                have := skipM_range (show E + 1 ≤ s.size by omega) h1
                omega
            rw [h.eq E (by omega) (by omega)]
            exact hl3
        · have := hl4 (x - d) (by omega) (by omega)
          rw [show x = x - d + d by omega, h.eq (x - d) (by omega) (by omega)]
          exact this
      rw [skipM_eq u (p + d) (by omega), if_pos (by omega), if_neg hbl, if_pos hh, hln, h.ext hP (show E ≤ Q by omega), if_pos hv]
      exact ih
    · obtain ⟨n, rfl⟩ : ∃ m, n = m + 1 := ⟨n - 1, by omega⟩
      have hr1 := skipM_range h6 h1
      have ih := Vw.skip h hend n e b (by omega) (by omega) h6 h1 hq
      have hbl : ¬ 0 ≤ blankI (byteAt u (p + d)) := by rw [h.eq p hP (by omega)]; exact hb
      have hz2 : p + 2 ≤ s.size := size_of_pre (x := slashS) rfl h3
      have h4' := h4
      rw [ce_begin h3] at h4'
      have hce := ceF_range s s.size (p + 2) 1
      rw [h4'] at hce
      have hp2 : p + 2 ≤ Q := by omega
      have hh2 : hasP u (p + d) slash2 = false := by
        show Lib.hasPrefix _ _ = false
        rw [h.vpre hP (fun b hb => (nz_s2 b hb).1) (show p + 2 ≤ Q from hp2)]
        exact h2
      have hhS : hasP u (p + d) slashS = true := h.pre_yes nz_sS hP (show p + 2 ≤ Q from hp2) h3
      have hcu : commentEndZ u (p + d) = ((e + d : Nat) : Int) := by
        rw [ce_begin hhS, show p + d + 2 = p + 2 + d by omega]
        exact h.ce _ _ _ e h4' (by decide) (by omega) (by omega) _ (by omega)
      have hne : ¬ ((e + d : Nat) : Int) = -1 := by omega
      have hto : (((e + d : Nat) : Int)).toNat = e + d := by omega
      rw [skipM_eq u (p + d) (by omega), if_pos (by omega), if_neg hbl, hh2, if_neg (by decide), hhS, if_pos rfl, hcu, if_neg hne, hto, h.ext hP (show e ≤ Q by omega), if_pos hv]
      exact ih
    · rfl

/-- Where nothing is passed over in s, nothing is in the window. -/
theorem Vw.stop {s u : ByteArray} {d P Q b : Nat} (h : Vw s u d P Q) (n : Neu (byteAt u (Q + d))) (hP : P ≤ b) (hb : b < Q) (hk : skipM s b = .inl b) : skipM u (b + d) = .inl (b + d) := by
  have hs := h.hs
  have hu := h.hu
  rcases skip_cases (show b ≤ s.size by omega) hk with ⟨_, h1⟩ | ⟨hlt, _, h1⟩ | ⟨hlt, hbb, h2, hv, h1⟩ | ⟨e, hlt, hbb, h2, h3, h4, h5, h6, hv, h1⟩ | ⟨_, hlt, hbb, h2, h3⟩
  · omega
  · have := skipM_range (show b + 1 ≤ s.size by omega) h1; omega
  · have hl := lineN_spec s b (by omega)
    have hl2 := lineN_lt s b hlt h2
    have := skipM_range hl.2.1 h1
    omega
  · have := skipM_range h6 h1; omega
  · have g2 : hasP u (b + d) slash2 = false := h.pre_no n nz_s2 hP (by omega) h2
    have g3 : hasP u (b + d) slashS = false := h.pre_no n nz_sS hP (by omega) h3
    rw [skipM_eq u (b + d) (by omega), if_pos (by omega), if_neg (by rw [h.eq b hP hb]; exact hbb), g2, if_neg (by decide), g3, if_neg (by decide)]

end Tk
end Go.Proofs.YtmfcopbffnfnfaaGreatDoor

namespace Go.Proofs.YtmfcopbffnfnfaaGreatDoor
open Go.ChangeShapes Go.WideShapes Go.ChangeAt Go.RowKit Go.WideMaps Go.Maps
namespace Tk

/-! ### The tokens of a text, of one that is cut, of one with more blanks -/

/-- The tokens from place p on, by what stands there. -/
inductive ToksA (s : ByteArray) : Nat → Bool → List Tok → Option (Nat × Int) → Prop
  | last (p : Nat) (f : Bool) (h : skipM s p = .inl s.size) : ToksA s p f [] none
  | badSkip (p : Nat) (f : Bool) (q : Nat) (h : skipM s p = .inr q) : ToksA s p f [] (some (q, 32))
  | badRead (p : Nat) (f : Bool) (b : Nat) (code : Int) (h : skipM s p = .inl b) (hb : b < s.size) (hr : TokAt s b (.inr code)) : ToksA s p f [] (some (b, code))
  | tok (p : Nat) (f : Bool) (b : Nat) (k : Int) (tx : ByteArray) (q : Nat) (ts : List Tok) (res : Option (Nat × Int)) (h : skipM s p = .inl b) (hb : b < s.size) (hr : TokAt s b (.inl (k, tx, q))) (h1 : b < q) (h2 : q ≤ s.size) (hn : ToksA s q false ts res) : ToksA s p f (⟨k, tx, b, feedB s p b || f⟩ :: ts) res

theorem toksA_pos {s : ByteArray} {p : Nat} {f : Bool} {ts : List Tok} {res : Option (Nat × Int)} (h : ToksA s p f ts res) (hp : p ≤ s.size) : (∀ t ∈ ts, p ≤ t.pos ∧ t.pos < s.size) ∧ ts.Pairwise fun a b => a.pos < b.pos := by
  induction h with
  | last => exact ⟨fun t ht => (by cases ht), .nil⟩
  | badSkip => exact ⟨fun t ht => (by cases ht), .nil⟩
  | badRead => exact ⟨fun t ht => (by cases ht), .nil⟩
  | tok p f b k tx q ts res h hb hr h1 h2 hn ih =>
    have hr0 := skipM_range hp h
    obtain ⟨i1, i2⟩ := ih h2
    refine ⟨fun t ht => ?_, .cons (fun t ht => ?_) i2⟩
    · rcases List.mem_cons.1 ht with rfl | ht
      · exact ⟨hr0.1, hb⟩
      · have := i1 t ht
        exact ⟨by omega, this.2⟩
    · have := i1 t ht
      show b < t.pos
      omega

theorem skip_bad_range {s : ByteArray} : ∀ (n p q : Nat), s.size ≤ n + p → p ≤ s.size → skipM s p = .inr q → p ≤ q ∧ q < s.size
  | n, p, q, hn, hp, h => by
    rw [skipM_eq s p hp] at h
    by_cases hlt : p < s.size
    · obtain ⟨n, rfl⟩ : ∃ m, n = m + 1 := ⟨n - 1, by omega⟩
      rw [if_pos hlt] at h
      split at h
      · have := skip_bad_range n (p + 1) q (by omega) (by omega) h; omega
      · split at h
        · rename_i h2
          split at h
          · have hl := lineN_spec s p hp
            have hl2 := lineN_lt s p hlt h2
            have := skip_bad_range n (lineN s p) q (by omega) hl.2.1 h
            omega
          · cases h; omega
        · split at h
          · split at h
            · cases h; omega
            · rename_i hz
              have hc : commentEndZ s p = -1 ∨ ((p : Int) < commentEndZ s p ∧ commentEndZ s p ≤ s.size) := ceF_range s (s.size + 1) p 0
              split at h
              · have := skip_bad_range n (commentEndZ s p).toNat q (by omega) (by omega) h; omega
              · cases h; omega
          · cases h
    · rw [if_neg hlt] at h
      cases h

theorem tokAt_code {s : ByteArray} {p : Nat} {code : Int} {r : (Int × ByteArray × Nat) ⊕ Int} (h : TokAt s p r) (hr : r = .inr code) : code = 33 ∨ code = 31 ∨ code = 30 := by
  cases h with
  | word _ => cases hr
  | under _ _ => cases hr
  | num _ _ _ _ _ _ _ _ => cases hr
  | char _ _ _ _ _ _ _ _ => cases hr
  | block _ _ _ _ _ _ _ _ => cases hr
  | line _ _ _ _ _ => cases hr
  | symbol _ _ _ _ _ _ _ => cases hr
  | numPart _ _ _ _ _ _ _ _ => cases hr; exact .inl rfl
  | numBad _ _ _ _ => cases hr; exact .inl rfl
  | charPart _ _ _ _ _ _ _ _ => cases hr; exact .inl rfl
  | charBad _ _ _ _ _ => cases hr; exact .inr (.inl rfl)
  | blockBad _ _ _ _ _ _ _ => cases hr; exact .inr (.inl rfl)
  | lineBad _ _ _ => cases hr; exact .inr (.inl rfl)
  | symbolBad _ _ _ _ _ _ _ => cases hr; exact .inr (.inr rfl)

theorem toksA_err {s : ByteArray} {p : Nat} {f : Bool} {ts : List Tok} {res : Option (Nat × Int)} (h : ToksA s p f ts res) (hp : p ≤ s.size) : ∀ q code, res = some (q, code) → p ≤ q ∧ q < s.size ∧ 30 ≤ code ∧ code ≤ 33 := by
  induction h with
  | last => intro q code e; cases e
  | badSkip p f q h => intro q' code e; cases e; have := skip_bad_range s.size p q (by omega) hp h; exact ⟨this.1, this.2, by decide, by decide⟩
  | badRead p f b code h hb hr =>
    intro q' code' e
    cases e
    have := skipM_range hp h
    rcases tokAt_code hr rfl with rfl | rfl | rfl <;> exact ⟨this.1, hb, by decide, by decide⟩
  | tok p f b k tx q ts res h hb hr h1 h2 hn ih =>
    intro q' code' e
    have := skipM_range hp h
    have := ih h2 q' code' e
    exact ⟨by omega, this.2⟩

theorem feedB_vw {s u : ByteArray} {d P Q p b : Nat} (h : Vw s u d P Q) (hp : P ≤ p) (hb : b ≤ Q) (he : (b + d = u.size) ↔ (b = s.size)) : feedB u (p + d) (b + d) = feedB s p b := by
  unfold feedB
  rw [h.ext hp hb]
  congr 1
  exact decide_eq_decide.2 he

theorem byteAt_cut {s : ByteArray} {P x : Nat} (hP : P ≤ s.size) (hx : x < P) : byteAt (s.extract 0 P) x = byteAt s x := by
  rw [byteAt_ext (by omega) hP, Nat.zero_add]

/-- A text that is cut where a token begins has the tokens ahead of it. -/
theorem toksA_cut {s : ByteArray} {p : Nat} {f : Bool} {ts : List Tok} {res : Option (Nat × Int)} (h : ToksA s p f ts res) (hres : res = none) (hp : p ≤ s.size) : ∀ (k : Nat) (hk : k < ts.length), ToksA (s.extract 0 (ts[k]'hk).pos) p f (ts.take k) none := by
  induction h with
  | last => intro k hk; exact absurd hk (by simp)
  | badSkip => cases hres
  | badRead => cases hres
  | tok p f b k0 tx q ts res h hb hr h1 h2 hn ih =>
    intro k hk
    have hr0 := skipM_range hp h
    cases k with
    | zero =>
      show ToksA (s.extract 0 b) p f [] none
      have hz : (s.extract 0 b).size = b := by rw [ByteArray.size_extract]; omega
      have V : Vw s (s.extract 0 b) 0 0 b := ⟨by omega, by omega, fun x _ hx => byteAt_cut (by omega) hx⟩
      refine .last p f ?_
      have e := V.skip (fun e => by omega) s.size p b (by omega) (Nat.zero_le _) hp h (Nat.le_refl _)
      rw [Nat.add_zero, Nat.add_zero] at e
      rw [e, skipM_eq _ b (by omega), if_neg (by omega), hz]
    | succ j =>
      have hj : j < ts.length := by simpa using hk
      show ToksA (s.extract 0 (ts[j]'hj).pos) p f (_ :: ts.take j) none
      have hpos := (toksA_pos hn h2).1 _ (List.getElem_mem hj)
      have ih' := ih hres h2 j hj
      obtain ⟨P, hP⟩ : ∃ P, P = (ts[j]'hj).pos := ⟨_, rfl⟩
      rw [← hP] at hpos ih' ⊢
      have hz : (s.extract 0 P).size = P := by rw [ByteArray.size_extract]; omega
      have V : Vw s (s.extract 0 P) 0 0 P := ⟨by omega, by omega, fun x _ hx => byteAt_cut (by omega) hx⟩
      have n : Neu (byteAt (s.extract 0 P) (P + 0)) := .inl (byteAt_out (by omega))
      have e := V.skip (fun e => by omega) s.size p b (by omega) (Nat.zero_le _) hp h (by omega)
      have e2 := V.stop n (Nat.zero_le _) (show b < P by omega) (skip_idem s.size p b (by omega) hp h)
      rw [Nat.add_zero, Nat.add_zero] at e
      rw [Nat.add_zero] at e2
      have ht := (V.tok n (Nat.zero_le _) hr rfl (show q ≤ P by omega)).2
      have hf := feedB_vw (p := p) (b := b) V (Nat.zero_le _) (show b ≤ P by omega) (by omega)
      rw [Nat.add_zero, Nat.add_zero] at hf
      rw [← hf]
      exact .tok p f b k0 tx q (ts.take j) none (e.trans e2) (by omega) ht h1 (by omega) ih'

/-- A token some places further on. -/
def Tok.move (d : Nat) (t : Tok) : Tok := ⟨t.kind, t.text, t.pos + d, t.line⟩

theorem toksA_move {s u : ByteArray} {d P : Nat} (V : Vw s u d P s.size) (hz : u.size = s.size + d) {p : Nat} {f : Bool} {ts : List Tok} {res : Option (Nat × Int)} (h : ToksA s p f ts res) (hres : res = none) (hP : P ≤ p) (hp : p ≤ s.size) : ToksA u (p + d) f (ts.map (Tok.move d)) none := by
  have n : Neu (byteAt u (s.size + d)) := .inl (byteAt_out (by omega))
  induction h with
  | last p f h =>
    refine .last _ _ ?_
    rw [V.skip (fun _ => hz.symm) s.size p s.size (by omega) hP hp h (Nat.le_refl _), skipM_eq u _ (by omega), if_neg (by omega), hz]
  | badSkip => cases hres
  | badRead => cases hres
  | tok p f b k0 tx q ts res h hb hr h1 h2 hn ih =>
    have hr0 := skipM_range hp h
    have e := V.skip (fun _ => hz.symm) s.size p b (by omega) hP hp h (by omega)
    have e2 := V.stop n (show P ≤ b by omega) hb (skip_idem s.size p b (by omega) hp h)
    have ht := (V.tok n (show P ≤ b by omega) hr rfl h2).2
    have hf := feedB_vw (p := p) (b := b) V hP (show b ≤ s.size by omega) (by omega)
    show ToksA u (p + d) f (⟨k0, tx, b + d, feedB s p b || f⟩ :: ts.map (Tok.move d)) none
    rw [← hf]
    exact .tok (p + d) f (b + d) k0 tx (q + d) _ none (e.trans e2) (by omega) ht (by omega) (by omega) (ih hres (by omega) h2)

/-- The tokens of a text with more blanks ahead of one. -/
def wid (D : Nat) (nl : Bool) : Nat → List Tok → List Tok
  | _, [] => []
  | 0, t :: r => ⟨t.kind, t.text, t.pos + D, t.line || nl⟩ :: r.map (Tok.move D)
  | k + 1, t :: r => t :: wid D nl k r

theorem indexB_mem (l : List UInt8) (c : UInt8) : decide (0 ≤ Lib.indexByte l c) = l.contains c := by
  induction l with
  | nil => rfl
  | cons x t ih =>
    have hg := Lib.indexByte_ge t c
    unfold Lib.indexByte
    rw [List.contains_cons]
    by_cases h : x = c
    · subst h
      simp
    · have h1 : (x == c) = false := by simpa using h
      have h2 : (c == x) = false := by simpa using fun e : c = x => h e.symm
      rw [h1, h2, Bool.false_or, ← ih]
      by_cases h3 : Lib.indexByte t c = -1
      · rw [h3]
        rfl
      · have h4 : (Lib.indexByte t c == -1) = false := by simpa using h3
        rw [h4]
        simp only [Bool.false_eq_true, ↓reduceIte]
        exact decide_eq_decide.2 (by omega)

theorem ext_split (u : ByteArray) {a b c : Nat} (h1 : a ≤ b) (h2 : b ≤ c) (h3 : c ≤ u.size) : (u.extract a c).data.toList = (u.extract a b).data.toList ++ (u.extract b c).data.toList := by
  simp only [ByteArray.data_extract, Array.toList_extract, List.extract_eq_take_drop]
  rw [show c - a = (b - a) + (c - b) by omega, List.take_add, List.drop_drop, show a + (b - a) = b by omega]

theorem toksA_wid {s u : ByteArray} {D P : Nat} (V1 : Vw s u 0 0 P) (V2 : Vw s u D P s.size) (hz : u.size = s.size + D) (n1 : Neu (byteAt u P)) (hbl : skipM u P = skipM u (P + D)) (nl : Bool) (hnl : nl = decide (0 ≤ Lib.indexByte (u.extract P (P + D)).data.toList 10))
    {p : Nat} {f : Bool} {ts : List Tok} {res : Option (Nat × Int)} (h : ToksA s p f ts res) (hres : res = none) (hp : p ≤ s.size) : ∀ (k : Nat) (hk : k < ts.length), P = (ts[k]'hk).pos → ToksA u p f (wid D nl k ts) none := by
  have n2 : Neu (byteAt u (s.size + D)) := .inl (byteAt_out (by omega))
  have n1' : Neu (byteAt u (P + 0)) := n1
  induction h with
  | last => intro k hk; exact absurd hk (by simp)
  | badSkip => cases hres
  | badRead => cases hres
  | tok p f b k0 tx q ts res h hb hr h1 h2 hn ih =>
    intro k hk hPk
    have hr0 := skipM_range hp h
    have hu1 := V1.hu
    cases k with
    | zero =>
      have hPb : P = b := hPk
      subst hPb
      show ToksA u p f (⟨k0, tx, P + D, (feedB s p P || f) || nl⟩ :: ts.map (Tok.move D)) none
      have e := V1.skip (fun e => by omega) s.size p P (by omega) (Nat.zero_le _) hp h (Nat.le_refl _)
      rw [Nat.add_zero, Nat.add_zero] at e
      have e2 := V2.stop n2 (Nat.le_refl _) hb (skip_idem s.size p P (by omega) hp h)
      have ht := (V2.tok n2 (Nat.le_refl _) hr rfl h2).2
      have hm := toksA_move V2 hz hn hres (by omega) h2
      have hx := V1.ext (a := p) (b := P) (Nat.zero_le _) (Nat.le_refl _)
      rw [Nat.add_zero, Nat.add_zero] at hx
      have hf : (feedB u p (P + D) || f) = ((feedB s p P || f) || nl) := by
        unfold feedB
        rw [hnl, indexB_mem, indexB_mem, indexB_mem, ext_split u hr0.1 (show P ≤ P + D by omega) (by omega), hx, List.contains_append]
        rw [decide_eq_false (show ¬ P + D = u.size by omega), decide_eq_false (show ¬ P = s.size by omega)]
        cases List.contains (s.extract p P).data.toList 10 <;> cases List.contains (u.extract P (P + D)).data.toList 10 <;> cases f <;> rfl
      rw [← hf]
      exact .tok p f (P + D) k0 tx (q + D) _ none ((e.trans hbl).trans e2) (by omega) ht (by omega) (by omega) hm
    | succ j =>
      have hj : j < ts.length := by simpa using hk
      have hPj : P = (ts[j]'hj).pos := hPk
      show ToksA u p f (⟨k0, tx, b, feedB s p b || f⟩ :: wid D nl j ts) none
      have hpos := (toksA_pos hn h2).1 _ (List.getElem_mem hj)
      rw [← hPj] at hpos
      have e := V1.skip (fun e => by omega) s.size p b (by omega) (Nat.zero_le _) hp h (by omega)
      have e2 := V1.stop n1' (Nat.zero_le _) (show b < P by omega) (skip_idem s.size p b (by omega) hp h)
      rw [Nat.add_zero, Nat.add_zero] at e
      rw [Nat.add_zero] at e2
      have ht := (V1.tok n1' (Nat.zero_le _) hr rfl (show q ≤ P by omega)).2
      have hf := feedB_vw (p := p) (b := b) V1 (Nat.zero_le _) (show b ≤ P by omega) (by omega)
      rw [Nat.add_zero, Nat.add_zero] at hf
      rw [← hf]
      exact .tok p f b k0 tx q _ none (e.trans e2) (by omega) ht h1 (by omega) (ih hres h2 j hj hPj)

/-! ### The blanks that a law puts there -/

/-- A text that is a blank alone: it is passed over. -/
theorem blank_over {b : ByteArray} (x : ByteArray) (hx : x = ⟨(b.data.toList ++ [120]).toArray⟩) (hk : skipM x 0 = .inl b.size) {u : ByteArray} {P : Nat} (hu : P + b.size ≤ u.size) (he : u.extract P (P + b.size) = b) : skipM u P = skipM u (P + b.size) := by
  have hz : x.size = b.size + 1 := by
    rw [hx]
    show (b.data.toList ++ [120]).toArray.size = _
    rw [List.size_toArray, List.length_append, size_list]
    rfl
  have V : Vw x u P 0 b.size := by
    refine ⟨by omega, by omega, fun i _ hi => ?_⟩
    have h1 : byteAt (u.extract P (P + b.size)) i = byteAt u (P + i) := byteAt_ext (by omega) hu
    rw [he] at h1
    rw [Nat.add_comm i P, ← h1, byteAt_list, byteAt_list, hx]
    show ((b.data.toList.getD i 0).toNat : Int) = (((b.data.toList ++ [120]).getD i 0).toNat : Int)
    rw [List.getD_eq_getElem?_getD, List.getD_eq_getElem?_getD, List.getElem?_append_left (by rw [size_list]; exact hi)]
  have := V.skip (fun e => by omega) x.size 0 b.size (by omega) (Nat.le_refl _) (Nat.zero_le _) hk (Nat.le_refl _)
  rw [Nat.zero_add, Nat.add_comm b.size P] at this
  exact this

end Tk
end Go.Proofs.YtmfcopbffnfnfaaGreatDoor

namespace Go.Proofs.YtmfcopbffnfnfaaGreatDoor
open Go.ChangeShapes Go.WideShapes Go.ChangeAt Go.RowKit Go.WideMaps Go.Maps
namespace Tk

abbrev Spaces (w : World) : Prop := Lib.TabIs Tryz.prog w "strings.asciiSpace" .u8 Lib.asciiSpaceTab

theorem syms_below {w w' : World} (h : Syms w) (hb : Below w.heap.size w w') : Syms w' := by
  obtain ⟨t, fr, hs⟩ := h.block
  exact ⟨t, fr, (hb.block _ (Array.getElem?_eq_some_iff.1 hs).1).trans hs⟩

/-- What a scanned list holds. -/
theorem row_cell {w : World} {base g cap n : Nat} {xs : List Value} (h : w.ownsRow base 29 4 (.slice (some ⟨g, 0, none⟩) n cap) n xs) (j : Nat) (u : Value) (hj : xs[j]? = some u) : w.cell? ⟨g, j, none⟩ = some u := by
  have := (World.ownsRowF_of h).cells (g := g) rfl j u hj
  rwa [show ((⟨g, 0, none⟩ : Addr).add j) = ⟨g, j, none⟩ by simp [Addr.add]; exact fun h => h.symm] at this

set_option maxHeartbeats 2000000 in
set_option maxRecDepth 100000 in
theorem awake_any (w : World) (hspace : Spaces w) (hsy : Syms w) (hpo : Pow10 w) (hu : Utf8T w) (hml : MaxL w) :
    Calls Tryz.prog 6 #[] w fun e w' => e = .returned (.bool true) ∧ Below w.heap.size w w' := by
  have HS := Lib.hid hspace
  have HY := Lib.hid hsy
  have HP := Lib.hid hpo
  have HU := Lib.hid hu
  have HM := Lib.hid hml
  clear hspace hsy hpo hu hml
  go_enter Tryz.func6, Tryz.ntmps6
  go_wp2_with fail
  refine (scan_any w text1 toks1 (by decide) toks1_ok HS.out HY.out HP.out HU.out HM.out).mono ?_
  rintro e w1 ⟨v1, rfl, hr1, hb1⟩
  have HB1 := Lib.hid hb1
  have HR1 := Lib.hid hr1
  clear hb1 hr1
  go_wp2_with fail
  refine (scan_any w1 text2 toks2 (by decide) toks2_ok (tabIs_below HS.out HB1.out) (syms_below HY.out HB1.out) (tabIs_below HP.out HB1.out) (utf8_below HU.out HB1.out) (maxL_below HM.out HB1.out)).mono ?_
  rintro e w2 ⟨v2, rfl, hr2, hb2⟩
  obtain ⟨g1, c1, rfl⟩ := ownsRow_succ (k := 3) HR1.out
  obtain ⟨g2, c2, rfl⟩ := ownsRow_succ (k := 6) hr2
  have hg1 : g1 < w1.heap.size := (HR1.out.lt g1 rfl).2
  have hc1 : ∀ j u, (cellsOf toks1)[j]? = some u → w2.cell? ⟨g1, j, none⟩ = some u := fun j u h => (World.cell?_of_block (hb2.block g1 hg1)).trans (row_cell HR1.out j u h)
  have hc2 : ∀ j u, (cellsOf toks2)[j]? = some u → w2.cell? ⟨g2, j, none⟩ = some u := fun j u h => row_cell hr2 j u h
  have a0 := hc1 0 (.int .i64 2) rfl
  have a1 := hc1 1 (.string ⟨#[108, 101, 116]⟩) rfl
  have a2 := hc1 2 (.int .i64 0) rfl
  have a3 := hc1 3 (.bool true) rfl
  have a5 := hc1 5 (.string ⟨#[120, 39]⟩) rfl
  have a13 := hc1 13 (.string ⟨#[50, 53, 53]⟩) rfl
  have d5 := hc2 5 (.string ⟨#[46]⟩) rfl
  have d17 := hc2 17 (.string ⟨#[46, 62]⟩) rfl
  have d24 := hc2 24 (.int .i64 5) rfl
  have d25 := hc2 25 (.string ⟨#[97, 65]⟩) rfl
  have d26 := hc2 26 (.int .i64 9) rfl
  have d27 := hc2 27 (.bool false) rfl
  have HB2 := Lib.hid hb2
  clear hc1 hc2 hr2 hb2 hg1
  go_wp2_with fail
  go_ret
  exact ⟨rfl, HB1.out.trans (HB2.out.mono HB1.out.size)⟩

end Tk
end Go.Proofs.YtmfcopbffnfnfaaGreatDoor

namespace Go.Proofs.YtmfcopbffnfnfaaGreatDoor
open Go.ChangeShapes Go.WideShapes Go.ChangeAt Go.RowKit
namespace Tk

theorem cells_old {w w' : World} {b j : Nat} {v : Value} (h : w.cell? ⟨b, j, none⟩ = some v) (hb : Below w.heap.size w w') : w'.cell? ⟨b, j, none⟩ = some v :=
  (World.cell?_of_block (hb.block b (lt_cell h))).trans h

/-- The variables that the program's functions read. -/
structure LawEnv (w : World) (mm : Int) : Prop where
  sp : Spaces w
  sy : Syms w
  po : Pow10 w
  u8 : Utf8T w
  ml : w.cell? ⟨2, 0, none⟩ = some (.int .i64 mm)

theorem LawEnv.below {w w' : World} {mm : Int} (h : LawEnv w mm) (hb : Below w.heap.size w w') : LawEnv w' mm :=
  ⟨tabIs_below h.sp hb, syms_below h.sy hb, tabIs_below h.po hb, utf8_below h.u8 hb, cells_old h.ml hb⟩

theorem LawEnv.drew {w : World} {mm : Int} (h : LawEnv w mm) (n : Nat) : LawEnv (w.drewN n) mm := h.below (below_drewN _ _ _)

end Tk
end Go.Proofs.YtmfcopbffnfnfaaGreatDoor

namespace Go.Proofs.YtmfcopbffnfnfaaGreatDoor
open Go.ChangeShapes Go.WideShapes Go.ChangeAt Go.RowKit Go.WideMaps Go.Maps
namespace Tk

theorem toksA_U {s : ByteArray} (hs : s.size ≤ 20000) {p : Nat} {f : Bool} {ts : List Tok} {res : Option (Nat × Int)} (h : ToksA s p f ts res) : ToksU s p f ts res := by
  induction h with
  | last p f h => exact .last p f h
  | badSkip p f q h => exact .badSkip p f q h
  | badRead p f b code h hb hr => exact .badRead p f b code h hb (tokAt_bad hr rfl hs hb)
  | tok p f b k tx q ts res h hb hr h1 h2 hn ih => exact .tok p f b k tx q ts res h hb (tokAt_ok hr rfl hs hb).1 h1 h2 ih

/-- Every text has its tokens, by what stands there. -/
theorem toksA_ex (s : ByteArray) (hs : s.size ≤ 20000) : ∀ (n p : Nat) (f : Bool), s.size < n + p → p ≤ s.size → ∃ ts res, ToksA s p f ts res
  | 0, p, f, h, hp => by omega
  | n + 1, p, f, h, hp => by
    cases hk : skipM s p with
    | inr q => exact ⟨_, _, .badSkip p f q hk⟩
    | inl b =>
      have hr := skipM_range hp hk
      rcases Nat.lt_or_ge b s.size with hb | hb
      · obtain ⟨r, ht⟩ := tokAt_ex s b hs hb
        cases r with
        | inr code => exact ⟨_, _, .badRead p f b code hk hb ht⟩
        | inl x =>
          obtain ⟨k, tx, q⟩ := x
          obtain ⟨h1, h2, h3⟩ := tokAt_ok ht rfl hs hb
          obtain ⟨ts, res, hn⟩ := toksA_ex s hs n q false (by omega) h3
          exact ⟨_, _, .tok p f b k tx q ts res hk hb ht h2 h3 hn⟩
      · obtain rfl : b = s.size := by omega
        exact ⟨_, _, .last p f hk⟩

theorem toksA_len {s : ByteArray} {p : Nat} {f : Bool} {ts : List Tok} {res : Option (Nat × Int)} (h : ToksA s p f ts res) (hp : p ≤ s.size) : ts.length + p ≤ s.size := by
  induction h with
  | last p f h => simpa using hp
  | badSkip => simpa using hp
  | badRead => simpa using hp
  | tok p f b k tx q ts res h hb hr h1 h2 hn ih =>
    have := skipM_range hp h
    have := ih h2
    rw [List.length_cons]
    omega

/-- Scan of a text whose tokens are known. -/
theorem scan_A (w : World) (s : ByteArray) (mm : Int) (ts : List Tok) (res : Option (Nat × Int)) (hs : s.size ≤ 20000) (hT : ToksA s 0 true ts res) (hE : LawEnv w mm) :
    Calls Tryz.prog 5 #[.string s] w fun e w' =>
      ((res = none ∧ ∃ v, e = .returned (.tuple #[v, .int .i64 0, .int .i64 0]) ∧ w'.ownsRow w.heap.size 29 4 v ts.length (cellsOf ts)) ∨
        (∃ (q : Nat) (code : Int), res = some (q, code) ∧ e = .returned (.tuple #[.slice none 0 0, .int .i64 q, .int .i64 code]))) ∧ Below w.heap.size w w' :=
  scan_total w s ts res hs (toksA_U hs hT) hE.sp hE.sy hE.po hE.u8 ⟨_, hE.ml⟩

set_option maxHeartbeats 4000000 in
set_option maxRecDepth 100000 in
/-- Scan of a text that is too large. -/
theorem scan_large (w : World) (s : ByteArray) (hs : 20000 < s.size) :
    Calls Tryz.prog 5 #[.string s] w fun e w' => e = .returned (.tuple #[.slice none 0 0, .int .i64 0, .int .i64 16]) ∧ Below w.heap.size w w' := by
  have hsi : (20000 : Int) < s.size := by omega
  have hb3 : Below w.heap.size w (((w.alloc (.cells #[.slice none 0 0] 23)).alloc (.cells #[.int .i64 0] 3)).alloc (.cells #[.int .i64 0] 24)) :=
    (((Below.refl _ _).alloc (Nat.le_refl _) _).alloc (by simp) _).alloc (by simp; omega) _
  have HB := Lib.hid hb3
  clear hb3
  go_enter_defers Tryz.func5, Tryz.ntmps5
  go_wp2_with fail
  refine ⟨.tuple #[.slice none 0 0, .int .i64 0, .int .i64 16], by simp [results, Tryz.results5, go_sem], rfl, ?_⟩
  exact (((Below.refl _ _).alloc (Nat.le_refl _) _).alloc (by simp) _).alloc (by simp; omega) _

end Tk
end Go.Proofs.YtmfcopbffnfnfaaGreatDoor

namespace Go.Proofs.YtmfcopbffnfnfaaGreatDoor
open Go.ChangeShapes Go.WideShapes Go.ChangeAt Go.RowKit Go.WideMaps Go.Maps
namespace Tk

def Tok.bareT (t : Tok) : Tok := ⟨t.kind, t.text, 0, false⟩

/-- A list of tokens in memory: the cells of a block. -/
structure TokMem (w : World) (ao : Option Addr) (g : Nat) (ts : List Tok) : Prop where
  at0 : 0 < ts.length → ao = some ⟨g, 0, none⟩
  cells : ∀ j u, (cellsOf ts)[j]? = some u → w.cell? ⟨g, j, none⟩ = some u

theorem cellsOf_at (ts : List Tok) : ∀ (k : Nat) (h : k < ts.length) (j : Nat) (hj : j < 4), (cellsOf ts)[4 * k + j]? = (ts[k]'h).cells[j]? := by
  induction ts with
  | nil => intro k h; exact absurd h (by simp)
  | cons t r ih =>
    intro k h j hj
    have e : cellsOf (t :: r) = t.cells ++ cellsOf r := by simp [cellsOf]
    have l4 : t.cells.length = 4 := rfl
    cases k with
    | zero =>
      rw [e, List.getElem?_append_left (by omega), Nat.mul_zero, Nat.zero_add]
      rfl
    | succ k =>
      rw [e, List.getElem?_append_right (by omega), l4, show 4 * (k + 1) + j - 4 = 4 * k + j by omega]
      exact ih k (by simpa using h) j hj

theorem TokMem.cell {w : World} {ao : Option Addr} {g : Nat} {ts : List Tok} (h : TokMem w ao g ts) (k : Nat) (hk : k < ts.length) (j : Nat) (hj : j < 4) {u : Value} (hu : (ts[k]'hk).cells[j]? = some u) : w.cell? ⟨g, k * 4 + j, none⟩ = some u := by
  rw [Nat.mul_comm k 4]
  exact h.cells _ _ ((cellsOf_at ts k hk j hj).trans hu)

theorem TokMem.below {w w' : World} {ao : Option Addr} {g : Nat} {ts : List Tok} (h : TokMem w ao g ts) (hb : Below w.heap.size w w') : TokMem w' ao g ts :=
  ⟨h.at0, fun j u hj => (World.cell?_of_block (hb.block g (lt_cell (h.cells j u hj)))).trans (h.cells j u hj)⟩

theorem TokMem.take {w : World} {ao : Option Addr} {g : Nat} {ts : List Tok} (h : TokMem w ao g ts) (k : Nat) (h0 : 0 < ts.length) : TokMem w ao g (ts.take k) := by
  refine ⟨fun _ => h.at0 h0, fun j u hj => h.cells j u ?_⟩
  have e : cellsOf ts = cellsOf (ts.take k) ++ cellsOf (ts.drop k) := by
    unfold cellsOf
    rw [← List.flatMap_append, List.take_append_drop]
  rw [e]
  have hlt : j < (cellsOf (ts.take k)).length := (List.getElem?_eq_some_iff.1 hj).1
  rw [List.getElem?_append_left hlt]
  exact hj

set_option maxHeartbeats 4000000 in
set_option maxRecDepth 100000 in
theorem bare_any (w : World) (ao : Option Addr) (g cap : Nat) (ts : List Tok) (hM : TokMem w ao g ts) (hn : ts.length ≤ 20000) :
    Calls Tryz.prog 13 #[.slice ao ts.length cap] w fun e w' => ∃ v, e = .returned v ∧ w'.ownsRow w.heap.size 29 4 v ts.length (cellsOf (ts.map Tok.bareT)) ∧ Below w.heap.size w w' := by
  have HM := Lib.hid hM
  clear hM
  obtain ⟨N, hN⟩ : ∃ N, N = ts.length := ⟨_, rfl⟩
  have HN := Lib.hid hN
  rw [← hN] at hn ⊢
  clear hN
  go_enter Tryz.func13, Tryz.ntmps13
  go_wp2_with fail
  go_loopw [3, 8] (fun out iv wr => ∃ (k cp : Nat) (bo : Option Addr), k ≤ N ∧ iv = .int .i64 k ∧ out = .slice bo k cp ∧ wr.ownsRow w.heap.size 29 4 (.slice bo k cp) k (cellsOf ((ts.take k).map Tok.bareT)) ∧ Below w.heap.size w wr) (fun _ iv _ => N - (intOf iv).toNat)
  case atStart => exact ⟨0, 0, none, Nat.zero_le _, rfl, rfl, World.ownsRow_nil _ _ _ _, Below.refl _ _⟩
  case round =>
    obtain ⟨k, cp, bo, hk, rfl, rfl, hrow, hb⟩ := hrel
    have HR := Lib.hid hrow
    have HB := Lib.hid hb
    clear hrow hb
    by_cases hlt : k < N
    · have i1 : (k : Int) < N := by omega
      have hkl : k < ts.length := by rw [← HN.out]; exact hlt
      have i2 : IntKind.i64.wrap ((k : Int) + 1) = (k : Int) + 1 := IntWalk.i64_in _ (by omega)
      have HMr : TokMem wr ao g ts := HM.out.below HB.out
      obtain rfl : ao = some ⟨g, 0, none⟩ := HMr.at0 (by omega)
      obtain ⟨t, ht⟩ : ∃ t, t = ts[k]'hkl := ⟨_, rfl⟩
      have a0 : wr.cell? ⟨g, k * 4, none⟩ = some (.int .i64 t.kind) := HMr.cell k hkl 0 (by decide) (u := .int .i64 t.kind) (by rw [ht]; rfl)
      have a1 := HMr.cell k hkl 1 (by decide) (u := .string t.text) (by rw [ht]; rfl)
      have a2 := HMr.cell k hkl 2 (by decide) (u := .int .i64 t.pos) (by rw [ht]; rfl)
      have a3 := HMr.cell k hkl 3 (by decide) (u := .bool t.line) (by rw [ht]; rfl)
      obtain ⟨i0, hi, hz0, hz1, hz2⟩ := info_parts infoTok
      have HT := Lib.hid ht
      clear HMr ht
      have HB2 : Hid (Below w.heap.size w ((wr.alloc (.cells #[.int .i64 t.kind, .string t.text, .int .i64 t.pos, .bool t.line] 29)).alloc (.cells #[.int .i64 t.kind, .string t.text, .int .i64 0, .bool false] 29))) := by
        have hz := HB.out.size
        exact (HB.out.alloc hz _).alloc (by simp; omega) _
      go_wp2_with (at_builtin; refine wpList_append_own _ rfl _ _ 23 rfl w.heap.size 29 i0 zeroTok 4 40 Tryz.underlying23 hi hz0 hz1 hz2 rfl (by decide) _ _ _ rfl ((HR.out.alloc _).alloc _) ⟨wr.heap.size + 1, 0, none⟩ 1 1 [.int .i64 t.kind, .string t.text, .int .i64 0, .bool false] rfl rfl (new_cells wr _ _ _) (by intro u hu; simp at hu; rcases hu with rfl | rfl | rfl | rfl <;> rfl) (by unfold maxLen; omega) (by omega) (by have := HB.out.size; simp; omega) ?_)
      intro v' w5 hown' hgrow _
      obtain ⟨g', cap', rfl⟩ := ownsRow_succ hown'
      have HO := Lib.hid hown'
      have HGr := Lib.hid hgrow
      clear hown' hgrow
      go_wp2_with fail
      have e1 : (ts.take (k + 1)).map Tok.bareT = (ts.take k).map Tok.bareT ++ [Tok.bareT t] := by
        rw [List.take_add_one, List.getElem?_eq_getElem hkl, List.map_append, HT.out]
        rfl
      refine ⟨⟨k + 1, cap', _, by omega, by go_num, rfl, ?_, HB2.out.grown HGr.out ?_ ?_⟩, ?_⟩
      · rw [e1, cellsOf_snoc, List.map_take]
        exact HO.out
      · simp
        have := HB.out.size
        omega
      · intro r hr
        have := (HR.out.lt r hr).1
        omega
      · simp [intOf]
        omega
    · obtain rfl : k = N := by omega
      have i1 : ¬ (k : Int) < k := by omega
      have e1 : (ts.take k).map Tok.bareT = ts.map Tok.bareT := by rw [HN.out, List.take_length]
      have HE := Lib.hid e1
      clear e1
      go_wp2_with fail
      go_ret
      refine ⟨_, rfl, ?_, HB.out⟩
      rw [← HE.out]
      exact HR.out

end Tk
end Go.Proofs.YtmfcopbffnfnfaaGreatDoor

namespace Go.Proofs.YtmfcopbffnfnfaaGreatDoor
open Go.ChangeShapes Go.WideShapes Go.ChangeAt Go.RowKit Go.WideMaps Go.Maps
namespace Tk

/-- A row of tokens that a call owns is a list in memory. -/
theorem row_mem {w : World} {base : Nat} {v : Value} {ts : List Tok} (h : w.ownsRow base 29 4 v ts.length (cellsOf ts)) : ∃ ao cap g, v = .slice ao ts.length cap ∧ TokMem w ao g ts ∧ ts.length ≤ cap := by
  cases ts with
  | nil =>
    rcases h.2 with ⟨h1, h2⟩ | ⟨g, cap, cur, h1, _⟩
    · exact ⟨none, 0, 0, h1, ⟨fun h => (by cases h), fun j u hj => (by cases hj)⟩, Nat.le_refl _⟩
    · exact ⟨_, cap, 0, h1, ⟨fun h => (by cases h), fun j u hj => (by cases hj)⟩, Nat.zero_le _⟩
  | cons t r =>
    rcases h.2 with ⟨h1, h2⟩ | ⟨g, cap, cur, rfl, hg⟩
    · cases h2
    · exact ⟨_, cap, g, rfl, ⟨fun _ => rfl, fun j u hj => row_cell h j u hj⟩, hg.2.2.1⟩

set_option maxHeartbeats 4000000 in
set_option maxRecDepth 100000 in
theorem same_any (w : World) (ao bo : Option Addr) (g g2 cap cap2 : Nat) (ts us : List Tok) (hM : TokMem w ao g ts) (hM2 : TokMem w bo g2 us) (heq : us.map Tok.bareT = ts.map Tok.bareT) (hn : ts.length ≤ 20000) :
    Calls Tryz.prog 7 #[.slice ao ts.length cap, .slice bo us.length cap2] w fun e w' => e = .returned (.bool true) ∧ Below w.heap.size w w' := by
  have hlen : us.length = ts.length := by
    have := congrArg List.length heq
    rwa [List.length_map, List.length_map] at this
  have HM := Lib.hid hM
  have HM2 := Lib.hid hM2
  have HEq := Lib.hid heq
  have HL := Lib.hid hlen
  clear hM hM2 heq hlen
  go_enter Tryz.func7, Tryz.ntmps7
  go_wp2_with fail
  refine (bare_any w ao g cap ts HM.out hn).mono ?_
  rintro e w1 ⟨v1, rfl, hr1, hb1⟩
  have HR1 := Lib.hid hr1
  have HB1 := Lib.hid hb1
  have hn2 : us.length ≤ 20000 := by rw [HL.out]; exact hn
  clear hr1 hb1
  go_wp2_with fail
  refine (bare_any w1 bo g2 cap2 us (HM2.out.below HB1.out) hn2).mono ?_
  rintro e w2 ⟨v2, rfl, hr2, hb2⟩
  have l1 : (ts.map Tok.bareT).length = ts.length := List.length_map _
  obtain ⟨xs, hxs⟩ : ∃ xs, xs = ts.map Tok.bareT := ⟨_, rfl⟩
  rw [HEq.out, HL.out, ← hxs, ← l1, ← hxs] at hr2
  have hr1 := HR1.out
  rw [← hxs, ← l1, ← hxs] at hr1
  obtain ⟨a1, c1, g1, rfl, m1, _⟩ := row_mem hr1
  obtain ⟨a2, c2, g3, rfl, m2, _⟩ := row_mem hr2
  have hxn : xs.length ≤ 20000 := by rw [hxs, l1]; exact hn
  have HM1 : Hid (TokMem w2 a1 g1 xs) := m1.below hb2
  have HMB : Hid (TokMem w2 a2 g3 xs) := m2
  have HB2 : Hid (Below w.heap.size w w2) := HB1.out.trans (hb2.mono HB1.out.size)
  clear hr1 hr2 m1 m2 hb2 hxs l1 HR1 HEq HL HM HM2 HB1 hn hn2
  obtain ⟨N, hN⟩ : ∃ N, N = xs.length := ⟨_, rfl⟩
  have HN := Lib.hid hN
  rw [← hN] at hxn ⊢
  clear hN
  go_wp2_with fail
  go_loopw [19] (fun iv wr => ∃ k : Nat, k ≤ N ∧ iv = .int .i64 k ∧ ∃ q, wr = w2.drewN q) (fun iv _ => N - (intOf iv).toNat)
  case atStart => exact ⟨0, Nat.zero_le _, rfl, 0, rfl⟩
  case round =>
    obtain ⟨k, hk, rfl, q, hq⟩ := hrel
    by_cases hlt : k < N
    · have i1 : (k : Int) < N := by omega
      have hkl : k < xs.length := by rw [← HN.out]; exact hlt
      have i2 : IntKind.i64.wrap ((k : Int) + 1) = (k : Int) + 1 := IntWalk.i64_in _ (by omega)
      have HQ := Lib.hid hq
      have hM1 : TokMem wr a1 g1 xs := by rw [hq]; exact ⟨HM1.out.at0, HM1.out.cells⟩
      have hM2 : TokMem wr a2 g3 xs := by rw [hq]; exact ⟨HMB.out.at0, HMB.out.cells⟩
      clear hq
      obtain rfl : a1 = some ⟨g1, 0, none⟩ := hM1.at0 (by omega)
      obtain rfl : a2 = some ⟨g3, 0, none⟩ := hM2.at0 (by omega)
      obtain ⟨t, ht⟩ : ∃ t, t = xs[k]'hkl := ⟨_, rfl⟩
      have a0 : wr.cell? ⟨g1, k * 4, none⟩ = some (.int .i64 t.kind) := hM1.cell k hkl 0 (by decide) (u := .int .i64 t.kind) (by rw [ht]; rfl)
      have a1 := hM1.cell k hkl 1 (by decide) (u := .string t.text) (by rw [ht]; rfl)
      have a2 := hM1.cell k hkl 2 (by decide) (u := .int .i64 t.pos) (by rw [ht]; rfl)
      have a3 := hM1.cell k hkl 3 (by decide) (u := .bool t.line) (by rw [ht]; rfl)
      have b0 : wr.cell? ⟨g3, k * 4, none⟩ = some (.int .i64 t.kind) := hM2.cell k hkl 0 (by decide) (u := .int .i64 t.kind) (by rw [ht]; rfl)
      have b1 := hM2.cell k hkl 1 (by decide) (u := .string t.text) (by rw [ht]; rfl)
      have b2 := hM2.cell k hkl 2 (by decide) (u := .int .i64 t.pos) (by rw [ht]; rfl)
      have b3 := hM2.cell k hkl 3 (by decide) (u := .bool t.line) (by rw [ht]; rfl)
      clear hM1 hM2 ht
      go_wp2_with fail
      go_quiet (fail)
      go_wp2_with fail
      refine ⟨⟨k + 1, by omega, by go_num, ?_⟩, by simp [intOf]; omega⟩
      rw [HQ.out]
      exact ⟨q + nq, by simp⟩
    · obtain rfl : k = N := by omega
      have i1 : ¬ (k : Int) < k := by omega
      have HQ := Lib.hid hq
      clear hq
      go_wp2_with fail
      go_ret
      refine ⟨rfl, ?_⟩
      rw [HQ.out]
      exact HB2.out.trans (below_drewN _ _ _)

end Tk
end Go.Proofs.YtmfcopbffnfnfaaGreatDoor

namespace Go.Proofs.YtmfcopbffnfnfaaGreatDoor
open Go.ChangeShapes Go.WideShapes Go.ChangeAt Go.RowKit Go.WideMaps Go.Maps
namespace Tk

set_option maxHeartbeats 4000000 in
set_option maxRecDepth 100000 in
theorem places_big (s : ByteArray) (n : Int) (w : World) (mm : Int) (hs : 500 < s.size) (hE : LawEnv w mm)
    (hS : Calls Tryz.prog 5 #[.string s] w fun e w' => (∃ v a c, e = .returned (.tuple #[v, .int .i64 a, .int .i64 c])) ∧ Below w.heap.size w w') :
    Calls Tryz.prog 3 #[.string s, .int .u16 n] w fun e w' => e = .returned (.bool true) ∧ Below w.heap.size w w' := by
  have l1 : (500 : Int) < s.size := by omega
  have HE := Lib.hid hE
  have HS := Lib.hid hS
  clear hE hS
  go_enter Tryz.func3, Tryz.ntmps3
  go_wp2_with fail
  refine HS.out.mono ?_
  rintro e w1 ⟨⟨v, a, c, rfl⟩, hb1⟩
  have HE1 := Lib.hid (HE.out.below hb1)
  have HB1 := Lib.hid hb1
  clear hb1
  go_wp2_with fail
  refine (awake_any _ HE1.out.sp HE1.out.sy HE1.out.po HE1.out.u8 ⟨_, HE1.out.ml⟩).mono ?_
  rintro e w2 ⟨rfl, hb2⟩
  go_wp2_with fail
  go_ret
  exact ⟨rfl, HB1.out.trans (hb2.mono HB1.out.size)⟩

set_option maxHeartbeats 4000000 in
set_option maxRecDepth 100000 in
theorem places_err (s : ByteArray) (n : Int) (w : World) (mm : Int) (q : Nat) (code : Int) (hs : s.size ≤ 500) (hq : q < s.size) (hc : 30 ≤ code) (hE : LawEnv w mm)
    (hS : Calls Tryz.prog 5 #[.string s] w fun e w' => e = .returned (.tuple #[.slice none 0 0, .int .i64 q, .int .i64 code]) ∧ Below w.heap.size w w') :
    Calls Tryz.prog 3 #[.string s, .int .u16 n] w fun e w' => e = .returned (.bool true) ∧ Below w.heap.size w w' := by
  have l1 : ¬ (500 : Int) < s.size := by omega
  have l2 : (code == 0) = false := by simp; omega
  have l2' : (code != 0) = true := by simp; omega
  have l3 : (0 : Int) ≤ q := by omega
  have l4 : (q : Int) < s.size := by omega
  have HE := Lib.hid hE
  have HS := Lib.hid hS
  clear hE hS hc hq hs
  go_enter Tryz.func3, Tryz.ntmps3
  go_wp2_with fail
  refine HS.out.mono ?_
  rintro e w1 ⟨rfl, hb1⟩
  have HE1 := Lib.hid (HE.out.below hb1)
  have HB1 := Lib.hid hb1
  clear hb1
  go_wp2_with fail
  refine (awake_any _ HE1.out.sp HE1.out.sy HE1.out.po HE1.out.u8 ⟨_, HE1.out.ml⟩).mono ?_
  rintro e w2 ⟨rfl, hb2⟩
  go_wp2_with fail
  go_ret
  exact ⟨rfl, HB1.out.trans (hb2.mono HB1.out.size)⟩

set_option maxHeartbeats 4000000 in
set_option maxRecDepth 100000 in
theorem places_none (s : ByteArray) (n : Int) (w : World) (mm : Int) (hs : s.size ≤ 500) (hE : LawEnv w mm)
    (hS : Calls Tryz.prog 5 #[.string s] w fun e w' => (∃ ao cap, e = .returned (.tuple #[.slice ao 0 cap, .int .i64 0, .int .i64 0])) ∧ Below w.heap.size w w') :
    Calls Tryz.prog 3 #[.string s, .int .u16 n] w fun e w' => e = .returned (.bool true) ∧ Below w.heap.size w w' := by
  have l1 : ¬ (500 : Int) < s.size := by omega
  have HE := Lib.hid hE
  have HS := Lib.hid hS
  clear hE hS hs
  go_enter Tryz.func3, Tryz.ntmps3
  go_wp2_with fail
  refine HS.out.mono ?_
  rintro e w1 ⟨⟨ao, cap, rfl⟩, hb1⟩
  have HE1 := Lib.hid (HE.out.below hb1)
  have HB1 := Lib.hid hb1
  clear hb1
  go_wp2_with fail
  go_loopw [43] (fun iv wr => iv = .int .i64 0 ∧ wr = w1) (fun _ _ => 0)
  case atStart => exact ⟨rfl, rfl⟩
  case round =>
    obtain ⟨rfl, rfl⟩ := hrel
    go_wp2_with fail
    refine (awake_any _ HE1.out.sp HE1.out.sy HE1.out.po HE1.out.u8 ⟨_, HE1.out.ml⟩).mono ?_
    rintro e w2 ⟨rfl, hb2⟩
    go_wp2_with fail
    go_ret
    exact ⟨rfl, HB1.out.trans (hb2.mono HB1.out.size)⟩

set_option maxHeartbeats 600000 in
set_option maxRecDepth 100000 in
theorem places_some (s : ByteArray) (n : Int) (w : World) (mm : Int) (ts : List Tok) (kk : Nat) (hn0 : 0 ≤ n) (hn1 : n < 65536) (hs : s.size ≤ 500) (hE : LawEnv w mm) (hlen : ts.length ≤ 500) (h1 : 0 < ts.length)
    (hpos : ∀ (k : Nat) (h : k < ts.length), (ts[k]'h).pos < s.size) (hasc : ∀ (k : Nat) (h : k + 1 < ts.length), (ts[k]'(by omega)).pos < (ts[k + 1]'h).pos)
    (hkk : n.toNat % ts.length = kk) (hkl : kk < ts.length)
    (hS : Calls Tryz.prog 5 #[.string s] w fun e w' => (∃ v, e = .returned (.tuple #[v, .int .i64 0, .int .i64 0]) ∧ w'.ownsRow w.heap.size 29 4 v ts.length (cellsOf ts)) ∧ Below w.heap.size w w')
    (hS2 : ∀ w, LawEnv w mm → Calls Tryz.prog 5 #[.string (s.extract 0 (ts[kk]'hkl).pos)] w fun e w' => (∃ v, e = .returned (.tuple #[v, .int .i64 0, .int .i64 0]) ∧ w'.ownsRow w.heap.size 29 4 v (ts.take kk).length (cellsOf (ts.take kk))) ∧ Below w.heap.size w w') :
    Calls Tryz.prog 3 #[.string s, .int .u16 n] w fun e w' => e = .returned (.bool true) ∧ Below w.heap.size w w' := by
  have l1 : ¬ (500 : Int) < s.size := by omega
  have HE := Lib.hid hE
  have HS := Lib.hid hS
  have HS2 := Lib.hid hS2
  have HPos := Lib.hid hpos
  have HAsc := Lib.hid hasc
  have hsz : s.size ≤ 500 := hs
  clear hE hS hS2 hpos hasc hs
  go_enter Tryz.func3, Tryz.ntmps3
  go_wp2_with fail
  refine HS.out.mono ?_
  rintro e w1 ⟨⟨v, rfl, hr1⟩, hb1⟩
  obtain ⟨ao, cap, g, rfl, hm1, hcap⟩ := row_mem hr1
  obtain rfl : ao = some ⟨g, 0, none⟩ := hm1.at0 h1
  have HE1 := Lib.hid (HE.out.below hb1)
  have HB1 := Lib.hid hb1
  have HM1 := Lib.hid hm1
  clear hb1 hr1 hm1
  obtain ⟨N, hN⟩ : ∃ N, N = ts.length := ⟨_, rfl⟩
  have HN := Lib.hid hN
  rw [← hN] at hlen h1 hcap ⊢
  have hkN : kk < N := by omega
  have hkk' : n.toNat % N = kk := by rw [hN]; exact hkk
  have HKK := Lib.hid hkk'
  clear hN hkk hkk'
  have nz : ¬ (N : Int) = 0 := by omega
  have nz' : ((N : Int) == 0) = false := by simp; omega
  go_wp2_with fail
  go_loopw [43] (fun iv wr => ∃ k : Nat, k ≤ N ∧ iv = .int .i64 k ∧ ∃ q, wr = w1.drewN q) (fun iv _ => N - (intOf iv).toNat)
  case atStart => exact ⟨0, Nat.zero_le _, rfl, 0, rfl⟩
  case round =>
    obtain ⟨k, hk, rfl, q, hq⟩ := hrel
    have hMr : TokMem wr (some ⟨g, 0, none⟩) g ts := by rw [hq]; exact ⟨HM1.out.at0, HM1.out.cells⟩
    have HQ := Lib.hid hq
    clear hq
    by_cases hlt : k < N
    · have hkl' : k < ts.length := by rw [← HN.out]; exact hlt
      have hp := HPos.out k hkl'
      obtain ⟨P, hP⟩ : ∃ P, P = (ts[k]'hkl').pos := ⟨_, rfl⟩
      rw [← hP] at hp
      have a2 : wr.cell? ⟨g, k * 4 + 2, none⟩ = some (.int .i64 P) := hMr.cell k hkl' 2 (by decide) (u := .int .i64 P) (by rw [hP]; rfl)
      have z1 : decide ((P : Int) < 0) = false := decide_eq_false (by omega)
      have z2 : decide ((s.size : Int) ≤ P) = false := decide_eq_false (by omega)
      have z2n : decide (s.size ≤ P) = false := decide_eq_false (by omega)
      have z2m : (P : Int) < s.size := by omega
      have z1' : ¬ (P : Int) < 0 := by omega
      have z2' : ¬ (s.size : Int) ≤ P := by omega
      have i1 : (k : Int) < N := by omega
      have i2 : IntKind.i64.wrap ((k : Int) + 1) = (k : Int) + 1 := IntWalk.i64_in _ (by omega)
      by_cases hk0 : k = 0
      · have z3 : decide ((0 : Int) < k) = false := decide_eq_false (by omega)
        have z3n : decide (0 < k) = false := decide_eq_false (by omega)
        clear hP hMr hk0 HPos HAsc HM1 HS HS2 HKK HN hp z1' z2'
        go_wp2_with fail
        go_quiet (fail)
        go_wp2_with fail
        exact ⟨⟨k + 1, by omega, by go_num, q + nq, by rw [HQ.out]; simp⟩, by simp [intOf]; omega⟩
      · have hj := HAsc.out (k - 1) (by omega)
        have z3 : decide ((0 : Int) < k) = true := decide_eq_true (by omega)
        obtain ⟨P0, hP0⟩ : ∃ P0, P0 = (ts[k - 1]'(by omega)).pos := ⟨_, rfl⟩
        have hj2 : P0 < P := by
          rw [hP0, hP]
          have e : ts[k - 1 + 1]'(by omega) = ts[k]'hkl' := by congr 1; omega
          rw [← e]
          exact hj
        have b2 : wr.cell? ⟨g, (k - 1) * 4 + 2, none⟩ = some (.int .i64 P0) := hMr.cell (k - 1) (by omega) 2 (by decide) (u := .int .i64 P0) (by rw [hP0]; rfl)
        have z4 : decide ((P : Int) ≤ P0) = false := decide_eq_false (by omega)
        have y1 : (1 : Int) ≤ k := by omega
        have y2 : (k : Int) - 1 < N := by omega
        have y3 : IntKind.i64.wrap ((k : Int) - 1) = (k : Int) - 1 := IntWalk.i64_in _ (by omega)
        have y4 : ((k : Int) - 1).toNat = k - 1 := by omega
        have z3n : decide (0 < k) = true := decide_eq_true (by omega)
        have z4n : decide (P ≤ P0) = false := decide_eq_false (by omega)
        clear hMr hj hj2 HPos HAsc HM1 HS HS2 HKK HN hp z1' z2' hP hP0
        go_wp2_with fail
        go_quiet (fail)
        go_wp2_with fail
        exact ⟨⟨k + 1, by omega, by go_num, q + nq, by rw [HQ.out]; simp⟩, by simp [intOf]; omega⟩
    · obtain rfl : k = N := by omega
      have i1 : ¬ (k : Int) < k := by omega
      have hnk : n % (k : Int) = kk := by
        have e := Int.toNat_of_nonneg hn0
        rw [← HKK.out, Int.natCast_emod, e]
      have r0 : (0 : Int) ≤ kk := by omega
      have r1 : (kk : Int) < k := by omega
      have hp := HPos.out kk hkl
      have HT2 := HS2.out
      obtain ⟨P, hP⟩ : ∃ P, P = (ts[kk]'hkl).pos := ⟨_, rfl⟩
      rw [← hP] at hp HT2
      have HS3 := Lib.hid HT2
      have a2 : wr.cell? ⟨g, kk * 4 + 2, none⟩ = some (.int .i64 P) := hMr.cell kk hkl 2 (by decide) (u := .int .i64 P) (by rw [hP]; rfl)
      have p0 : (0 : Int) ≤ P := by omega
      have p1 : (P : Int) ≤ s.size := by omega
      have r2 : (kk : Int) ≤ cap := by omega
      have HEr : Hid (LawEnv wr mm) := by rw [HQ.out]; exact HE1.out.drew q
      have HBr : Hid (Below w.heap.size w wr) := by rw [HQ.out]; exact HB1.out.trans (below_drewN _ _ _)
      have HMk : Hid (TokMem wr (some ⟨g, 0, none⟩) g (ts.take kk)) := hMr.take kk (by omega)
      have hlk : (ts.take kk).length = kk := by rw [List.length_take]; omega
      have HLk := Lib.hid hlk
      clear hP HS2 HT2 hp HPos HAsc HM1 HS hMr hlk
      go_wp2_with fail
      refine (HS3.out wr HEr.out).mono ?_
      rintro e w2 ⟨⟨v2, rfl, hr2⟩, hb2⟩
      obtain ⟨ao2, cap2, g2, hv2, hm2, _⟩ := row_mem hr2
      rw [HLk.out] at hv2
      subst hv2
      have hsame := same_any w2 ao2 (some ⟨g, 0, none⟩) g2 g cap2 cap (ts.take kk) (ts.take kk) hm2 (HMk.out.below hb2) rfl (by rw [HLk.out]; omega)
      rw [HLk.out] at hsame
      have HSame := Lib.hid hsame
      have HB2 : Hid (Below w.heap.size w w2) := HBr.out.trans (hb2.mono HBr.out.size)
      have HE2 := Lib.hid (HEr.out.below hb2)
      clear hr2 hb2 hm2 hsame
      go_wp2_with fail
      refine HSame.out.mono ?_
      rintro e w3 ⟨rfl, hb3⟩
      have HB3 : Hid (Below w.heap.size w w3) := HB2.out.trans (hb3.mono HB2.out.size)
      have HE3 := Lib.hid (HE2.out.below hb3)
      clear hb3
      go_wp2_with fail
      refine (awake_any _ HE3.out.sp HE3.out.sy HE3.out.po HE3.out.u8 ⟨_, HE3.out.ml⟩).mono ?_
      rintro e w4 ⟨rfl, hb4⟩
      go_wp2_with fail
      go_ret
      exact ⟨rfl, HB3.out.trans (hb4.mono HB3.out.size)⟩

end Tk
end Go.Proofs.YtmfcopbffnfnfaaGreatDoor

namespace Go.Proofs.YtmfcopbffnfnfaaGreatDoor
open Go.ChangeShapes Go.WideShapes Go.ChangeAt Go.RowKit Go.WideMaps Go.Maps
namespace Tk

theorem places_any (s : ByteArray) (n : Int) (hn0 : 0 ≤ n) (hn1 : n < 65536) (w : World) (mm : Int) (hE : LawEnv w mm) :
    Calls Tryz.prog 3 #[.string s, .int .u16 n] w fun e w' => e = .returned (.bool true) ∧ Below w.heap.size w w' := by
  rcases Nat.lt_or_ge 20000 s.size with hl | hs
  · refine places_big s n w mm (by omega) hE ((scan_large w s hl).mono ?_)
    rintro e w' ⟨rfl, hb⟩
    exact ⟨⟨_, _, _, rfl⟩, hb⟩
  · obtain ⟨ts, res, hT⟩ := toksA_ex s hs (s.size + 1) 0 true (by omega) (Nat.zero_le _)
    have hS := scan_A w s mm ts res hs hT hE
    rcases Nat.lt_or_ge 500 s.size with h5 | h5
    · refine places_big s n w mm h5 hE (hS.mono ?_)
      rintro e w' ⟨⟨_, v, rfl, _⟩ | ⟨q, code, _, rfl⟩, hb⟩
      · exact ⟨⟨_, _, _, rfl⟩, hb⟩
      · exact ⟨⟨_, _, _, rfl⟩, hb⟩
    · cases res with
      | some x =>
        obtain ⟨q, code⟩ := x
        obtain ⟨_, hq, hc, _⟩ := toksA_err hT (Nat.zero_le _) q code rfl
        refine places_err s n w mm q code h5 hq hc hE (hS.mono ?_)
        rintro e w' ⟨⟨h, _⟩ | ⟨q', code', h, rfl⟩, hb⟩
        · cases h
        · cases h
          exact ⟨rfl, hb⟩
      | none =>
        obtain ⟨hp1, hp2⟩ := toksA_pos hT (Nat.zero_le _)
        have hlen := toksA_len hT (Nat.zero_le _)
        by_cases h0 : ts.length = 0
        · refine places_none s n w mm h5 hE (hS.mono ?_)
          rintro e w' ⟨⟨_, v, rfl, hr⟩ | ⟨q, code, h, _⟩, hb⟩
          · obtain ⟨ao, cap, g, rfl, _, _⟩ := row_mem hr
            rw [h0]
            exact ⟨⟨ao, cap, rfl⟩, hb⟩
          · cases h
        · have hkl : n.toNat % ts.length < ts.length := Nat.mod_lt _ (by omega)
          refine places_some s n w mm ts _ hn0 hn1 h5 hE (by omega) (by omega) (fun k h => (hp1 _ (List.getElem_mem h)).2) (fun k h => ?_) rfl hkl (hS.mono ?_) (fun w2 hE2 => ?_)
          · exact List.pairwise_iff_getElem.1 hp2 k (k + 1) (by omega) h (by omega)
          · rintro e w' ⟨⟨_, v, rfl, hr⟩ | ⟨q, code, h, _⟩, hb⟩
            · exact ⟨⟨v, rfl, hr⟩, hb⟩
            · cases h
          · have hcut := toksA_cut hT rfl (Nat.zero_le _) _ hkl
            have hz : (s.extract 0 (ts[n.toNat % ts.length]'hkl).pos).size ≤ 20000 := by rw [ByteArray.size_extract]; omega
            refine (scan_A w2 _ mm _ none hz hcut hE2).mono ?_
            rintro e w' ⟨⟨_, v, rfl, hr⟩ | ⟨q, code, h, _⟩, hb⟩
            · exact ⟨⟨v, rfl, hr⟩, hb⟩
            · cases h

end Tk
end Go.Proofs.YtmfcopbffnfnfaaGreatDoor

namespace Go.Proofs.YtmfcopbffnfnfaaGreatDoor
open Go.ChangeShapes Go.WideShapes Go.ChangeAt Go.RowKit
namespace Tk

theorem tabIs_of {P : Program} {w : World} {name : String} {k : IntKind} {zs : List Int} {g t e n : Nat} (hg : P.globalNamed name = some g) (hty : (P.globals[g]?).map (·.type) = some t)
    (ht : P.underlying t = some (.array n e)) (he : P.underlying e = some (.int k)) (hce : P.cellsOf e = 1) (hct : P.cellsOf t = n) (h : Lib.VarReads P w name (Lib.tabData k zs)) : Lib.TabIs P w name k zs := by
  obtain ⟨g', t', cs, fuel, p, h1, h2, h3, h4⟩ := h
  obtain rfl := Option.some.inj (hg.symm.trans h1)
  obtain rfl := Option.some.inj (hty.symm.trans h2)
  unfold Lib.TabIs
  rw [h3, ← Lib.cells_of_tab ht he hce hct h4]

theorem symData_eq : (Rows.laid_hackamore_token_symbols : DataW Unit) = .agg (symL.map fun l => .lit (.string l)) := by kernel_rfl

theorem syms_of {w : World} (h : Lib.VarReads Tryz.prog w "hackamore/token.symbols" Rows.laid_hackamore_token_symbols) : Syms w := by
  obtain ⟨g, t, cs, fuel, p, h1, h2, h3, h4⟩ := h
  have hg : Tryz.prog.globalNamed "hackamore/token.symbols" = some 1 := by kernel_rfl
  have hty : (Tryz.prog.globals[1]?).map (·.type) = some 76 := by kernel_rfl
  obtain rfl := Option.some.inj (hg.symm.trans h1)
  obtain rfl := Option.some.inj (hty.symm.trans h2)
  rw [symData_eq] at h4
  obtain ⟨xs, k, rfl, hx, hlen, hn, hel⟩ := DataW.trod_array Tryz.underlying76 h4
  have c9 : Tryz.prog.cellsOf 9 = 1 := by kernel_rfl
  have c50 : Tryz.prog.cellsOf 76 = 43 := by kernel_rfl
  rw [c9] at hel
  rw [c50] at hlen
  simp only [Prod.mk.injEq, DataW.agg.injEq] at hx
  have key : ∀ i, i < 43 → cs[i]? = symCells[i]? := fun i hi => by
    obtain ⟨y, hy⟩ : ∃ y, xs[i]? = some y := ⟨xs[i], by simp [hn, hi]⟩
    have h5 := hel i hi
    rw [hy] at h5
    obtain ⟨s, hs, hys, _⟩ := DataW.trod_string Tryz.underlying9 h5
    have h6 : (xs.map (·.1))[i]? = some y.1 := by simp [hy]
    rw [← hx.1, hys] at h6
    have h7 : cs[i]? = some (.string s) := by
      have := congrArg (·[0]?) hs
      simpa [List.getElem?_take, List.getElem?_drop] using this
    have h8 : symL[i]? = some s.data.toList := by
      simp only [List.getElem?_map, Option.map_eq_some_iff] at h6
      obtain ⟨l, hl, he⟩ := h6
      simp only [DataW.lit.injEq, Lit.string.injEq] at he
      rw [hl, he]
    rw [h7]
    unfold symCells symB
    rw [← Array.getElem?_toList]
    simp only [List.getElem?_map, h8, Option.map_some]
  have hcs : cs = symCells := by
    have hsz : symCells.size = 43 := by kernel_rfl
    apply Array.ext_getElem?
    intro i
    by_cases hi : i < 43
    · exact key i hi
    · rw [Array.getElem?_eq_none (by rw [← Array.length_toList, hlen]; omega), Array.getElem?_eq_none (by rw [hsz]; omega)]
  subst hcs
  simp only [World.var?, hg, Option.bind_some] at h3
  split at h3
  · rename_i c t fr hh
    cases h3
    exact ⟨t, fr, hh⟩
  · cases h3

theorem u8Extra : Proofs.U8Extra Tryz.prog Tryz.lays196_ren := ⟨by kernel_rfl, by kernel_rfl, by kernel_rfl, by kernel_rfl, by kernel_rfl, by kernel_rfl, by kernel_rfl⟩

theorem asciiData_eq : (Rows.laid_strings_asciiSpace : DataW Unit) = Lib.tabData .u8 Lib.asciiSpaceTab := by kernel_rfl
theorem powData_eq : (Rows.laid_internal_strconv_uint64pow10 : DataW Unit) = Lib.tabData .u64 Lib.pow10Tab := by kernel_rfl
theorem accData_eq : (Rows.laid_unicode_utf8_acceptRanges : DataW Unit) = Lib.acceptData := by kernel_rfl


end Tk
end Go.Proofs.YtmfcopbffnfnfaaGreatDoor
