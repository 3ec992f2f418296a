/- Words and keywords: what the program's and the reference's ways of asking come to. -/
import Derived.Test.YtlpcpnbjpbhlgaaGreatDoorC1
import Derived.Lib.IndexMore
import Derived.Lib.TrimByte
namespace Go.Proofs.YtlpcpnbjpbhlgaaGreatDoor
open Go.ChangeShapes Go.WideShapes Go.ChangeAt Go.RowKit
namespace Tk

/-! ### Keywords: in the text that has a blank on both sides of each, or in the list -/
def joined : List (List UInt8) → List UInt8
  | [] => []
  | x :: r => x ++ 32 :: joined r

theorem kwText_joined : kwText = 32 :: joined kwWords := by decide +kernel

theorem contains_nil (sub : List UInt8) (h : sub ≠ []) : Lib.contains [] sub = false := by
  unfold Lib.contains Lib.index
  cases sub with
  | nil => exact absurd rfl h
  | cons a t => simp

theorem contains_cons (b : UInt8) (l sub : List UInt8) : Lib.contains (b :: l) sub = (sub.isPrefixOf (b :: l) || Lib.contains l sub) := by
  unfold Lib.contains
  rw [Lib.index]
  by_cases h : sub.isPrefixOf (b :: l) = true
  · rw [if_pos h, h]; rfl
  · rw [if_neg h]
    have hg := Lib.index_ge l sub
    have h' : sub.isPrefixOf (b :: l) = false := by
      cases hh : sub.isPrefixOf (b :: l) with
      | true => exact absurd hh h
      | false => rfl
    rw [h', Bool.false_or]
    by_cases h1 : Lib.index l sub = -1
    · rw [if_pos (by simp [h1]), h1]
    · rw [if_neg (by simpa using h1)]
      by_cases h2 : 0 ≤ Lib.index l sub
      · rw [decide_eq_true h2, decide_eq_true (by omega)]
      · omega

theorem pref_word : ∀ (w x t : List UInt8), (32 : UInt8) ∉ w → (32 : UInt8) ∉ x → (w ++ [32]).isPrefixOf (x ++ 32 :: t) = (w == x)
  | [], [], t, _, _ => by simp [List.isPrefixOf]
  | [], a :: x, t, _, hx => by
    have ha : (32 : UInt8) ≠ a := fun e => hx (by rw [e]; exact List.mem_cons_self)
    simp [List.isPrefixOf, ha]
  | a :: w, [], t, hw, _ => by
    have ha : a ≠ 32 := fun e => hw (by rw [e]; exact List.mem_cons_self)
    simp [List.isPrefixOf, ha]
  | a :: w, b :: x, t, hw, hx => by
    have ih := pref_word w x t (fun h => hw (List.mem_cons_of_mem _ h)) (fun h => hx (List.mem_cons_of_mem _ h))
    show ((a == b) && (w ++ [32]).isPrefixOf (x ++ 32 :: t)) = ((a :: w) == (b :: x))
    rw [ih]
    rfl

theorem contains_skip : ∀ (x r sub : List UInt8), (32 : UInt8) ∉ x → Lib.contains (x ++ r) (32 :: sub) = Lib.contains r (32 :: sub)
  | [], _, _, _ => rfl
  | a :: x, r, sub, hx => by
    have ha : (32 : UInt8) ≠ a := fun e => hx (by rw [e]; exact List.mem_cons_self)
    rw [List.cons_append, contains_cons, contains_skip x r sub (fun h => hx (List.mem_cons_of_mem _ h))]
    have : (32 :: sub).isPrefixOf (a :: (x ++ r)) = false := by simp [List.isPrefixOf, ha]
    rw [this, Bool.false_or]

theorem contains_joined (w : List UInt8) (hw : (32 : UInt8) ∉ w) : ∀ ws : List (List UInt8), (∀ x ∈ ws, (32 : UInt8) ∉ x) → Lib.contains (32 :: joined ws) (32 :: (w ++ [32])) = ws.contains w
  | [], _ => by
    rw [contains_cons]
    show ((((32 : UInt8) == 32) && (w ++ [32]).isPrefixOf []) || Lib.contains [] (32 :: (w ++ [32]))) = _
    rw [contains_nil _ (by simp)]
    cases w <;> rfl
  | x :: r, h => by
    rw [contains_cons]
    show ((((32 : UInt8) == 32) && (w ++ [32]).isPrefixOf (x ++ 32 :: joined r)) || Lib.contains (x ++ 32 :: joined r) (32 :: (w ++ [32]))) = _
    rw [pref_word w x _ hw (h x List.mem_cons_self), contains_skip _ _ _ (h x List.mem_cons_self), contains_joined w hw r (fun y hy => h y (List.mem_cons_of_mem _ hy)), List.contains_cons]
    rfl

theorem keyword_same (w : List UInt8) (hw : (32 : UInt8) ∉ w) : Lib.contains kwText (32 :: (w ++ [32])) = kwWords.contains w := by
  rw [kwText_joined]
  refine contains_joined w hw kwWords ?_
  have : (kwWords.all fun x => !x.contains 32) = true := by decide +kernel
  intro x hx hc
  have := List.all_eq_true.1 this x hx
  simp at this
  exact this hc

/-! ### Words -/
def wordP (l : List UInt8) : Bool := !(Lib.trimRightB l 39).isEmpty && !digB ((Lib.trimRightB l 39).headD 0).toNat && (Lib.trimRightB l 39).all fun b => partB b.toNat
def refP (s : ByteArray) : Bool := !s.data.toList.isEmpty && (letB (byteAt s 0) || byteAt s 0 == 95) && decide (wordEnd s 0 = s.size)

theorem run_spec {p : Int → Bool} (p0 : p 0 = false) (s : ByteArray) : ∀ (n a : Nat), s.size - a = n → a ≤ s.size →
    a ≤ runEnd p s a ∧ runEnd p s a ≤ s.size ∧ (∀ j, a ≤ j → j < runEnd p s a → p (byteAt s j) = true) ∧ p (byteAt s (runEnd p s a)) = false := by
  intro n
  induction n with
  | zero =>
    intro a hn ha
    have he : byteAt s a = 0 := byteAt_out (by omega)
    rw [runEnd_off (by rw [he]; exact p0)]
    exact ⟨Nat.le_refl _, ha, fun j h1 h2 => by omega, by rw [he]; exact p0⟩
  | succ n ih =>
    intro a hn ha
    by_cases hp : p (byteAt s a) = true
    · rw [runEnd_on p0 hp]
      obtain ⟨h1, h2, h3, h4⟩ := ih (a + 1) (by omega) (by omega)
      refine ⟨by omega, h2, fun j hj1 hj2 => ?_, h4⟩
      by_cases hja : j = a
      · rw [hja]; exact hp
      · exact h3 j (by omega) hj2
    · have hp' : p (byteAt s a) = false := by simpa using hp
      rw [runEnd_off hp']
      exact ⟨Nat.le_refl _, ha, fun j h1 h2 => by omega, hp'⟩

theorem trim_spec (l : List UInt8) (c : UInt8) : ∃ t, l = Lib.trimRightB l c ++ t ∧ (∀ b ∈ t, b = c) ∧ ∀ b, (Lib.trimRightB l c).getLast? = some b → b ≠ c := by
  unfold Lib.trimRightB
  refine ⟨(l.reverse.takeWhile (· == c)).reverse, ?_, ?_, ?_⟩
  · rw [← List.reverse_append, List.takeWhile_append_dropWhile, List.reverse_reverse]
  · intro b hb
    rw [List.mem_reverse] at hb
    have := List.all_eq_true.1 (List.all_takeWhile (p := (· == c)) (l := l.reverse)) b hb
    simpa using this
  · intro b hb
    rw [List.getLast?_reverse] at hb
    cases hd : l.reverse.dropWhile (· == c) with
    | nil => rw [hd] at hb; cases hb
    | cons x r =>
      rw [hd] at hb
      cases hb
      have := List.head_dropWhile_not (p := (· == c)) (l := l.reverse) (by rw [hd]; simp)
      simp only [hd, List.head_cons] at this
      simpa using this

theorem byteAt_list (s : ByteArray) (j : Nat) : byteAt s j = ((s.data.toList.getD j 0).toNat : Int) := by
  unfold byteAt
  by_cases h : j < s.size
  · rw [dif_pos h]
    have h' : j < s.data.toList.length := by rw [Array.length_toList]; exact h
    rw [List.getD_eq_getElem?_getD, List.getElem?_eq_getElem h']
    simp
    rfl
  · rw [dif_neg h]
    have h' : ¬ j < s.data.toList.length := by rw [Array.length_toList]; exact h
    rw [List.getD_eq_getElem?_getD, List.getElem?_eq_none (by omega)]
    rfl

theorem part39 : partB 39 = false := by decide

theorem word_same (s : ByteArray) : wordP s.data.toList = refP s := by
  obtain ⟨t, hl, ht, hlast⟩ := trim_spec s.data.toList 39
  unfold wordP refP
  generalize Lib.trimRightB s.data.toList 39 = b at hl hlast
  have hsz : s.size = b.length + t.length := by
    have : s.data.toList.length = (b ++ t).length := by rw [← hl]
    rw [Array.length_toList, List.length_append] at this
    exact this
  have hb : ∀ j, j < b.length → byteAt s j = ((b.getD j 0).toNat : Int) := by
    intro j hj
    rw [byteAt_list, hl, List.getD_eq_getElem?_getD, List.getD_eq_getElem?_getD, List.getElem?_append_left hj]
  have hq : ∀ j, b.length ≤ j → j < s.size → byteAt s j = 39 := by
    intro j h1 h2
    have h3 : j - b.length < t.length := by omega
    rw [byteAt_list, hl, List.getD_eq_getElem?_getD, List.getElem?_append_right h1, List.getElem?_eq_getElem h3]
    have := ht _ (List.getElem_mem h3)
    simp [this]
  obtain ⟨k1, k2, k3, k4⟩ := run_spec part0 s s.size 0 (by omega) (Nat.zero_le _)
  obtain ⟨e1, e2, e3, e4⟩ := run_spec quote0 s (s.size - runEnd partB s 0) (runEnd partB s 0) rfl k2
  cases hbe : b with
  | nil =>
    rw [hbe] at hl hq hb hsz
    cases htt : t with
    | nil =>
      rw [htt] at hl
      rw [hl]
      rfl
    | cons x r =>
      have h0 : byteAt s 0 = 39 := hq 0 (Nat.le_refl _) (by rw [hsz, htt]; simp)
      rw [h0]
      simp [letB]
  | cons x r =>
    rw [← hbe]
    have hpos : 0 < b.length := by rw [hbe]; simp
    have hne : s.data.toList.isEmpty = false := by rw [hl, hbe]; rfl
    have hbn : b.isEmpty = false := by rw [hbe]; rfl
    rw [hne, hbn]
    have h0 : byteAt s 0 = ((b.headD 0).toNat : Int) := by
      rw [hb 0 hpos, hbe]
      rfl
    rw [← h0]
    have hall : (b.all fun y => partB y.toNat) = true ↔ ∀ j, j < b.length → partB (byteAt s j) = true := by
      rw [List.all_eq_true]
      constructor
      · intro h j hj
        rw [hb j hj, List.getD_eq_getElem?_getD, List.getElem?_eq_getElem hj]
        exact h _ (List.getElem_mem hj)
      · intro h y hy
        obtain ⟨j, hj, rfl⟩ := List.getElem_of_mem hy
        have := h j hj
        rw [hb j hj, List.getD_eq_getElem?_getD, List.getElem?_eq_getElem hj] at this
        exact this
    have hlb : byteAt s (b.length - 1) ≠ 39 := by
      rw [hb _ (by omega), List.getD_eq_getElem?_getD, ← List.getLast?_eq_getElem?]
      cases hg : b.getLast? with
      | none => rw [List.getLast?_eq_none_iff] at hg; rw [hg] at hpos; cases hpos
      | some y =>
        have := hlast y hg
        intro h
        apply this
        have h2 : y.toNat = 39 := by exact_mod_cast h
        exact UInt8.toNat_inj.1 h2
    have hend : (b.all fun y => partB y.toNat) = true ↔ wordEnd s 0 = s.size := by
      rw [hall]
      unfold wordEnd
      constructor
      · intro h
        have hk : runEnd partB s 0 = b.length := by
          by_cases hlt : runEnd partB s 0 < b.length
          · have := h _ hlt
            rw [k4] at this
            cases this
          · by_cases hgt : b.length < runEnd partB s 0
            · have h1 := k3 b.length (Nat.zero_le _) hgt
              rw [hq b.length (Nat.le_refl _) (by omega)] at h1
              rw [part39] at h1
              cases h1
            · omega
        rw [hk] at e1 e2 e3 e4 ⊢
        by_cases hlt : runEnd quoteB s b.length < s.size
        · rw [hq _ e1 hlt] at e4
          cases e4
        · omega
      · intro h j hj
        by_cases hjk : j < runEnd partB s 0
        · exact k3 j (Nat.zero_le _) hjk
        · exfalso
          have h1 := e3 (b.length - 1) (by omega) (by omega)
          unfold quoteB at h1
          exact hlb (by simpa using h1)
    by_cases ha : (b.all fun y => partB y.toNat) = true
    · rw [ha, decide_eq_true (hend.1 ha)]
      have hp0 := hall.1 ha 0 hpos
      unfold partB at hp0
      cases hL : letB (byteAt s 0)
      · cases hD : digB (byteAt s 0)
        · rw [hL, hD] at hp0
          have h95 : byteAt s 0 = 95 := by simpa using hp0
          rw [h95]
          rfl
        · have : byteAt s 0 ≠ 95 := by
            intro h
            rw [h] at hD
            cases hD
          simp [this]
      · have : digB (byteAt s 0) = false := by
          unfold letB at hL
          unfold digB
          simp at hL ⊢
          omega
        rw [this]
        rfl
    · have ha' : (b.all fun y => partB y.toNat) = false := by simpa using ha
      have hn : decide (wordEnd s 0 = s.size) = false := decide_eq_false (fun h => ha (hend.2 h))
      rw [ha', hn, Bool.and_false, Bool.and_false]

theorem word_blank (l : List UInt8) (h : wordP l = true) : (32 : UInt8) ∉ l := by
  obtain ⟨t, hl, ht, _⟩ := trim_spec l 39
  unfold wordP at h
  simp only [Bool.and_eq_true] at h
  intro hm
  rw [hl] at hm
  rcases List.mem_append.1 hm with h1 | h1
  · have := List.all_eq_true.1 h.2 _ h1
    revert this
    decide
  · have := ht _ h1
    revert this
    decide

end Tk
end Go.Proofs.YtlpcpnbjpbhlgaaGreatDoor
