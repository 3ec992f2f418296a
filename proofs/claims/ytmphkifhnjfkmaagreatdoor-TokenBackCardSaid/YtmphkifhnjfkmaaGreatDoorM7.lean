/- A written number is read as itself. The text of a float that was read. A written float is read as itself. How bytes stand in a literal; a character of several bytes. Words and keywords: what the program's and the reference's ways of asking come to. A written word, symbol and string is read as itself. The text of tokens that were read has these tokens. Facts for the walk of Text. isWord, isKeyword, IsIdent. isSymbol, isInt of what was read. -/
import Derived.Test.YtmphkifhnjfkmaaGreatDoorM6
import Derived.Lib.MapLaws
import Derived.Lib.ValidLaws
import Derived.Lib.ValidAsc
import Derived.Lib.IndexMore
import Derived.Lib.TrimByte
import Derived.Lib.SlTrimSet
import Derived.Test.YtmphkifhnjfkmaaGreatDoorSh
namespace Go.Proofs.YtmphkifhnjfkmaaGreatDoor
open Go.ChangeShapes Go.WideShapes Go.ChangeAt Go.RowKit Go.WideMaps Go.Maps
namespace Tk

/-! ### A written number is read as itself -/

/-- A text by itself is a token, and nothing is passed over ahead of it. -/
structure Wr (k : Int) (tx x : ByteArray) : Prop where
  tok : TokAt x 0 (.inl (k, tx, x.size))
  pos : 0 < x.size
  stop : skipM x 0 = .inl 0

theorem stop_of {x : ByteArray} (h0 : 0 < x.size) (hb : ¬ 0 ≤ blankI (byteAt x 0)) (h47 : byteAt x 0 ≠ 47) : skipM x 0 = .inl 0 := by
  have g2 : hasP x 0 slash2 = false := by
    cases h : hasP x 0 slash2
    · rfl
    · have e := (pre_iff x 0 slash2.data.toList fun b hb => (nz_s2 b hb).1).1 h 0 (by decide)
      exact absurd e h47
  have g3 : hasP x 0 slashS = false := by
    cases h : hasP x 0 slashS
    · rfl
    · have e := (pre_iff x 0 slashS.data.toList fun b hb => (nz_sS b hb).1).1 h 0 (by decide)
      exact absurd e h47
  rw [skipM_eq x 0 (Nat.zero_le _), if_pos h0, if_neg hb, g2, if_neg (by decide), g3, if_neg (by decide)]

def decB (N : Nat) : ByteArray := ⟨(Lib.decDigits N).toArray⟩

theorem decB_size (N : Nat) : (decB N).size = Lib.nDigits N := by
  show (Lib.decDigits N).toArray.size = _
  rw [List.size_toArray, Lib.decDigits_length]

theorem decB_at (N i : Nat) (hi : i < Lib.nDigits N) : byteAt (decB N) i = 48 + (N / 10 ^ (Lib.nDigits N - 1 - i) % 10 : Nat) := by
  rw [byteAt_list]
  show (((Lib.decDigits N).getD i 0).toNat : Int) = _
  rw [Lib.decDigits_eq, List.getD_eq_getElem?_getD, List.getElem?_map, List.getElem?_range hi]
  show ((Lib.dg N (Lib.nDigits N - 1 - i)).toNat : Int) = _
  unfold Lib.dg
  have : N / 10 ^ (Lib.nDigits N - 1 - i) % 10 < 10 := Nat.mod_lt _ (by decide)
  generalize N / 10 ^ (Lib.nDigits N - 1 - i) % 10 = m at *
  rcases (by omega : m = 0 ∨ m = 1 ∨ m = 2 ∨ m = 3 ∨ m = 4 ∨ m = 5 ∨ m = 6 ∨ m = 7 ∨ m = 8 ∨ m = 9) with rfl | rfl | rfl | rfl | rfl | rfl | rfl | rfl | rfl | rfl <;> rfl

/-- A byte that is a digit. -/
theorem digB_iff (b : Int) : digB b = true ↔ 48 ≤ b ∧ b ≤ 57 := by
  unfold digB
  rw [Bool.and_eq_true, decide_eq_true_eq, decide_eq_true_eq]

theorem digitV_dig {b base : Int} (h : digB b = true) : digitV b base = b - 48 := by
  unfold digitV
  rw [if_pos h]

theorem decB_dig (N i : Nat) (hi : i < Lib.nDigits N) : digB (byteAt (decB N) i) = true := by
  rw [digB_iff, decB_at N i hi]
  have : N / 10 ^ (Lib.nDigits N - 1 - i) % 10 < 10 := Nat.mod_lt _ (by decide)
  omega

/-- Digits without underscores from the beginning of a text. -/
theorem dpos_plain {s : ByteArray} {a : Nat} : ∀ k, (∀ j, j < k → byteAt s (a + j + 1) ≠ 95) → dpos s a k = a + k
  | 0, _ => rfl
  | k + 1, h => by
    have ih := dpos_plain k fun j hj => h j (by omega)
    rw [dpos_succ, ih, if_neg (h k (by omega))]
    rfl

theorem digB_ne {b : Int} (h : digB b = true) : b ≠ 95 ∧ b ≠ 120 ∧ b ≠ 98 ∧ b ≠ 46 ∧ b ≠ 101 ∧ b ≠ 69 ∧ b ≠ 34 ∧ b ≠ 39 ∧ b ≠ 47 := by
  rw [digB_iff] at h
  refine ⟨?_, ?_, ?_, ?_, ?_, ?_, ?_, ?_, ?_⟩ <;> omega

/-- A run of N digits, behind which no part of a number stands. -/
theorem runU_plain {s : ByteArray} {a N : Nat} (hz : a + N ≤ s.size) (hd : ∀ j, j < N → digB (byteAt s (a + j)) = true) (_ : ¬ digB (byteAt s (a + N)) = true) (h95 : byteAt s (a + N) ≠ 95) (hstop : ¬ digitV (byteAt s (a + N)) 10 < 10) : RunU s a N 10 true ∧ ∀ k, k ≤ N → dpos s a k = a + k := by
  have hp : ∀ k, k ≤ N → dpos s a k = a + k := fun k hk => dpos_plain k fun j hj => by
    by_cases h : j + 1 < N
    · rw [show a + j + 1 = a + (j + 1) by omega]
      exact (digB_ne (hd (j + 1) h)).1
    · rw [show a + j + 1 = a + N by omega]
      exact h95
  refine ⟨⟨fun k hk => ?_, fun k hk h => ?_, fun _ => ?_, fun e => (by cases e), ?_⟩, hp⟩
  · rw [hp k (by omega), digitV_dig (hd k hk)]
    have := (digB_iff _).1 (hd k hk)
    omega
  · rw [hp k (by omega)] at h
    by_cases h2 : k + 1 < N
    · rw [show a + k + 1 = a + (k + 1) by omega] at h
      exact absurd h (digB_ne (hd (k + 1) h2)).1
    · rw [show a + k + 1 = a + N by omega] at h
      exact absurd h h95
  · rw [hp N (Nat.le_refl _)]; exact hstop
  · rw [hp N (Nat.le_refl _)]; exact hz

theorem out_stop (s : ByteArray) {i : Nat} (h : s.size ≤ i) : byteAt s i = 0 ∧ ¬ digB (byteAt s i) = true ∧ ¬ digitV (byteAt s i) 10 < 10 := by
  rw [byteAt_out h]
  exact ⟨rfl, by decide, by decide⟩

theorem pow_split (N L k : Nat) (hk : k < L) : N / 10 ^ (L - (k + 1)) = N / 10 ^ (L - k) * 10 + N / 10 ^ (L - 1 - k) % 10 := by
  obtain ⟨m, hm⟩ : ∃ m, L = k + 1 + m := ⟨L - (k + 1), by omega⟩
  rw [show L - (k + 1) = m by omega, show L - k = m + 1 by omega, show L - 1 - k = m by omega, Nat.pow_succ, ← Nat.div_div_eq_div_mul]
  omega

theorem numW_dec (N : Nat) (hN : N < 340282366920938463463374607431768211456) (hp : ∀ k, k ≤ Lib.nDigits N → dpos (decB N) 0 k = 0 + k) : ∀ k, k ≤ Lib.nDigits N → numW (decB N) 0 10 k = (N / 10 ^ (Lib.nDigits N - k), true)
  | 0, _ => by
    have h := Lib.lt_pow_nDigits N
    show (0, true) = _
    rw [Nat.sub_zero, Nat.div_eq_of_lt h]
  | k + 1, hk => by
    have ih := numW_dec N hN hp k (by omega)
    unfold numW
    rw [ih, hp k (by omega), Nat.zero_add, digitV_dig (decB_dig N k (by omega)), decB_at N k (by omega)]
    dsimp only
    have e1 : (48 + ((N / 10 ^ (Lib.nDigits N - 1 - k) % 10 : Nat) : Int) - 48).toNat = N / 10 ^ (Lib.nDigits N - 1 - k) % 10 := by omega
    have hle : N / 10 ^ (Lib.nDigits N - (k + 1)) ≤ N := Nat.div_le_self _ _
    rw [e1, ← pow_split N (Lib.nDigits N) k (by omega), Nat.mod_eq_of_lt (by omega), decide_eq_true (by omega)]
    rfl

/-- A number that is written down is read as itself. -/
theorem wr_int (N : Nat) (hN : N < 340282366920938463463374607431768211456) : Wr 3 (decB N) (decB N) := by
  have hL := Lib.nDigits_pos N
  have hz := decB_size N
  have hd := decB_dig N
  have h0 := hd 0 (by omega)
  have hout := out_stop (decB N) (i := 0 + Lib.nDigits N) (by omega)
  obtain ⟨hR, hp⟩ := runU_plain (s := decB N) (a := 0) (N := Lib.nDigits N) (by omega) (fun j hj => by rw [Nat.zero_add]; exact hd j hj) hout.2.1 (by rw [hout.1]; decide) hout.2.2
  have hW := numW_dec N hN hp (Lib.nDigits N) (Nat.le_refl _)
  rw [Nat.sub_self, Nat.pow_zero, Nat.div_one] at hW
  have n1 : byteAt (decB N) 1 ≠ 120 ∧ byteAt (decB N) 1 ≠ 98 := by
    by_cases h : 1 < Lib.nDigits N
    · exact ⟨(digB_ne (hd 1 h)).2.1, (digB_ne (hd 1 h)).2.2.1⟩
    · rw [byteAt_out (by omega)]; decide
  have px : pre (decB N) 0 zx = false := by
    cases h : pre (decB N) 0 zx
    · rfl
    · exact absurd ((pre_iff (decB N) 0 zx.data.toList fun b hb => (nz_zx b hb).1).1 h 1 (by decide)) n1.1
  have pb : pre (decB N) 0 zb = false := by
    cases h : pre (decB N) 0 zb
    · rfl
    · exact absurd ((pre_iff (decB N) 0 zb.data.toList fun b hb => (nz_zb b hb).1).1 h 1 (by decide)) n1.2
  have hF : Frac (decB N) (dpos (decB N) 0 (Lib.nDigits N)) (some (false, dpos (decB N) 0 (Lib.nDigits N))) := by
    rw [hp _ (Nat.le_refl _)]
    refine .noPoint (fun h => ?_) _ (.no ?_ ?_)
    · rw [hout.1] at h; exact absurd h.1 (by decide)
    · rw [hout.1]; decide
    · rw [hout.1]; decide
  have hN2 := NumAt.decOk px pb (Lib.nDigits N) _ hR hL hF (by rw [hW])
  rw [hp _ (Nat.le_refl _)] at hN2
  have hT : intT (decB N) 0 10 (Lib.nDigits N) = decB N := by
    unfold intT
    rw [hW]
    dsimp only
    rw [wideZ_dec _ _ (by omega) (by omega)]
    show (⟨(Lib.decDigits _).toArray⟩ : ByteArray) = ⟨(Lib.decDigits N).toArray⟩
    rw [show N / 18446744073709551616 * 18446744073709551616 + N % 18446744073709551616 = N by omega]
  rw [hT, Nat.zero_add, ← hz] at hN2
  have hb := (digB_iff _).1 h0
  refine ⟨.num ?_ h0 (digB_ne h0).1 _ _ _ hN2 (by rw [byteAt_out (Nat.le_refl _)]; decide), by omega, stop_of (by omega) ?_ (digB_ne h0).2.2.2.2.2.2.2.2⟩
  · unfold letB
    rw [decide_eq_false (show ¬ 97 ≤ byteAt (decB N) 0 by omega), decide_eq_false (show ¬ 65 ≤ byteAt (decB N) 0 by omega)]
    rfl
  · generalize byteAt (decB N) 0 = b at hb
    rcases (by omega : b = 48 ∨ b = 49 ∨ b = 50 ∨ b = 51 ∨ b = 52 ∨ b = 53 ∨ b = 54 ∨ b = 55 ∨ b = 56 ∨ b = 57) with rfl | rfl | rfl | rfl | rfl | rfl | rfl | rfl | rfl | rfl <;> decide

end Tk
end Go.Proofs.YtmphkifhnjfkmaaGreatDoor

namespace Go.Proofs.YtmphkifhnjfkmaaGreatDoor
open Go.ChangeShapes Go.WideShapes Go.ChangeAt Go.RowKit Go.WideMaps Go.Maps
namespace Tk

/-! ### The text of a float -/

/-- One byte replaced by some others. -/
def rep (c : UInt8) (new l : List UInt8) : List UInt8 := l.flatMap fun b => if b = c then new else [b]

theorem rep_app (c : UInt8) (new a b : List UInt8) : rep c new (a ++ b) = rep c new a ++ rep c new b := List.flatMap_append
theorem rep_nil (c : UInt8) (new : List UInt8) : rep c new [] = [] := rfl
theorem rep_cons (c : UInt8) (new : List UInt8) (b : UInt8) (l : List UInt8) : rep c new (b :: l) = (if b = c then new else [b]) ++ rep c new l := rfl

theorem index_cons_ne {b c : UInt8} (l : List UInt8) (h : b ≠ c) {i : Nat} (hi : Lib.index l [c] = i) : Lib.index (b :: l) [c] = ((i + 1 : Nat) : Int) := by
  unfold Lib.index
  have h1 : [c].isPrefixOf (b :: l) = false := by
    show ((c == b) && _) = false
    have : (c == b) = false := by simpa using fun e : c = b => h e.symm
    rw [this]
    rfl
  rw [h1, hi]
  have h2 : ((i : Int) == -1) = false := by simp
  rw [h2]
  simp

theorem replaceK_one (c : UInt8) (new : List UInt8) : ∀ l : List UInt8, Lib.replaceK [c] new (l.count c) l = rep c new l
  | [] => rfl
  | b :: l => by
    have ih := replaceK_one c new l
    by_cases h : b = c
    · subst h
      have hi : Lib.index (b :: l) [b] = ((0 : Nat) : Int) := by
        unfold Lib.index
        have : [b].isPrefixOf (b :: l) = true := by simp
        rw [this]
        rfl
      rw [List.count_cons_self, Lib.replaceK_hit [b] new _ _ 0 hi, rep_cons, if_pos rfl]
      show [] ++ new ++ Lib.replaceK [b] new (l.count b) l = _
      rw [ih]
      rfl
    · rw [List.count_cons_of_ne h, rep_cons, if_neg h]
      cases hk : l.count c with
      | zero =>
        rw [hk] at ih
        show b :: l = [b] ++ rep c new l
        rw [← ih]
        rfl
      | succ k =>
        rw [hk] at ih
        obtain ⟨i, hi⟩ := Lib.index_of_count (s := l) (old := [c]) (by rw [Lib.count_one, hk]; omega)
        rw [Lib.replaceK_hit [c] new k _ _ (index_cons_ne l h hi)]
        rw [Lib.replaceK_hit [c] new k _ _ hi] at ih
        rw [← ih]
        rfl

theorem replaceAll_one (c : UInt8) (new l : List UInt8) (h : [c] ≠ new) : Lib.replaceAll l [c] new = rep c new l := by
  unfold Lib.replaceAll Lib.replace Lib.replaceNum
  have h1 : ([c] == new) = false := by simpa using h
  rw [h1, if_neg (by decide), if_pos (.inl (by decide)), Lib.count_one, replaceK_one]

/-- Without underscores, and with e for E. -/
def flt (l : List UInt8) : List UInt8 := rep 69 [101] (rep 95 [] l)

theorem flt_app (a b : List UInt8) : flt (a ++ b) = flt a ++ flt b := by unfold flt; rw [rep_app, rep_app]

theorem float_text (x : ByteArray) : lowE (unU x) = ⟨(flt x.data.toList).toArray⟩ := by
  unfold lowE unU flt
  rw [replaceAll_one 95 [] _ (by decide), replaceAll_one 69 [101] _ (by decide)]

/-- All are digits. -/
def AllD (l : List UInt8) : Prop := ∀ b ∈ l, 48 ≤ b.toNat ∧ b.toNat ≤ 57

theorem u8_ne {b : UInt8} {k : Nat} (hk : k < 256) (h : b.toNat ≠ k) : b ≠ UInt8.ofNat k := fun e => h (by rw [e]; simp; omega)

theorem flt_digits : ∀ l : List UInt8, (∀ b ∈ l, (48 ≤ b.toNat ∧ b.toNat ≤ 57) ∨ b = 95) → AllD (flt l) ∧ ((∃ b ∈ l, b ≠ 95) → flt l ≠ [])
  | [], _ => ⟨fun b hb => (by cases hb), fun ⟨b, hb, _⟩ => (by cases hb)⟩
  | b :: l, h => by
    obtain ⟨i1, i2⟩ := flt_digits l fun x hx => h x (.tail _ hx)
    have e : flt (b :: l) = flt [b] ++ flt l := flt_app [b] l
    rcases h b (.head _) with hb | hb
    · have n1 : b ≠ 95 := u8_ne (k := 95) (by decide) (by omega)
      have n2 : b ≠ 69 := u8_ne (k := 69) (by decide) (by omega)
      have e1 : flt [b] = [b] := by
        unfold flt
        rw [rep_cons, if_neg n1, rep_nil, List.append_nil, rep_cons, if_neg n2]
        rfl
      rw [e, e1]
      refine ⟨fun x hx => ?_, fun _ => by simp⟩
      rcases List.mem_cons.1 hx with rfl | hx
      · exact hb
      · exact i1 x hx
    · subst hb
      have e1 : flt [95] = [] := by decide
      rw [e, e1, List.nil_append]
      refine ⟨i1, fun ⟨x, hx, hne⟩ => i2 ?_⟩
      rcases List.mem_cons.1 hx with rfl | hx
      · exact absurd rfl hne
      · exact ⟨x, hx, hne⟩

theorem flt_id : ∀ l : List UInt8, (∀ b ∈ l, b ≠ 95 ∧ b ≠ 69) → flt l = l
  | [], _ => rfl
  | b :: l, h => by
    obtain ⟨n1, n2⟩ := h b (.head _)
    have e : flt (b :: l) = flt [b] ++ flt l := flt_app [b] l
    rw [e, flt_id l fun x hx => h x (.tail _ hx)]
    unfold flt
    rw [rep_cons, if_neg n1, rep_nil, List.append_nil, rep_cons, if_neg n2]
    rfl

def ExpL (E : List UInt8) : Prop := E = [] ∨ ∃ sg D3, E = 101 :: (sg ++ D3) ∧ (sg = [] ∨ sg = [43] ∨ sg = [45]) ∧ AllD D3 ∧ D3 ≠ []
def FloatL (l : List UInt8) : Prop := ∃ D1 T, l = D1 ++ T ∧ AllD D1 ∧ D1 ≠ [] ∧ ((∃ D2 E, T = 46 :: (D2 ++ E) ∧ AllD D2 ∧ D2 ≠ [] ∧ ExpL E) ∨ (ExpL T ∧ T ≠ []))

theorem mem_ext {s : ByteArray} {a b : Nat} {x : UInt8} (hx : x ∈ (s.extract a b).data.toList) (hb : b ≤ s.size) : ∃ i, a ≤ i ∧ i < b ∧ byteAt s i = x.toNat := by
  obtain ⟨j, hj, e⟩ := List.getElem_of_mem hx
  have hz : (s.extract a b).data.toList.length = b - a := by rw [size_list, ByteArray.size_extract]; omega
  refine ⟨a + j, by omega, by omega, ?_⟩
  rw [← byteAt_ext (a := a) (b := b) (by omega) hb, byteAt_list, List.getD_eq_getElem?_getD, List.getElem?_eq_getElem hj, e]
  rfl

theorem ext_mem {s : ByteArray} {a b i : Nat} (h1 : a ≤ i) (h2 : i < b) (hb : b ≤ s.size) : ∃ x ∈ (s.extract a b).data.toList, byteAt s i = x.toNat := by
  have hz : (s.extract a b).data.toList.length = b - a := by rw [size_list, ByteArray.size_extract]; omega
  have hj : i - a < (s.extract a b).data.toList.length := by omega
  refine ⟨_, List.getElem_mem hj, ?_⟩
  have e := byteAt_ext (s := s) (a := a) (b := b) (i := i - a) (by omega) hb
  rw [show a + (i - a) = i by omega] at e
  rw [← e, byteAt_list, List.getD_eq_getElem?_getD, List.getElem?_eq_getElem hj]
  rfl

theorem ext_one {s : ByteArray} {a : Nat} (h : a < s.size) : ∃ x : UInt8, (s.extract a (a + 1)).data.toList = [x] ∧ byteAt s a = x.toNat := by
  obtain ⟨x, hx, e⟩ := ext_mem (s := s) (a := a) (b := a + 1) (i := a) (Nat.le_refl _) (by omega) (by omega)
  have hz : (s.extract a (a + 1)).data.toList.length = 1 := by rw [size_list, ByteArray.size_extract]; omega
  obtain ⟨y, hy⟩ := List.length_eq_one_iff.1 hz
  rw [hy] at hx ⊢
  rw [List.mem_singleton] at hx
  exact ⟨y, rfl, by rw [← hx]; exact e⟩

/-- What stands in a run: digits and underscores. -/
theorem runU_bytes {s : ByteArray} {a N : Nat} {ok : Bool} (h : RunU s a N 10 ok) : ∀ i, a ≤ i → i < dpos s a N → digB (byteAt s i) = true ∨ byteAt s i = 95 := by
  have dig : ∀ k, k < N → digB (byteAt s (dpos s a k)) = true := fun k hk => by
    have := h.dig k hk
    unfold digitV at this
    split at this
    · assumption
    · exfalso
      split at this
      · omega
      · split at this <;> omega
  have step : ∀ k, k ≤ N → ∀ i, a ≤ i → i < dpos s a k → digB (byteAt s i) = true ∨ byteAt s i = 95 := by
    intro k
    induction k with
    | zero => intro _ i h1 h2; have : dpos s a 0 = a := rfl; omega
    | succ k ih =>
      intro hk i h1 h2
      rcases Nat.lt_or_ge i (dpos s a k) with h3 | h3
      · exact ih (by omega) i h1 h3
      · rw [dpos_succ] at h2
        by_cases h4 : i = dpos s a k
        · rw [h4]; exact .inl (dig k (by omega))
        · split at h2
          · rename_i h5
            rw [show i = dpos s a k + 1 by omega]
            exact .inr h5
          · omega
  exact step N (Nat.le_refl _)

theorem run_flt {s : ByteArray} {a N : Nat} (h : RunU s a N 10 true) (hN : 1 ≤ N) : AllD (flt (s.extract a (dpos s a N)).data.toList) ∧ flt (s.extract a (dpos s a N)).data.toList ≠ [] := by
  have hge := dpos_ge s a N
  obtain ⟨h1, h2⟩ := flt_digits (s.extract a (dpos s a N)).data.toList fun b hb => by
    obtain ⟨i, i1, i2, i3⟩ := mem_ext hb h.size
    rcases runU_bytes h i i1 i2 with hd | hd
    · have := (digB_iff _).1 hd
      exact .inl (by omega)
    · right
      have e : b.toNat = 95 := by omega
      have : b = UInt8.ofNat b.toNat := by simp
      rw [this, e]
      rfl
  refine ⟨h1, h2 ?_⟩
  obtain ⟨x, hx, e⟩ := ext_mem (s := s) (a := a) (b := dpos s a N) (i := a) (Nat.le_refl _) (by omega) h.size
  refine ⟨x, hx, ?_⟩
  have hd : digB (byteAt s a) = true := by
    have := h.dig 0 (by omega)
    have e0 : dpos s a 0 = a := rfl
    rw [e0] at this
    unfold digitV at this
    split at this
    · assumption
    · exfalso
      split at this
      · omega
      · split at this <;> omega
  have := (digB_iff _).1 hd
  rintro rfl
  have e2 : (95 : UInt8).toNat = 95 := rfl
  omega

theorem byte_is {x : UInt8} {k : Nat} (_ : k < 256) (h : x.toNat = k) : x = UInt8.ofNat k := by
  have : x = UInt8.ofNat x.toNat := by simp
  rw [this, h]

theorem expo_flt {s : ByteArray} {a q : Nat} {fl : Bool} {r : Option (Bool × Nat)} (h : Expo s a r) (hr : r = some (fl, q)) (hq : q ≤ s.size) : ExpL (flt (s.extract a q).data.toList) ∧ (fl = true → flt (s.extract a q).data.toList ≠ []) := by
  cases h with
  | no h1 h2 =>
    cases hr
    have e : (s.extract a a).data.toList = [] := by
      apply List.eq_nil_of_length_eq_zero
      rw [size_list, ByteArray.size_extract]
      omega
    rw [e]
    exact ⟨.inl rfl, fun h => by cases h⟩
  | bad _ _ _ _ _ => cases hr
  | ok g N hR hN =>
    cases hr
    have hge := dpos_ge s (signEnd s a) N
    have hse : a + 1 ≤ signEnd s a := by unfold signEnd; split <;> omega
    obtain ⟨d1, d2⟩ := run_flt hR hN
    obtain ⟨x, hx, ex⟩ := ext_one (s := s) (a := a) (by omega)
    have fx : flt [x] = [101] := by
      rcases g with g | g
      · obtain rfl := byte_is (x := x) (k := 101) (by decide) (by omega); decide
      · obtain rfl := byte_is (x := x) (k := 69) (by decide) (by omega); decide
    have sgn : flt (s.extract (a + 1) (signEnd s a)).data.toList = [] ∨ flt (s.extract (a + 1) (signEnd s a)).data.toList = [43] ∨ flt (s.extract (a + 1) (signEnd s a)).data.toList = [45] := by
      by_cases hs : byteAt s (a + 1) = 43 ∨ byteAt s (a + 1) = 45
      · have e2 : signEnd s a = a + 1 + 1 := by unfold signEnd; rw [if_pos hs]
        obtain ⟨y, hy, ey⟩ := ext_one (s := s) (a := a + 1) (by omega)
        rw [e2, hy]
        rcases hs with hs | hs
        · obtain rfl := byte_is (x := y) (k := 43) (by decide) (by omega); exact .inr (.inl (by decide))
        · obtain rfl := byte_is (x := y) (k := 45) (by decide) (by omega); exact .inr (.inr (by decide))
      · have e2 : signEnd s a = a + 1 := by unfold signEnd; rw [if_neg hs]
        left
        have e : (s.extract (a + 1) (a + 1)).data.toList = [] := by
          apply List.eq_nil_of_length_eq_zero
          rw [size_list, ByteArray.size_extract]
          omega
        rw [e2, e]
        rfl
    have hz := hR.size
    rw [ext_split s (show a ≤ a + 1 by omega) (show a + 1 ≤ dpos s (signEnd s a) N by omega) hz, ext_split s (a := a + 1) hse (by omega) hz, flt_app, flt_app, hx, fx]
    generalize flt (s.extract (a + 1) (signEnd s a)).data.toList = A at *
    generalize flt (s.extract (signEnd s a) (dpos s (signEnd s a) N)).data.toList = B at *
    exact ⟨.inr ⟨A, B, rfl, sgn, d1, d2⟩, fun _ => by simp⟩

theorem frac_flt {s : ByteArray} {a q : Nat} {r : Option (Bool × Nat)} (h : Frac s a r) (hr : r = some (true, q)) (hq : q ≤ s.size) :
    (∃ D2 E, flt (s.extract a q).data.toList = 46 :: (D2 ++ E) ∧ AllD D2 ∧ D2 ≠ [] ∧ ExpL E) ∨ (ExpL (flt (s.extract a q).data.toList) ∧ flt (s.extract a q).data.toList ≠ []) := by
  cases h with
  | noPoint g _ he =>
    obtain ⟨e1, e2⟩ := expo_flt he hr hq
    exact .inr ⟨e1, e2 rfl⟩
  | badPoint _ _ _ _ _ _ => cases hr
  | point g1 g2 N hR hN r' he =>
    cases r' with
    | none => cases hr
    | some x =>
      obtain ⟨f, q'⟩ := x
      have hr' : q' = q := congrArg (fun o => (o.getD (true, 0)).2) hr
      subst hr'
      have h1 := (expo_ge he rfl).1
      have h2 := dpos_ge s (a + 1) N
      obtain ⟨d1, d2⟩ := run_flt hR hN
      obtain ⟨e1, _⟩ := expo_flt he rfl hq
      obtain ⟨y, hy, ey⟩ := ext_one (s := s) (a := a) (by omega)
      obtain rfl := byte_is (x := y) (k := 46) (by decide) (by omega)
      have fy : flt [UInt8.ofNat 46] = [46] := by decide
      left
      rw [ext_split s (show a ≤ a + 1 by omega) (show a + 1 ≤ q' by omega) hq, ext_split s (a := a + 1) (b := dpos s (a + 1) N) (by omega) (by omega) hq, flt_app, flt_app, hy, fy]
      generalize flt (s.extract (a + 1) (dpos s (a + 1) N)).data.toList = A at *
      generalize flt (s.extract (dpos s (a + 1) N) q').data.toList = B at *
      exact ⟨A, B, rfl, d1, d2, e1⟩

/-- The text of a float that was read has the form of one. -/
theorem float_form {s : ByteArray} {p N q : Nat} (hR : RunU s p N 10 true) (hN : 1 ≤ N) (hF : Frac s (dpos s p N) (some (true, q))) (hq : q ≤ s.size) : FloatL (flt (s.extract p q).data.toList) := by
  have h1 := dpos_ge s p N
  have h2 := frac_ge hF rfl
  obtain ⟨d1, d2⟩ := run_flt hR hN
  rw [ext_split s (show p ≤ dpos s p N by omega) h2 hq, flt_app]
  have hf := frac_flt hF rfl hq
  generalize flt (s.extract p (dpos s p N)).data.toList = A at *
  generalize flt (s.extract (dpos s p N) q).data.toList = B at *
  exact ⟨A, B, rfl, d1, d2, hf⟩

end Tk
end Go.Proofs.YtmphkifhnjfkmaaGreatDoor

namespace Go.Proofs.YtmphkifhnjfkmaaGreatDoor
open Go.ChangeShapes Go.WideShapes Go.ChangeAt Go.RowKit Go.WideMaps Go.Maps
namespace Tk

/-! ### A written float is read as itself -/

def lB (l : List UInt8) : ByteArray := ⟨l.toArray⟩

theorem lB_size (l : List UInt8) : (lB l).size = l.length := by show l.toArray.size = _; simp
theorem lB_at (l : List UInt8) (i : Nat) : byteAt (lB l) i = ((l.getD i 0).toNat : Int) := byteAt_list _ _

theorem at_mid (A B : List UInt8) (i : Nat) : byteAt (lB (A ++ B)) (A.length + i) = byteAt (lB B) i := by
  rw [lB_at, lB_at, List.getD_eq_getElem?_getD, List.getD_eq_getElem?_getD, List.getElem?_append_right (by omega), Nat.add_sub_cancel_left]

theorem at_left (A B : List UInt8) {i : Nat} (h : i < A.length) : byteAt (lB (A ++ B)) i = byteAt (lB A) i := by
  rw [lB_at, lB_at, List.getD_eq_getElem?_getD, List.getD_eq_getElem?_getD, List.getElem?_append_left h]

theorem at_head (b : UInt8) (l : List UInt8) : byteAt (lB (b :: l)) 0 = b.toNat := lB_at _ _

theorem allD_at {D : List UInt8} (h : AllD D) {i : Nat} (hi : i < D.length) : digB (byteAt (lB D) i) = true := by
  rw [lB_at, List.getD_eq_getElem?_getD, List.getElem?_eq_getElem hi]
  have := h _ (List.getElem_mem hi)
  rw [digB_iff]
  show 48 ≤ ((D[i]'hi).toNat : Int) ∧ ((D[i]'hi).toNat : Int) ≤ 57
  omega

/-- A list that does not begin with a digit or an underscore. -/
def Stops (B : List UInt8) : Prop := ¬ digB (byteAt (lB B) 0) = true ∧ byteAt (lB B) 0 ≠ 95 ∧ ¬ digitV (byteAt (lB B) 0) 10 < 10

theorem stops_nil : Stops [] := ⟨by decide, by decide, by decide⟩
theorem stops_46 (l : List UInt8) : Stops (46 :: l) := by unfold Stops; rw [at_head]; decide
theorem stops_101 (l : List UInt8) : Stops (101 :: l) := by unfold Stops; rw [at_head]; decide

theorem run_at (A D B : List UInt8) (hD : AllD D) (hB : Stops B) : RunU (lB (A ++ (D ++ B))) A.length D.length 10 true ∧ dpos (lB (A ++ (D ++ B))) A.length D.length = A.length + D.length := by
  have e : ∀ j, byteAt (lB (A ++ (D ++ B))) (A.length + D.length + j) = byteAt (lB B) j := fun j => by
    rw [Nat.add_assoc, at_mid, at_mid]
  have e0 := e 0
  rw [Nat.add_zero] at e0
  obtain ⟨h1, h2⟩ := runU_plain (s := lB (A ++ (D ++ B))) (a := A.length) (N := D.length) (by rw [lB_size, List.length_append, List.length_append]; omega)
    (fun j hj => by rw [at_mid, at_left _ _ hj]; exact allD_at hD hj) (by rw [e0]; exact hB.1) (by rw [e0]; exact hB.2.1) (by rw [e0]; exact hB.2.2)
  exact ⟨h1, h2 _ (Nat.le_refl _)⟩

theorem len_pos {l : List UInt8} (h : l ≠ []) : 1 ≤ l.length := List.length_pos_iff.2 h

theorem expo_at (A E : List UInt8) (hE : ExpL E) : Expo (lB (A ++ E)) A.length (some (!E.isEmpty, A.length + E.length)) := by
  rcases hE with rfl | ⟨sg, D3, rfl, hs, hD, hne⟩
  · have e : byteAt (lB (A ++ [])) A.length = 0 := byteAt_out (by rw [lB_size]; simp)
    exact .no (by rw [e]; decide) (by rw [e]; decide)
  · have e0 : byteAt (lB (A ++ 101 :: (sg ++ D3))) A.length = 101 := by
      have := at_mid A (101 :: (sg ++ D3)) 0
      rw [Nat.add_zero] at this
      rw [this, at_head]
      rfl
    have e1 : byteAt (lB (A ++ 101 :: (sg ++ D3))) (A.length + 1) = byteAt (lB (sg ++ D3)) 0 := by
      rw [at_mid]
      exact at_mid [101] (sg ++ D3) 0
    have esg : signEnd (lB (A ++ 101 :: (sg ++ D3))) A.length = A.length + 1 + sg.length := by
      unfold signEnd
      rw [e1]
      rcases hs with rfl | rfl | rfl
      · have hd := allD_at hD (i := 0) (by have := len_pos hne; omega)
        have hd' := (digB_iff _).1 hd
        rw [List.nil_append, if_neg (by rintro (h | h) <;> omega)]
        rfl
      · rw [if_pos (.inl (at_head 43 D3))]; rfl
      · rw [if_pos (.inr (at_head 45 D3))]; rfl
    have hl : (A ++ 101 :: (sg ++ D3)) = (A ++ (101 :: sg)) ++ (D3 ++ []) := by simp
    have hal : (A ++ (101 :: sg)).length = A.length + 1 + sg.length := by simp; omega
    obtain ⟨h1, h2⟩ := run_at (A ++ (101 :: sg)) D3 [] hD stops_nil
    rw [← hl, hal, ← esg] at h1 h2
    have hx := Expo.ok (.inl e0) D3.length h1 (len_pos hne)
    rw [h2, esg] at hx
    have e3 : A.length + 1 + sg.length + D3.length = A.length + (101 :: (sg ++ D3)).length := by simp; omega
    rw [e3] at hx
    exact hx

theorem float_bytes {l : List UInt8} (h : FloatL l) : ∀ b ∈ l, b ≠ 95 ∧ b ≠ 69 := by
  have dd : ∀ D, AllD D → ∀ b ∈ D, b ≠ 95 ∧ b ≠ 69 := fun D hD b hb => by
    have := hD b hb
    exact ⟨u8_ne (k := 95) (by decide) (by omega), u8_ne (k := 69) (by decide) (by omega)⟩
  have ee : ∀ E, ExpL E → ∀ b ∈ E, b ≠ 95 ∧ b ≠ 69 := by
    rintro E (rfl | ⟨sg, D3, rfl, hs, hD, _⟩) b hb
    · cases hb
    · rcases List.mem_cons.1 hb with rfl | hb
      · decide
      · rcases List.mem_append.1 hb with hb | hb
        · rcases hs with rfl | rfl | rfl
          · cases hb
          · obtain rfl := List.mem_singleton.1 hb; decide
          · obtain rfl := List.mem_singleton.1 hb; decide
        · exact dd _ hD b hb
  obtain ⟨D1, T, rfl, hD1, _, hT⟩ := h
  intro b hb
  rcases List.mem_append.1 hb with hb | hb
  · exact dd _ hD1 b hb
  · rcases hT with ⟨D2, E, rfl, hD2, _, hE⟩ | ⟨hE, _⟩
    · rcases List.mem_cons.1 hb with rfl | hb
      · decide
      · rcases List.mem_append.1 hb with hb | hb
        · exact dd _ hD2 b hb
        · exact ee _ hE b hb
    · exact ee _ hE b hb

/-- A float that is written down is read as itself. -/
theorem wr_float (l : List UInt8) (h : FloatL l) : Wr 4 (lB l) (lB l) := by
  have hby := float_bytes h
  obtain ⟨D1, T, hl, hD1, hne1, hT⟩ := h
  have hstop : Stops T := by
    rcases hT with ⟨D2, E, rfl, _⟩ | ⟨rfl | ⟨sg, D3, rfl, _⟩, hne⟩
    · exact stops_46 _
    · exact absurd rfl hne
    · exact stops_101 _
  have hTne : 1 ≤ T.length := by
    rcases hT with ⟨D2, E, rfl, _⟩ | ⟨_, hne⟩
    · simp
    · exact len_pos hne
  have hn1 := len_pos hne1
  obtain ⟨hR, hp⟩ := run_at [] D1 T hD1 hstop
  rw [List.nil_append, ← hl] at hR hp
  rw [show ([] : List UInt8).length = 0 from rfl] at hR hp
  rw [Nat.zero_add] at hp
  have hz : (lB l).size = D1.length + T.length := by rw [lB_size, hl, List.length_append]
  have hF : Frac (lB l) (dpos (lB l) 0 D1.length) (some (true, (lB l).size)) := by
    rw [hp]
    rcases hT with ⟨D2, E, rfl, hD2, hne2, hE⟩ | ⟨hE, hne⟩
    · have e0 : byteAt (lB l) D1.length = 46 := by
        have := at_mid D1 (46 :: (D2 ++ E)) 0
        rw [Nat.add_zero, ← hl] at this
        rw [this, at_head]
        rfl
      have hE0 : Stops E := by
        rcases hE with rfl | ⟨sg, D3, rfl, _⟩
        · exact stops_nil
        · exact stops_101 _
      have hl2 : l = (D1 ++ [46]) ++ (D2 ++ E) := by rw [hl]; simp
      have hl3 : l = (D1 ++ [46] ++ D2) ++ E := by rw [hl]; simp
      have ha2 : (D1 ++ [46]).length = D1.length + 1 := by simp
      have ha3 : (D1 ++ [46] ++ D2).length = D1.length + 1 + D2.length := by simp; omega
      obtain ⟨h1, h2⟩ := run_at (D1 ++ [46]) D2 E hD2 hE0
      rw [← hl2, ha2] at h1 h2
      have hx := expo_at (D1 ++ [46] ++ D2) E hE
      rw [← hl3, ha3, ← h2] at hx
      have e1 : digB (byteAt (lB l) (D1.length + 1)) = true := by
        have := at_mid (D1 ++ [46]) (D2 ++ E) 0
        rw [Nat.add_zero, ← hl2, ha2] at this
        rw [this, at_left _ _ (by have := len_pos hne2; omega)]
        exact allD_at hD2 (by have := len_pos hne2; omega)
      have hf := Frac.point e0 e1 D2.length h1 (len_pos hne2) _ hx
      have hq : dpos (lB l) (D1.length + 1) D2.length + E.length = (lB l).size := by
        rw [h2, hz]
        simp
        omega
      rw [hq] at hf
      exact hf
    · have hx := expo_at D1 T hE
      rw [← hl, ← hz] at hx
      have hte : (!T.isEmpty) = true := by
        cases T with
        | nil => exact absurd rfl hne
        | cons _ _ => rfl
      rw [hte] at hx
      refine .noPoint (fun hh => ?_) _ hx
      have e0 : byteAt (lB l) D1.length = 101 := by
        rcases hE with rfl | ⟨sg, D3, rfl, _⟩
        · exact absurd rfl hne
        · have := at_mid D1 (101 :: (sg ++ D3)) 0
          rw [Nat.add_zero, ← hl] at this
          rw [this, at_head]
          rfl
      rw [e0] at hh
      exact absurd hh.1 (by decide)
  have h0 : digB (byteAt (lB l) 0) = true := by
    rw [hl, at_left _ _ (by omega)]
    exact allD_at hD1 (by omega)
  have n1 : byteAt (lB l) 1 ≠ 120 ∧ byteAt (lB l) 1 ≠ 98 := by
    by_cases h : 1 < D1.length
    · have hd : digB (byteAt (lB l) 1) = true := by
        rw [hl, at_left _ _ h]
        exact allD_at hD1 h
      exact ⟨(digB_ne hd).2.1, (digB_ne hd).2.2.1⟩
    · have e : byteAt (lB l) 1 = byteAt (lB T) 0 := by
        have := at_mid D1 T 0
        rw [Nat.add_zero, ← hl, show D1.length = 1 by omega] at this
        exact this
      rw [e]
      rcases hT with ⟨D2, E, rfl, _⟩ | ⟨rfl | ⟨sg, D3, rfl, _⟩, hne⟩
      · rw [at_head]; decide
      · exact absurd rfl hne
      · rw [at_head]; decide
  have px : pre (lB l) 0 zx = false := by
    cases h : pre (lB l) 0 zx
    · rfl
    · exact absurd ((pre_iff (lB l) 0 zx.data.toList fun b hb => (nz_zx b hb).1).1 h 1 (by decide)) n1.1
  have pb : pre (lB l) 0 zb = false := by
    cases h : pre (lB l) 0 zb
    · rfl
    · exact absurd ((pre_iff (lB l) 0 zb.data.toList fun b hb => (nz_zb b hb).1).1 h 1 (by decide)) n1.2
  have hN2 := NumAt.decFloat px pb D1.length _ hR hn1 hF
  have hx : (lB l).extract 0 (lB l).size = lB l := by
    apply bytes_eq
    · rw [ByteArray.size_extract]; omega
    · intro i hi
      rw [byteAt_ext (by omega) (Nat.le_refl _), Nat.zero_add]
  have hT2 : lowE (unU ((lB l).extract 0 (lB l).size)) = lB l := by
    rw [hx, float_text]
    show (⟨(flt l).toArray⟩ : ByteArray) = lB l
    rw [flt_id l hby]
    rfl
  rw [hT2] at hN2
  have hb := (digB_iff _).1 h0
  refine ⟨.num ?_ h0 (digB_ne h0).1 _ _ _ hN2 (by rw [byteAt_out (Nat.le_refl _)]; decide), by omega, stop_of (by omega) ?_ (digB_ne h0).2.2.2.2.2.2.2.2⟩
  · unfold letB
    rw [decide_eq_false (show ¬ 97 ≤ byteAt (lB l) 0 by omega), decide_eq_false (show ¬ 65 ≤ byteAt (lB l) 0 by omega)]
    rfl
  · generalize byteAt (lB l) 0 = b at hb
    rcases (by omega : b = 48 ∨ b = 49 ∨ b = 50 ∨ b = 51 ∨ b = 52 ∨ b = 53 ∨ b = 54 ∨ b = 55 ∨ b = 56 ∨ b = 57) with rfl | rfl | rfl | rfl | rfl | rfl | rfl | rfl | rfl | rfl <;> decide

end Tk
end Go.Proofs.YtmphkifhnjfkmaaGreatDoor

namespace Go.Proofs.YtmphkifhnjfkmaaGreatDoor
open Go.ChangeShapes Go.WideShapes Go.ChangeAt Go.RowKit Go.Lib
namespace Tk

def hexD (n : Nat) : UInt8 := if n < 10 then (48 + n).toUInt8 else (55 + n).toUInt8
def quoteOne (x : UInt8) : List UInt8 :=
  if x == 10 then [92, 110] else if x == 9 then [92, 116] else if x == 13 then [92, 114] else if x == 0 then [92, 48] else if x == 34 then [92, 34] else if x == 92 then [92, 92]
  else if x.toNat < 32 || x.toNat == 127 then [92, 120, hexD (x.toNat / 16), hexD (x.toNat % 16)] else [x]

def quoteAll (l : List UInt8) : List UInt8 := 34 :: (l.flatMap quoteOne ++ [34])

theorem decodeN_two (n b0 b1 b2 b3 : Nat) (h0 : b0 / 32 = 6) (hn : 1 < n) (h1 : b1 / 64 = 2) (hv : 128 ≤ b0 % 32 * 64 + b1 % 64) : decodeN n b0 b1 b2 b3 = (b0 % 32 * 64 + b1 % 64, 2) := by
  unfold decodeN
  rw [if_neg (by omega), if_pos ⟨h0, hn, h1⟩, if_pos hv]
theorem decodeN_three (n b0 b1 b2 b3 : Nat) (h0 : b0 / 16 = 14) (hn : 2 < n) (h1 : b1 / 64 = 2) (h2 : b2 / 64 = 2) (hv : 2048 ≤ b0 % 16 * 4096 + b1 % 64 * 64 + b2 % 64)
    (hw : b0 % 16 * 4096 + b1 % 64 * 64 + b2 % 64 < 55296 ∨ 57344 ≤ b0 % 16 * 4096 + b1 % 64 * 64 + b2 % 64) : decodeN n b0 b1 b2 b3 = (b0 % 16 * 4096 + b1 % 64 * 64 + b2 % 64, 3) := by
  unfold decodeN
  rw [if_neg (by omega), if_neg (by omega), if_pos ⟨h0, ⟨by omega, h1⟩, ⟨by omega, h2⟩⟩, if_pos ⟨hv, by omega⟩]
theorem decodeN_four (n b0 b1 b2 b3 : Nat) (h0 : b0 / 8 = 30) (hn : 3 < n) (h1 : b1 / 64 = 2) (h2 : b2 / 64 = 2) (h3 : b3 / 64 = 2) (hv : 65536 ≤ b0 % 8 * 262144 + b1 % 64 * 4096 + b2 % 64 * 64 + b3 % 64)
    (hw : b0 % 8 * 262144 + b1 % 64 * 4096 + b2 % 64 * 64 + b3 % 64 ≤ 1114111) : decodeN n b0 b1 b2 b3 = (b0 % 8 * 262144 + b1 % 64 * 4096 + b2 % 64 * 64 + b3 % 64, 4) := by
  unfold decodeN
  rw [if_neg (by omega), if_neg (by omega), if_neg (by omega), if_pos ⟨h0, ⟨by omega, h1⟩, ⟨by omega, h2⟩, ⟨by omega, h3⟩⟩, if_pos ⟨hv, by omega⟩]

theorem two_of : ∀ l : List UInt8, 1 < l.length → ∃ a b t, l = a :: b :: t
  | [_], h => by simp at h
  | a :: b :: t, _ => ⟨a, b, t, rfl⟩
theorem three_of : ∀ l : List UInt8, 2 < l.length → ∃ a b c t, l = a :: b :: c :: t
  | [_], h => by simp at h
  | [_, _], h => by simp at h
  | a :: b :: c :: t, _ => ⟨a, b, c, t, rfl⟩
theorem four_of : ∀ l : List UInt8, 3 < l.length → ∃ a b c d t, l = a :: b :: c :: d :: t
  | [_], h => by simp at h
  | [_, _], h => by simp at h
  | [_, _, _], h => by simp at h
  | a :: b :: c :: d :: t, _ => ⟨a, b, c, d, t, rfl⟩

/-- A character of more than one byte: its bytes, and that nothing behind them matters. -/
theorem decode_high (l X : List UInt8) (hv : ¬ ((decodeL l).1 = 65533 ∧ (decodeL l).2 = 1)) (h0 : 128 ≤ (l.getD 0 0).toNat) :
    (∀ b ∈ l.take (decodeL l).2, 128 ≤ b.toNat) ∧ decodeL (l.take (decodeL l).2 ++ X) = decodeL l ∧ 128 ≤ (decodeL l).1 ∧ 2 ≤ (decodeL l).2 := by
  rw [decodeL_N l] at hv ⊢
  rcases decodeN_shape l.length (l.getD 0 0).toNat (l.getD 1 0).toNat (l.getD 2 0).toNat (l.getD 3 0).toNat with ⟨c, e⟩ | ⟨c1, c2, c3, cv, e⟩ | ⟨c1, c2, c3, c4, cv, cs, e⟩ | ⟨c1, c2, c3, c4, c5, cv, cw, e⟩ | e
  · omega
  · obtain ⟨a, b, t, rfl⟩ := two_of l c2
    rw [e]
    simp only [List.getD_cons_zero, List.getD_cons_succ] at c1 c3 cv ⊢
    refine ⟨?_, ?_, by omega, by omega⟩
    · intro x hx
      simp at hx
      rcases hx with rfl | rfl <;> omega
    · rw [decodeL_N]
      exact decodeN_two _ _ _ _ _ c1 (by simp) c3 cv
  · obtain ⟨a, b, d, t, rfl⟩ := three_of l c2
    rw [e]
    simp only [List.getD_cons_zero, List.getD_cons_succ] at c1 c3 c4 cv cs ⊢
    refine ⟨?_, ?_, by omega, by omega⟩
    · intro x hx
      simp at hx
      rcases hx with rfl | rfl | rfl <;> omega
    · rw [decodeL_N]
      exact decodeN_three _ _ _ _ _ c1 (by simp) c3 c4 cv cs
  · obtain ⟨a, b, d, f, t, rfl⟩ := four_of l c2
    rw [e]
    simp only [List.getD_cons_zero, List.getD_cons_succ] at c1 c3 c4 c5 cv cw ⊢
    refine ⟨?_, ?_, by omega, by omega⟩
    · intro x hx
      simp at hx
      rcases hx with rfl | rfl | rfl | rfl <;> omega
    · rw [decodeL_N]
      exact decodeN_four _ _ _ _ _ c1 (by simp) c3 c4 c5 cv cw
  · rw [e] at hv
    exact absurd ⟨rfl, rfl⟩ hv


theorem byteAt_get (s : ByteArray) (i : Nat) : byteAt s i = ((s.data.toList.getD i 0).toNat : Int) := by
  unfold byteAt
  split
  · rename_i h
    have hl : i < s.data.toList.length := by rw [Array.length_toList]; exact h
    rw [List.getD_eq_getElem?_getD, List.getElem?_eq_getElem hl]
    rfl
  · rename_i h
    have hl : s.data.toList.length ≤ i := by rw [Array.length_toList]; exact Nat.le_of_not_lt h
    rw [List.getD_eq_getElem?_getD, List.getElem?_eq_none hl]
    rfl

theorem at_drop {s : ByteArray} {p : Nat} {L : List UInt8} (h : s.data.toList.drop p = L) (j : Nat) : byteAt s (p + j) = ((L.getD j 0).toNat : Int) := by
  rw [byteAt_get, ← h, List.getD_eq_getElem?_getD, List.getD_eq_getElem?_getD, List.getElem?_drop]

theorem pre_drop {s : ByteArray} {p : Nat} {L : List UInt8} (h : s.data.toList.drop p = L) (x : ByteArray) : Lib.hasPrefix (s.extract p s.size).data.toList x.data.toList = x.data.toList.isPrefixOf L := by
  rw [Lib.ext_list, h]
  rfl

theorem len_drop {s : ByteArray} {p : Nat} {L : List UInt8} (h : s.data.toList.drop p = L) : L.length = s.size - p := by
  rw [← h, List.length_drop, Array.length_toList]
  rfl

theorem hex_facts (n : Nat) (h : n < 128) (hh : n < 32 ∨ n = 127) : digitV ((hexD (n / 16)).toNat : Int) 16 < 8 ∧ digitV ((hexD (n % 16)).toNat : Int) 16 < 16 ∧ digitV ((hexD (n / 16)).toNat : Int) 16 * 16 + digitV ((hexD (n % 16)).toNat : Int) 16 = n := by
  have hall : ((List.range 128).all fun n => !(decide (n < 32 ∨ n = 127)) || (decide (digitV ((hexD (n / 16)).toNat : Int) 16 < 8) && decide (digitV ((hexD (n % 16)).toNat : Int) 16 < 16) && decide (digitV ((hexD (n / 16)).toNat : Int) 16 * 16 + digitV ((hexD (n % 16)).toNat : Int) 16 = n))) = true := by decide +kernel
  have := List.all_eq_true.1 hall n (List.mem_range.2 h)
  simp only [decide_eq_true hh, Bool.not_true, Bool.false_or, Bool.and_eq_true, decide_eq_true_eq] at this
  exact ⟨this.1.1, this.1.2, this.2⟩

theorem quote_high (l : List UInt8) (h : ∀ b ∈ l, 128 ≤ b.toNat) : l.flatMap quoteOne = l := by
  induction l with
  | nil => rfl
  | cons x t ih =>
    have hx := h x (by simp)
    have q : ∀ k : UInt8, k.toNat < 128 → (x == k) = false := fun k hk => by
      simp only [beq_eq_false_iff_ne, ne_eq]
      intro e
      subst e
      omega
    have hq : quoteOne x = [x] := by
      unfold quoteOne
      rw [q 10 (by decide), q 9 (by decide), q 13 (by decide), q 0 (by decide), q 34 (by decide), q 92 (by decide)]
      have h1 : ¬ x.toNat < 32 := by omega
      have h2 : ¬ x.toNat = 127 := by omega
      simp [h1, h2]
    rw [List.flatMap_cons, hq, ih (fun b hb => h b (by simp [hb]))]
    rfl

end Tk
end Go.Proofs.YtmphkifhnjfkmaaGreatDoor

namespace Go.Proofs.YtmphkifhnjfkmaaGreatDoor
open Go.ChangeShapes Go.WideShapes Go.ChangeAt Go.RowKit
namespace Tk

/-! ### Keywords: in the text that has a blank on both sides of each, or in the list -/
def joined : List (List UInt8) → List UInt8
  | [] => []
  | x :: r => x ++ 32 :: joined r

theorem kwText_joined : kwText = 32 :: joined kwWords := by decide +kernel

theorem contains_nil (sub : List UInt8) (h : sub ≠ []) : Lib.contains [] sub = false := by
  unfold Lib.contains Lib.index
  cases sub with
  | nil => exact absurd rfl h
  | cons a t => simp

theorem contains_cons (b : UInt8) (l sub : List UInt8) : Lib.contains (b :: l) sub = (sub.isPrefixOf (b :: l) || Lib.contains l sub) := by
  unfold Lib.contains
  rw [Lib.index]
  by_cases h : sub.isPrefixOf (b :: l) = true
  · rw [if_pos h, h]; rfl
  · rw [if_neg h]
    have hg := Lib.index_ge l sub
    have h' : sub.isPrefixOf (b :: l) = false := by
      cases hh : sub.isPrefixOf (b :: l) with
      | true => exact absurd hh h
      | false => rfl
    rw [h', Bool.false_or]
    by_cases h1 : Lib.index l sub = -1
    · rw [if_pos (by simp [h1]), h1]
    · rw [if_neg (by simpa using h1)]
      by_cases h2 : 0 ≤ Lib.index l sub
      · rw [decide_eq_true h2, decide_eq_true (by omega)]
      · omega

theorem pref_word : ∀ (w x t : List UInt8), (32 : UInt8) ∉ w → (32 : UInt8) ∉ x → (w ++ [32]).isPrefixOf (x ++ 32 :: t) = (w == x)
  | [], [], t, _, _ => by simp [List.isPrefixOf]
  | [], a :: x, t, _, hx => by
    have ha : (32 : UInt8) ≠ a := fun e => hx (by rw [e]; exact List.mem_cons_self)
    simp [List.isPrefixOf, ha]
  | a :: w, [], t, hw, _ => by
    have ha : a ≠ 32 := fun e => hw (by rw [e]; exact List.mem_cons_self)
    simp [List.isPrefixOf, ha]
  | a :: w, b :: x, t, hw, hx => by
    have ih := pref_word w x t (fun h => hw (List.mem_cons_of_mem _ h)) (fun h => hx (List.mem_cons_of_mem _ h))
    show ((a == b) && (w ++ [32]).isPrefixOf (x ++ 32 :: t)) = ((a :: w) == (b :: x))
    rw [ih]
    rfl

theorem contains_skip : ∀ (x r sub : List UInt8), (32 : UInt8) ∉ x → Lib.contains (x ++ r) (32 :: sub) = Lib.contains r (32 :: sub)
  | [], _, _, _ => rfl
  | a :: x, r, sub, hx => by
    have ha : (32 : UInt8) ≠ a := fun e => hx (by rw [e]; exact List.mem_cons_self)
    rw [List.cons_append, contains_cons, contains_skip x r sub (fun h => hx (List.mem_cons_of_mem _ h))]
    have : (32 :: sub).isPrefixOf (a :: (x ++ r)) = false := by simp [List.isPrefixOf, ha]
    rw [this, Bool.false_or]

theorem contains_joined (w : List UInt8) (hw : (32 : UInt8) ∉ w) : ∀ ws : List (List UInt8), (∀ x ∈ ws, (32 : UInt8) ∉ x) → Lib.contains (32 :: joined ws) (32 :: (w ++ [32])) = ws.contains w
  | [], _ => by
    rw [contains_cons]
    show ((((32 : UInt8) == 32) && (w ++ [32]).isPrefixOf []) || Lib.contains [] (32 :: (w ++ [32]))) = _
    rw [contains_nil _ (by simp)]
    cases w <;> rfl
  | x :: r, h => by
    rw [contains_cons]
    show ((((32 : UInt8) == 32) && (w ++ [32]).isPrefixOf (x ++ 32 :: joined r)) || Lib.contains (x ++ 32 :: joined r) (32 :: (w ++ [32]))) = _
    rw [pref_word w x _ hw (h x List.mem_cons_self), contains_skip _ _ _ (h x List.mem_cons_self), contains_joined w hw r (fun y hy => h y (List.mem_cons_of_mem _ hy)), List.contains_cons]
    rfl

theorem keyword_same (w : List UInt8) (hw : (32 : UInt8) ∉ w) : Lib.contains kwText (32 :: (w ++ [32])) = kwWords.contains w := by
  rw [kwText_joined]
  refine contains_joined w hw kwWords ?_
  have : (kwWords.all fun x => !x.contains 32) = true := by decide +kernel
  intro x hx hc
  have := List.all_eq_true.1 this x hx
  simp at this
  exact this hc

/-! ### Words -/
def wordP (l : List UInt8) : Bool := !(Lib.trimRightB l 39).isEmpty && !digB ((Lib.trimRightB l 39).headD 0).toNat && (Lib.trimRightB l 39).all fun b => partB b.toNat
def refP (s : ByteArray) : Bool := !s.data.toList.isEmpty && (letB (byteAt s 0) || byteAt s 0 == 95) && decide (wordEnd s 0 = s.size)

theorem run_spec {p : Int → Bool} (p0 : p 0 = false) (s : ByteArray) : ∀ (n a : Nat), s.size - a = n → a ≤ s.size →
    a ≤ runEnd p s a ∧ runEnd p s a ≤ s.size ∧ (∀ j, a ≤ j → j < runEnd p s a → p (byteAt s j) = true) ∧ p (byteAt s (runEnd p s a)) = false := by
  intro n
  induction n with
  | zero =>
    intro a hn ha
    have he : byteAt s a = 0 := byteAt_out (by omega)
    rw [runEnd_off (by rw [he]; exact p0)]
    exact ⟨Nat.le_refl _, ha, fun j h1 h2 => by omega, by rw [he]; exact p0⟩
  | succ n ih =>
    intro a hn ha
    by_cases hp : p (byteAt s a) = true
    · rw [runEnd_on p0 hp]
      obtain ⟨h1, h2, h3, h4⟩ := ih (a + 1) (by omega) (by omega)
      refine ⟨by omega, h2, fun j hj1 hj2 => ?_, h4⟩
      by_cases hja : j = a
      · rw [hja]; exact hp
      · exact h3 j (by omega) hj2
    · have hp' : p (byteAt s a) = false := by simpa using hp
      rw [runEnd_off hp']
      exact ⟨Nat.le_refl _, ha, fun j h1 h2 => by omega, hp'⟩

theorem trim_spec (l : List UInt8) (c : UInt8) : ∃ t, l = Lib.trimRightB l c ++ t ∧ (∀ b ∈ t, b = c) ∧ ∀ b, (Lib.trimRightB l c).getLast? = some b → b ≠ c := by
  unfold Lib.trimRightB
  refine ⟨(l.reverse.takeWhile (· == c)).reverse, ?_, ?_, ?_⟩
  · rw [← List.reverse_append, List.takeWhile_append_dropWhile, List.reverse_reverse]
  · intro b hb
    rw [List.mem_reverse] at hb
    have := List.all_eq_true.1 (List.all_takeWhile (p := (· == c)) (l := l.reverse)) b hb
    simpa using this
  · intro b hb
    rw [List.getLast?_reverse] at hb
    cases hd : l.reverse.dropWhile (· == c) with
    | nil => rw [hd] at hb; cases hb
    | cons x r =>
      rw [hd] at hb
      cases hb
      have := List.head_dropWhile_not (p := (· == c)) (l := l.reverse) (by rw [hd]; simp)
      simp only [hd, List.head_cons] at this
      simpa using this

theorem part39 : partB 39 = false := by decide

theorem word_same (s : ByteArray) : wordP s.data.toList = refP s := by
  obtain ⟨t, hl, ht, hlast⟩ := trim_spec s.data.toList 39
  unfold wordP refP
  generalize Lib.trimRightB s.data.toList 39 = b at hl hlast
  have hsz : s.size = b.length + t.length := by
    have : s.data.toList.length = (b ++ t).length := by rw [← hl]
    rw [Array.length_toList, List.length_append] at this
    exact this
  have hb : ∀ j, j < b.length → byteAt s j = ((b.getD j 0).toNat : Int) := by
    intro j hj
    rw [byteAt_list, hl, List.getD_eq_getElem?_getD, List.getD_eq_getElem?_getD, List.getElem?_append_left hj]
  have hq : ∀ j, b.length ≤ j → j < s.size → byteAt s j = 39 := by
    intro j h1 h2
    have h3 : j - b.length < t.length := by omega
    rw [byteAt_list, hl, List.getD_eq_getElem?_getD, List.getElem?_append_right h1, List.getElem?_eq_getElem h3]
    have := ht _ (List.getElem_mem h3)
    simp [this]
  obtain ⟨k1, k2, k3, k4⟩ := run_spec part0 s s.size 0 (by omega) (Nat.zero_le _)
  obtain ⟨e1, e2, e3, e4⟩ := run_spec quote0 s (s.size - runEnd partB s 0) (runEnd partB s 0) rfl k2
  cases hbe : b with
  | nil =>
    rw [hbe] at hl hq hb hsz
    cases htt : t with
    | nil =>
      rw [htt] at hl
      rw [hl]
      rfl
    | cons x r =>
      have h0 : byteAt s 0 = 39 := hq 0 (Nat.le_refl _) (by rw [hsz, htt]; simp)
      rw [h0]
      simp [letB]
  | cons x r =>
    rw [← hbe]
    have hpos : 0 < b.length := by rw [hbe]; simp
    have hne : s.data.toList.isEmpty = false := by rw [hl, hbe]; rfl
    have hbn : b.isEmpty = false := by rw [hbe]; rfl
    rw [hne, hbn]
    have h0 : byteAt s 0 = ((b.headD 0).toNat : Int) := by
      rw [hb 0 hpos, hbe]
      rfl
    rw [← h0]
    have hall : (b.all fun y => partB y.toNat) = true ↔ ∀ j, j < b.length → partB (byteAt s j) = true := by
      rw [List.all_eq_true]
      constructor
      · intro h j hj
        rw [hb j hj, List.getD_eq_getElem?_getD, List.getElem?_eq_getElem hj]
        exact h _ (List.getElem_mem hj)
      · intro h y hy
        obtain ⟨j, hj, rfl⟩ := List.getElem_of_mem hy
        have := h j hj
        rw [hb j hj, List.getD_eq_getElem?_getD, List.getElem?_eq_getElem hj] at this
        exact this
    have hlb : byteAt s (b.length - 1) ≠ 39 := by
      rw [hb _ (by omega), List.getD_eq_getElem?_getD, ← List.getLast?_eq_getElem?]
      cases hg : b.getLast? with
      | none => rw [List.getLast?_eq_none_iff] at hg; rw [hg] at hpos; cases hpos
      | some y =>
        have := hlast y hg
        intro h
        apply this
        have h2 : y.toNat = 39 := by exact_mod_cast h
        exact UInt8.toNat_inj.1 h2
    have hend : (b.all fun y => partB y.toNat) = true ↔ wordEnd s 0 = s.size := by
      rw [hall]
      unfold wordEnd
      constructor
      · intro h
        have hk : runEnd partB s 0 = b.length := by
          by_cases hlt : runEnd partB s 0 < b.length
          · have := h _ hlt
            rw [k4] at this
            cases this
          · by_cases hgt : b.length < runEnd partB s 0
            · have h1 := k3 b.length (Nat.zero_le _) hgt
              rw [hq b.length (Nat.le_refl _) (by omega)] at h1
              rw [part39] at h1
              cases h1
            · omega
        rw [hk] at e1 e2 e3 e4 ⊢
        by_cases hlt : runEnd quoteB s b.length < s.size
        · rw [hq _ e1 hlt] at e4
          cases e4
        · omega
      · intro h j hj
        by_cases hjk : j < runEnd partB s 0
        · exact k3 j (Nat.zero_le _) hjk
        · exfalso
          have h1 := e3 (b.length - 1) (by omega) (by omega)
          unfold quoteB at h1
          exact hlb (by simpa using h1)
    by_cases ha : (b.all fun y => partB y.toNat) = true
    · rw [ha, decide_eq_true (hend.1 ha)]
      have hp0 := hall.1 ha 0 hpos
      unfold partB at hp0
      cases hL : letB (byteAt s 0)
      · cases hD : digB (byteAt s 0)
        · rw [hL, hD] at hp0
          have h95 : byteAt s 0 = 95 := by simpa using hp0
          rw [h95]
          rfl
        · have : byteAt s 0 ≠ 95 := by
            intro h
            rw [h] at hD
            cases hD
          simp [this]
      · have : digB (byteAt s 0) = false := by
          unfold letB at hL
          unfold digB
          simp at hL ⊢
          omega
        rw [this]
        rfl
    · have ha' : (b.all fun y => partB y.toNat) = false := by simpa using ha
      have hn : decide (wordEnd s 0 = s.size) = false := decide_eq_false (fun h => ha (hend.2 h))
      rw [ha', hn, Bool.and_false, Bool.and_false]

theorem word_blank (l : List UInt8) (h : wordP l = true) : (32 : UInt8) ∉ l := by
  obtain ⟨t, hl, ht, _⟩ := trim_spec l 39
  unfold wordP at h
  simp only [Bool.and_eq_true] at h
  intro hm
  rw [hl] at hm
  rcases List.mem_append.1 hm with h1 | h1
  · have := List.all_eq_true.1 h.2 _ h1
    revert this
    decide
  · have := ht _ h1
    revert this
    decide

end Tk
end Go.Proofs.YtmphkifhnjfkmaaGreatDoor

namespace Go.Proofs.YtmphkifhnjfkmaaGreatDoor
open Go.ChangeShapes Go.WideShapes Go.ChangeAt Go.RowKit Go.WideMaps Go.Maps
namespace Tk

/-! ### A written word is read as itself -/

theorem run_facts (p : Int → Bool) (p0 : p 0 = false) (s : ByteArray) : ∀ (n a : Nat), s.size ≤ a + n → (∀ i, a ≤ i → i < runEnd p s a → p (byteAt s i) = true) ∧ p (byteAt s (runEnd p s a)) = false
  | 0, a, h => by
    have hb : p (byteAt s a) = false := by rw [byteAt_out (by omega)]; exact p0
    rw [runEnd_off hb]
    exact ⟨fun i h1 h2 => by omega, hb⟩
  | n + 1, a, h => by
    cases hb : p (byteAt s a)
    · rw [runEnd_off hb]
      exact ⟨fun i h1 h2 => by omega, hb⟩
    · rw [runEnd_on p0 hb]
      obtain ⟨h1, h2⟩ := run_facts p p0 s n (a + 1) (by omega)
      refine ⟨fun i i1 i2 => ?_, h2⟩
      by_cases hi : i = a
      · rw [hi]; exact hb
      · exact h1 i (by omega) i2

theorem run_is (p : Int → Bool) (p0 : p 0 = false) (s : ByteArray) (e : Nat) (he : p (byteAt s e) = false) : ∀ (n a : Nat), e = a + n → (∀ i, a ≤ i → i < e → p (byteAt s i) = true) → runEnd p s a = e
  | 0, a, h, _ => by
    obtain rfl : e = a := by omega
    exact runEnd_off he
  | n + 1, a, h, hb => by
    rw [runEnd_on p0 (hb a (Nat.le_refl _) (by omega))]
    exact run_is p p0 s e he n (a + 1) (by omega) fun i i1 i2 => hb i (by omega) i2

theorem extract_all (x : ByteArray) : x.extract 0 x.size = x := by
  apply bytes_eq
  · rw [ByteArray.size_extract]; omega
  · intro i hi
    rw [byteAt_ext (by omega) (Nat.le_refl _), Nat.zero_add]

theorem wr_word {s : ByteArray} {p : Nat} (hp : partB (byteAt s p) = true) (hl : letB (byteAt s p) = true ∨ (letB (byteAt s p) = false ∧ byteAt s p = 95)) :
    Wr (wordKind (s.extract p (wordEnd s p)).data.toList) (s.extract p (wordEnd s p)) (s.extract p (wordEnd s p)) ∧ refP (s.extract p (wordEnd s p)) = true := by
  have hq := word_gt hp
  obtain ⟨m, hm⟩ : ∃ m, m = runEnd partB s p := ⟨_, rfl⟩
  obtain ⟨q, hqq⟩ : ∃ q, q = wordEnd s p := ⟨_, rfl⟩
  have hqm : q = runEnd quoteB s m := by rw [hqq, hm]; rfl
  obtain ⟨f1, f2⟩ := run_facts partB part0 s s.size p (by omega)
  obtain ⟨g1, g2⟩ := run_facts quoteB quote0 s s.size m (by omega)
  have e1 := runEnd_ge partB part0 s s.size p (by omega)
  have e2 := runEnd_ge quoteB quote0 s s.size m (by omega)
  rw [← hm] at f1 f2 e1
  rw [← hqm] at g1 g2 e2
  rw [← hqq] at hq ⊢
  have hqs : q ≤ s.size := by
    rcases Nat.lt_or_ge s.size q with h | h
    · exfalso
      by_cases hmq : m < q
      · have h3 := g1 (q - 1) (by omega) (by omega)
        rw [byteAt_out (by omega)] at h3
        exact absurd h3 (by decide)
      · have h3 := f1 (q - 1) (by omega) (by omega)
        rw [byteAt_out (by omega)] at h3
        exact absurd h3 (by decide)
    · exact h
  obtain ⟨x, hx⟩ : ∃ x, x = s.extract p q := ⟨_, rfl⟩
  have hz : x.size = q - p := by rw [hx, ByteArray.size_extract]; omega
  have hb : ∀ i, i < q - p → byteAt x i = byteAt s (p + i) := fun i hi => by rw [hx]; exact byteAt_ext (by omega) hqs
  have r1 : runEnd partB x 0 = m - p := by
    refine run_is partB part0 x (m - p) ?_ (m - p) 0 (by omega) fun i _ hi => by rw [hb i (by omega)]; exact f1 _ (by omega) (by omega)
    by_cases hmq : m < q
    · rw [hb _ (by omega), show p + (m - p) = m by omega]; exact f2
    · rw [byteAt_out (by omega)]; exact part0
  have r2 : wordEnd x 0 = x.size := by
    unfold wordEnd
    rw [r1, hz]
    refine run_is quoteB quote0 x (q - p) ?_ (q - m) (m - p) (by omega) fun i h1 h2 => by rw [hb i h2]; exact g1 _ (by omega) (by omega)
    rw [byteAt_out (by omega)]
    exact quote0
  have h0 : byteAt x 0 = byteAt s p := by rw [hb 0 (by omega), Nat.add_zero]
  rw [← hx]
  have hpart : partB (byteAt x 0) = true := by rw [h0]; exact hp
  have href : refP x = true := by
    unfold refP
    have e1 : x.data.toList.isEmpty = false := by
      cases h : x.data.toList with
      | nil =>
        have := size_list x
        rw [h] at this
        have h0 : (0 : Nat) = x.size := this
        omega
      | cons _ _ => rfl
    rw [e1, r2, decide_eq_true rfl, Bool.and_true, Bool.not_false, Bool.true_and, h0]
    rcases hl with hl | ⟨hl, h95⟩
    · rw [hl]; rfl
    · rw [hl, h95]; rfl
  refine ⟨⟨?_, by omega, stop_of (by omega) ?_ ?_⟩, href⟩
  · rcases hl with hl | ⟨hl, h95⟩
    · have ht := TokAt.word (s := x) (p := 0) (by rw [h0]; exact hl)
      rw [r2, extract_all] at ht
      exact ht
    · have ht := TokAt.under (s := x) (p := 0) (by rw [h0]; exact hl) (by rw [h0]; exact h95)
      rw [r2, extract_all] at ht
      exact ht
  · intro hbl
    have : ∀ b : Int, 0 ≤ blankI b → partB b = true → False := by
      intro b h1 h2
      unfold partB letB digB at h2
      simp only [Bool.or_eq_true, Bool.and_eq_true, decide_eq_true_eq] at h2
      unfold blankI at h1
      have hb2 : 48 ≤ b ∧ b ≤ 122 := by omega
      have h3 : ((List.range 123).all fun n => decide (n < 48) || decide (Lib.indexByte [32, 9, 13, 10] n.toUInt8 < 0)) = true := by decide +kernel
      have h4 := List.all_eq_true.1 h3 b.toNat (List.mem_range.2 (by omega))
      rw [Bool.or_eq_true, decide_eq_true_eq, decide_eq_true_eq] at h4
      omega
    exact this _ hbl hpart
  · intro h47
    rw [h47] at hpart
    exact absurd hpart (by decide)

/-! ### A written symbol is read as itself -/

def symOk (x : ByteArray) : Bool :=
  !letB (byteAt x 0) && !digB (byteAt x 0) && !(byteAt x 0 == 95) && !(byteAt x 0 == 39) && !(byteAt x 0 == 34) && !pre x 0 quote3 && decide ((bestN x 0 43).data.toList = x.data.toList) && decide (0 < x.size) && (match skipM x 0 with | .inl 0 => true | _ => false)

theorem symOk_all : ∀ x ∈ symB, symOk x = true := by
  have h : (symB.all symOk) = true := by decide +kernel
  exact fun x hx => List.all_eq_true.1 h x hx

set_option maxRecDepth 20000 in
theorem wr_symbol (x : ByteArray) (hx : x ∈ symB) : Wr 6 x x := by
  have h := symOk_all x hx
  unfold symOk at h
  simp only [Bool.and_eq_true, Bool.not_eq_true', decide_eq_true_eq, beq_eq_false_iff_ne, ne_eq] at h
  obtain ⟨⟨⟨⟨⟨⟨⟨⟨h1, h2⟩, h3⟩, h4⟩, h5⟩, h6⟩, h7⟩, h8⟩, h9⟩ := h
  obtain ⟨z, hz⟩ : ∃ z, z = bestN x 0 43 := ⟨_, rfl⟩
  have e : z = x := by
    rw [hz]
    apply ByteArray.ext
    exact Array.toList_inj.1 h7
  have ht : TokAt x 0 (.inl (6, bestN x 0 43, 0 + (bestN x 0 43).size)) := .symbol h1 h2 h3 h4 h5 h6 (by rw [← hz, e]; exact h8)
  rw [← hz, e, Nat.zero_add] at ht
  refine ⟨ht, h8, ?_⟩
  split at h9
  · rename_i hh; exact hh
  · cases h9

/-! ### A written string is read as itself -/

theorem esc_lit {T : ByteArray} {p : Nat} {c x : Int} (hc : byteAt T (p + 1) = c) (h : (c, x) ∈ [((110 : Int), (10 : Int)), (116, 9), (114, 13), (48, 0), (34, 34), (92, 92)]) : escM T p = some (x, p + 2) := by
  unfold escM
  rw [hc]
  simp only [List.mem_cons, Prod.mk.injEq, List.mem_nil_iff, or_false] at h
  rcases h with ⟨rfl, rfl⟩ | ⟨rfl, rfl⟩ | ⟨rfl, rfl⟩ | ⟨rfl, rfl⟩ | ⟨rfl, rfl⟩ | ⟨rfl, rfl⟩ <;> rfl

theorem charP_one (T : ByteArray) (p : Nat) (x : UInt8) (hx : x.toNat < 128) (more : List UInt8) (h : T.data.toList.drop p = quoteOne x ++ more) :
    charM T p = some ((x.toNat : Int), p + (quoteOne x).length) ∧ byteAt T p ≠ 34 ∧ 1 ≤ (quoteOne x).length := by
  by_cases h6 : x = 10 ∨ x = 9 ∨ x = 13 ∨ x = 0 ∨ x = 34 ∨ x = 92
  · have hE : ∃ c : UInt8, quoteOne x = [92, c] ∧ ((c.toNat : Int), (x.toNat : Int)) ∈ [((110 : Int), (10 : Int)), (116, 9), (114, 13), (48, 0), (34, 34), (92, 92)] := by
      rcases h6 with rfl | rfl | rfl | rfl | rfl | rfl
      · exact ⟨110, rfl, by decide⟩
      · exact ⟨116, rfl, by decide⟩
      · exact ⟨114, rfl, by decide⟩
      · exact ⟨48, rfl, by decide⟩
      · exact ⟨34, rfl, by decide⟩
      · exact ⟨92, rfl, by decide⟩
    obtain ⟨c, hq, hE⟩ := hE
    rw [hq] at h ⊢
    have hb : hasB T p back1 = true := by show Lib.hasPrefix _ _ = true; rw [pre_drop h]; rfl
    have h0 : byteAt T p = 92 := at_drop h 0
    refine ⟨?_, by rw [h0]; decide, by simp⟩
    unfold charM
    rw [if_pos hb]
    exact esc_lit (at_drop h 1) hE
  · simp only [not_or] at h6
    obtain ⟨h10, h9, h13, h0, h34, h92⟩ := h6
    have q10 : (x == 10) = false := by simpa using h10
    have q9 : (x == 9) = false := by simpa using h9
    have q13 : (x == 13) = false := by simpa using h13
    have q0 : (x == 0) = false := by simpa using h0
    have q34 : (x == 34) = false := by simpa using h34
    have q92 : (x == 92) = false := by simpa using h92
    by_cases hh : x.toNat < 32 ∨ x.toNat = 127
    · have hq : quoteOne x = [92, 120, hexD (x.toNat / 16), hexD (x.toNat % 16)] := by
        unfold quoteOne
        rw [q10, q9, q13, q0, q34, q92]
        simp [hh]
      rw [hq] at h ⊢
      obtain ⟨f1, f2, f3⟩ := hex_facts x.toNat hx hh
      have a1 : byteAt T (p + 1) = 120 := at_drop h 1
      have a2 : byteAt T (p + 2 + 0) = ((hexD (x.toNat / 16)).toNat : Int) := at_drop h 2
      have a3 : byteAt T (p + 2 + 1) = ((hexD (x.toNat % 16)).toNat : Int) := at_drop h 3
      have hb : hasB T p back1 = true := by show Lib.hasPrefix _ _ = true; rw [pre_drop h]; rfl
      have hx0 : byteAt T p = 92 := at_drop h 0
      refine ⟨?_, by rw [hx0]; decide, by simp⟩
      unfold charM
      rw [if_pos hb]
      have ho : hexOk T (p + 2) 2 = true := by
        show ((true && decide (digitV (byteAt T (p + 2 + 0)) 16 < 16)) && decide (digitV (byteAt T (p + 2 + 1)) 16 < 16)) = true
        rw [a2, a3, decide_eq_true (by omega), decide_eq_true f2]
        rfl
      have hv : hexV T (p + 2) 2 = x.toNat := by
        show (0 * 16 + digitV (byteAt T (p + 2 + 0)) 16) * 16 + digitV (byteAt T (p + 2 + 1)) 16 = _
        rw [a2, a3, ← f3]
        omega
      have hr : Lib.validRune (x.toNat : Int) = true := by
        unfold Lib.validRune
        exact decide_eq_true (.inl ⟨by omega, by omega⟩)
      have hm : hexM T (p + 2) 2 127 = some (x.toNat : Int) := by
        unfold hexM
        rw [if_pos ho, hv, if_pos (by omega), if_pos hr]
      unfold escM
      rw [a1]
      show (hexM T (p + 2) 2 127).map (fun r => (r, p + 2 + 2)) = _
      rw [hm]
      rfl
    · have hq : quoteOne x = [x] := by
        unfold quoteOne
        rw [q10, q9, q13, q0, q34, q92]
        simp only [not_or] at hh
        simp [hh.2]
        omega
      rw [hq] at h ⊢
      have hl := len_drop h
      simp only [List.cons_append, List.nil_append, List.length_cons] at hl
      have h10' : x.toNat ≠ 10 := fun e => h10 (UInt8.toNat_inj.1 e)
      have h34' : x.toNat ≠ 34 := fun e => h34 (UInt8.toNat_inj.1 e)
      have h92' : ((92 : UInt8) == x) = false := by simpa using fun e : 92 = x => h92 e.symm
      have hb : hasB T p back1 = false := by
        show Lib.hasPrefix _ _ = false
        rw [pre_drop h]
        show ((92 : UInt8) == x && _) = false
        rw [h92']
        rfl
      have hd : Lib.decodeGo (T.extract p T.size) = (x.toNat, 1) := by
        unfold Lib.decodeGo
        rw [if_neg (by rw [Lib.ext_size]; omega)]
        have e1 : Utf8.decode (T.extract p T.size) 0 = Lib.decodeL (T.data.toList.drop p) := by
          rw [← Lib.ext_list]
          rfl
        rw [e1, h]
        exact Lib.decodeL_ascii x more hx
      have hx0 := at_drop h 0
      rw [Nat.add_zero] at hx0
      refine ⟨?_, ?_, by simp⟩
      · unfold charM
        rw [if_neg (by rw [hb]; decide), hd, if_neg (by dsimp only; omega)]
        rfl
      · rw [hx0]
        show ((x.toNat : Nat) : Int) ≠ 34
        omega

/-- The literal of a valid text, read. -/
theorem lit_quoted (T : ByteArray) : ∀ (n : Nat) (l : List UInt8) (p : Nat) (rest : List UInt8), l.length ≤ n → Lib.validD l = true → T.data.toList.drop p = l.flatMap quoteOne ++ 34 :: rest →
    ∀ m, (l.flatMap quoteOne).length < m → ∃ rs, litF T m p = some (rs, p + (l.flatMap quoteOne).length) ∧ textOf rs = l := by
  intro n
  have nil : ∀ (p : Nat) (rest : List UInt8), T.data.toList.drop p = 34 :: rest → ∀ m, 0 < m → ∃ rs, litF T m p = some (rs, p) ∧ textOf rs = [] := fun p rest h m hm => by
    obtain ⟨m, rfl⟩ : ∃ k, m = k + 1 := ⟨m - 1, by omega⟩
    refine ⟨[], ?_, rfl⟩
    have := at_drop h 0
    rw [Nat.add_zero] at this
    unfold litF
    rw [this]
    rfl
  induction n with
  | zero =>
    intro l p rest hl _ h m hm
    obtain rfl : l = [] := List.eq_nil_of_length_eq_zero (by omega)
    exact nil p rest h m hm
  | succ n ih =>
    intro l p rest hl hv h m hm
    rcases Nat.eq_zero_or_pos l.length with hz | hpos
    · obtain rfl : l = [] := List.eq_nil_of_length_eq_zero hz
      exact nil p rest h m hm
    have hne : l ≠ [] := List.length_pos_iff.1 hpos
    obtain ⟨m, rfl⟩ : ∃ k, m = k + 1 := ⟨m - 1, by omega⟩
    by_cases hx : (l.getD 0 0).toNat < 128
    · obtain ⟨x, t, rfl⟩ : ∃ x t, l = x :: t := by
        cases l with
        | nil => exact absurd rfl hne
        | cons x t => exact ⟨x, t, rfl⟩
      rw [List.getD_cons_zero] at hx
      rw [Lib.validD_cons x t hx] at hv
      rw [List.flatMap_cons] at hm ⊢
      rw [List.flatMap_cons, List.append_assoc] at h
      rw [List.length_append] at hm ⊢
      obtain ⟨hc, h34, hk⟩ := charP_one T p x hx _ h
      have h' : T.data.toList.drop (p + (quoteOne x).length) = t.flatMap quoteOne ++ 34 :: rest := by
        rw [← List.drop_drop, h, List.drop_left]
      obtain ⟨rs, hL, ht⟩ := ih t _ rest (by simp at hl; omega) hv h' m (by omega)
      refine ⟨(x.toNat : Int) :: rs, ?_, ?_⟩
      · unfold litF
        rw [if_neg h34, hc]
        dsimp only
        rw [hL, ← Nat.add_assoc]
        rfl
      · show Lib.encodeRune x.toNat ++ textOf rs = x :: t
        rw [ht]
        unfold Lib.encodeRune
        rw [Lib.encodeRuneZ_one (by omega) (by omega)]
        simp
    · rw [Lib.validD_step l hne] at hv
      split at hv
      · cases hv
      rename_i hbad
      obtain ⟨hhi, hloc, hR, hK⟩ := decode_high l ((l.drop (Lib.decodeL l).2).flatMap quoteOne ++ 34 :: rest) hbad (by omega)
      have hkl := Lib.decodeL_le l hne
      have henc := Lib.encode_decode l hne hbad
      obtain ⟨R, K, hRK⟩ : ∃ R K, Lib.decodeL l = (R, K) := ⟨_, _, rfl⟩
      rw [hRK] at hhi hloc hR hK hkl henc hv hbad
      dsimp only at hhi hloc hR hK hkl henc hv hbad
      have hsplit : l.flatMap quoteOne = l.take K ++ (l.drop K).flatMap quoteOne := by
        conv => lhs; rw [← List.take_append_drop K l]
        rw [List.flatMap_append, quote_high _ hhi]
      have htl : (l.take K).length = K := by rw [List.length_take]; omega
      rw [hsplit] at hm ⊢
      rw [hsplit, List.append_assoc] at h
      rw [List.length_append, htl] at hm ⊢
      have hl2 := len_drop h
      rw [List.length_append, htl] at hl2
      have h' : T.data.toList.drop (p + K) = (l.drop K).flatMap quoteOne ++ 34 :: rest := by
        rw [← List.drop_drop, h]
        exact List.drop_left' htl
      obtain ⟨rs, hL, ht⟩ := ih (l.drop K) (p + K) rest (by rw [List.length_drop]; omega) hv h' m (by omega)
      have hdec : Lib.decodeGo (T.extract p T.size) = (R, K) := by
        unfold Lib.decodeGo
        rw [if_neg (by rw [Lib.ext_size]; omega)]
        have e1 : Utf8.decode (T.extract p T.size) 0 = Lib.decodeL (T.data.toList.drop p) := by
          rw [← Lib.ext_list]
          rfl
        rw [e1, h, hloc]
      obtain ⟨y, t, hyt⟩ : ∃ y t, l.take K = y :: t := by
        cases hq : l.take K with
        | nil => rw [hq] at htl; simp at htl; omega
        | cons y t => exact ⟨y, t, rfl⟩
      have hy := hhi y (by rw [hyt]; simp)
      rw [hyt] at h
      have hb0 : byteAt T p = ((y.toNat : Nat) : Int) := at_drop h 0
      have h34 : byteAt T p ≠ 34 := by omega
      have hb : hasB T p back1 = false := by
        cases hbb : hasB T p back1
        · rfl
        · have e := (pre_iff T p back1.data.toList fun b hb => (nz_b1 b hb).1).1 hbb 0 (by decide)
          rw [Nat.add_zero, hb0] at e
          have e92 : ((back1.data.toList[0]'(by decide)).toNat : Int) = 92 := rfl
          omega
      have hc : charM T p = some ((R : Int), p + K) := by
        unfold charM
        rw [if_neg (by rw [hb]; decide), hdec, if_neg (by dsimp only; omega)]
      refine ⟨(R : Int) :: rs, ?_, ?_⟩
      · unfold litF
        rw [if_neg h34, hc]
        dsimp only
        rw [hL, ← Nat.add_assoc]
        rfl
      · show Lib.encodeRune R ++ textOf rs = l
        rw [ht, henc, List.take_append_drop]

/-- A literal is read as its text. -/
theorem wr_string (l : List UInt8) (hv : Lib.validD l = true) : Wr 5 (lB l) (lB (quoteAll l)) := by
  have hd : (lB (quoteAll l)).data.toList.drop 1 = l.flatMap quoteOne ++ 34 :: [] := rfl
  have hz : (lB (quoteAll l)).size = (l.flatMap quoteOne).length + 2 := by rw [lB_size]; unfold quoteAll; simp
  obtain ⟨rs, hL, ht⟩ := lit_quoted (lB (quoteAll l)) l.length l 1 [] (Nat.le_refl _) hv hd ((lB (quoteAll l)).size + 1) (by omega)
  have h0 : byteAt (lB (quoteAll l)) 0 = 34 := at_head 34 _
  have h3 : pre (lB (quoteAll l)) 0 quote3 = false := by
    cases h : pre (lB (quoteAll l)) 0 quote3
    · rfl
    · exfalso
      have e1 := (pre_iff (lB (quoteAll l)) 0 quote3.data.toList fun b hb => (nz_q3 b hb).1).1 h 1 (by decide)
      have e2 := (pre_iff (lB (quoteAll l)) 0 quote3.data.toList fun b hb => (nz_q3 b hb).1).1 h 2 (by decide)
      have c1 : ((quote3.data.toList[1]'(by decide)).toNat : Int) = 34 := rfl
      have c2 : ((quote3.data.toList[2]'(by decide)).toNat : Int) = 34 := rfl
      rw [c1, Nat.zero_add] at e1
      rw [c2, Nat.zero_add] at e2
      -- the second quote closes the literal, and there is no third one
      have hm : litF (lB (quoteAll l)) ((lB (quoteAll l)).size + 1) 1 = some ([], 1) := by
        unfold litF
        rw [if_pos e1]
      rw [hm] at hL
      have hb : (l.flatMap quoteOne).length = 0 := by
        have := congrArg (fun o => (o.getD ([], 0)).2) hL
        have h4 : 1 = 1 + (l.flatMap quoteOne).length := this
        omega
      rw [byteAt_out (by omega)] at e2
      exact absurd e2 (by decide)
  have htk := TokAt.line h0 h3 rs _ hL
  rw [ht, show 1 + (l.flatMap quoteOne).length + 1 = (lB (quoteAll l)).size by omega] at htk
  exact ⟨htk, by omega, stop_of (by omega) (by rw [h0]; decide) (by rw [h0]; decide)⟩

/-! ### What a literal says is valid -/

theorem u8_of {z : Int} (h0 : 0 ≤ z) (h1 : z < 256) : (z.toNat.toUInt8).toNat = z.toNat := by
  show z.toNat % 256 = z.toNat
  omega

theorem dec2 (a b : UInt8) (t : List UInt8) (h0 : a.toNat / 32 = 6) (h1 : b.toNat / 64 = 2) (hv : 128 ≤ a.toNat % 32 * 64 + b.toNat % 64) : ∃ R, Lib.decodeL ([a, b] ++ t) = (R, 2) := by
  rw [Lib.decodeL_N]
  exact ⟨_, decodeN_two _ _ _ _ _ h0 (by simp) h1 hv⟩
theorem dec3 (a b c : UInt8) (t : List UInt8) (h0 : a.toNat / 16 = 14) (h1 : b.toNat / 64 = 2) (h2 : c.toNat / 64 = 2) (hv : 2048 ≤ a.toNat % 16 * 4096 + b.toNat % 64 * 64 + c.toNat % 64)
    (hw : a.toNat % 16 * 4096 + b.toNat % 64 * 64 + c.toNat % 64 < 55296 ∨ 57344 ≤ a.toNat % 16 * 4096 + b.toNat % 64 * 64 + c.toNat % 64) : ∃ R, Lib.decodeL ([a, b, c] ++ t) = (R, 3) := by
  rw [Lib.decodeL_N]
  exact ⟨_, decodeN_three _ _ _ _ _ h0 (by simp) h1 h2 hv hw⟩
theorem dec4 (a b c d : UInt8) (t : List UInt8) (h0 : a.toNat / 8 = 30) (h1 : b.toNat / 64 = 2) (h2 : c.toNat / 64 = 2) (h3 : d.toNat / 64 = 2) (hv : 65536 ≤ a.toNat % 8 * 262144 + b.toNat % 64 * 4096 + c.toNat % 64 * 64 + d.toNat % 64)
    (hw : a.toNat % 8 * 262144 + b.toNat % 64 * 4096 + c.toNat % 64 * 64 + d.toNat % 64 ≤ 1114111) : ∃ R, Lib.decodeL ([a, b, c, d] ++ t) = (R, 4) := by
  rw [Lib.decodeL_N]
  exact ⟨_, decodeN_four _ _ _ _ _ h0 (by simp) h1 h2 h3 hv hw⟩

theorem valid_step {l : List UInt8} {K R : Nat} (t : List UInt8) (hne : l ≠ []) (hd : Lib.decodeL (l ++ t) = (R, K)) (hK : K = l.length) (hK2 : 2 ≤ K) : Lib.validD (l ++ t) = Lib.validD t := by
  rw [Lib.validD_step (l ++ t) (by simp [hne]), hd, if_neg (by dsimp only; omega)]
  dsimp only
  rw [hK, List.drop_left]

theorem valid_rune (r : Int) (t : List UInt8) : Lib.validD (Lib.encodeRune r ++ t) = Lib.validD t := by
  unfold Lib.encodeRune
  by_cases c1 : 0 ≤ r ∧ r ≤ 127
  · rw [Lib.encodeRuneZ_one c1.1 c1.2]
    show Lib.validD (r.toNat.toUInt8 :: t) = _
    exact Lib.validD_cons _ _ (by rw [u8_of (by omega) (by omega)]; omega)
  by_cases c2 : 128 ≤ r ∧ r ≤ 2047
  · rw [Lib.encodeRuneZ_two c2.1 c2.2]
    have a := u8_of (z := 192 + r / 64) (by omega) (by omega)
    have b := u8_of (z := 128 + r % 64) (by omega) (by omega)
    obtain ⟨R, hR⟩ := dec2 _ _ t (by rw [a]; omega) (by rw [b]; omega) (by rw [a, b]; omega)
    exact valid_step t (by simp) hR rfl (by decide)
  by_cases c3 : (2048 ≤ r ∧ r < 55296) ∨ (57343 < r ∧ r ≤ 65535)
  · rw [Lib.encodeRuneZ_three c3]
    have a := u8_of (z := 224 + r / 4096) (by omega) (by omega)
    have b := u8_of (z := 128 + r / 64 % 64) (by omega) (by omega)
    have c := u8_of (z := 128 + r % 64) (by omega) (by omega)
    obtain ⟨R, hR⟩ := dec3 _ _ _ t (by rw [a]; omega) (by rw [b]; omega) (by rw [c]; omega) (by rw [a, b, c]; omega) (by rw [a, b, c]; omega)
    exact valid_step t (by simp) hR rfl (by decide)
  by_cases c4 : 65536 ≤ r ∧ r ≤ 1114111
  · rw [Lib.encodeRuneZ_four c4.1 c4.2]
    have a := u8_of (z := 240 + r / 262144) (by omega) (by omega)
    have b := u8_of (z := 128 + r / 4096 % 64) (by omega) (by omega)
    have c := u8_of (z := 128 + r / 64 % 64) (by omega) (by omega)
    have d := u8_of (z := 128 + r % 64) (by omega) (by omega)
    obtain ⟨R, hR⟩ := dec4 _ _ _ _ t (by rw [a]; omega) (by rw [b]; omega) (by rw [c]; omega) (by rw [d]; omega) (by rw [a, b, c, d]; omega) (by rw [a, b, c, d]; omega)
    exact valid_step t (by simp) hR rfl (by decide)
  rw [Lib.encodeRuneZ_bad (by omega)]
  obtain ⟨R, hR⟩ := dec3 239 191 189 t (by decide) (by decide) (by decide) (by decide) (by decide)
  exact valid_step (l := [239, 191, 189]) t (by simp) hR rfl (by decide)

theorem valid_text : ∀ rs : List Int, Lib.validD (textOf rs) = true
  | [] => rfl
  | r :: rs => by
    show Lib.validD (Lib.encodeRune r ++ textOf rs) = true
    rw [valid_rune, valid_text rs]

end Tk
end Go.Proofs.YtmphkifhnjfkmaaGreatDoor

namespace Go.Proofs.YtmphkifhnjfkmaaGreatDoor
open Go.ChangeShapes Go.WideShapes Go.ChangeAt Go.RowKit Go.WideMaps Go.Maps
namespace Tk

/-! ### The text of tokens that were read has these tokens -/

/-- How a token stands in a text. -/
def wtx (k : Int) (tx : ByteArray) : ByteArray := if k = 5 then lB (quoteAll tx.data.toList) else tx

theorem wordKind_ne (l : List UInt8) : wordKind l ≠ 5 ∧ (wordKind l = 1 ∨ wordKind l = 2) := by
  unfold wordKind
  split
  · exact ⟨by decide, .inr rfl⟩
  · exact ⟨by decide, .inl rfl⟩

theorem lB_list (x : ByteArray) : lB x.data.toList = x := by
  apply ByteArray.ext
  exact Array.toList_inj.1 rfl

theorem itoa_dec {r : Int} (h0 : 0 ≤ r) : (⟨(Lib.itoa r).toArray⟩ : ByteArray) = decB r.toNat := by
  unfold Lib.itoa decB
  rw [if_neg (by omega)]

theorem intT_dec (s : ByteArray) (a base N : Nat) : intT s a base N = decB (numW s a base N).1 := by
  have h := numW_lt s a base N
  unfold intT
  rw [wideZ_dec _ _ (by omega) (by omega)]
  show (⟨(Lib.decDigits _).toArray⟩ : ByteArray) = ⟨(Lib.decDigits _).toArray⟩
  rw [show (numW s a base N).1 / 18446744073709551616 * 18446744073709551616 + (numW s a base N).1 % 18446744073709551616 = (numW s a base N).1 by omega]

theorem wr_num {s : ByteArray} {p q : Nat} {k : Int} {tx : ByteArray} {r : Option (Int × ByteArray × Nat)} (hN : NumAt s p r) (hr : r = some (k, tx, q)) (hq : q ≤ s.size) : Wr k tx tx ∧ k ≠ 5 := by
  cases hN with
  | hexBad _ _ _ _ _ => cases hr
  | hexOver _ _ _ _ _ => cases hr
  | binBad _ _ _ _ _ _ => cases hr
  | binOver _ _ _ _ _ _ => cases hr
  | decBad _ _ _ _ _ _ => cases hr
  | decFrac _ _ _ _ _ _ => cases hr
  | decOver _ _ _ _ _ _ _ _ => cases hr
  | hexOk h0 N hR hN hv => cases hr; rw [intT_dec]; exact ⟨wr_int _ (numW_lt _ _ _ _), by decide⟩
  | binOk h0 hb N hR hN hv => cases hr; rw [intT_dec]; exact ⟨wr_int _ (numW_lt _ _ _ _), by decide⟩
  | decOk h0 hb N q' hR hN hF hv => cases hr; rw [intT_dec]; exact ⟨wr_int _ (numW_lt _ _ _ _), by decide⟩
  | decFloat h0 hb N q' hR hN hF =>
    cases hr
    rw [float_text]
    exact ⟨wr_float _ (float_form hR hN hF hq), by decide⟩

theorem bestN_mem {s : ByteArray} {p : Nat} (h : 1 ≤ (bestN s p 43).size) : bestN s p 43 ∈ symB := by
  rcases bestN_is s p 43 with e | ⟨k, hk, e, _⟩
  · omega
  · rw [e, List.getD_eq_getElem?_getD, List.getElem?_eq_getElem (show k < symB.length by rw [show symB.length = 43 by decide]; exact hk)]
    exact List.getElem_mem _

/-- What a token that was read says. -/
inductive Good : Int → ByteArray → Prop
  | word (x : ByteArray) (h : refP x = true) : Good (wordKind x.data.toList) x
  | int (N : Nat) (h : N < 340282366920938463463374607431768211456) : Good 3 (decB N)
  | float (l : List UInt8) (h : FloatL l) : Good 4 (lB l)
  | str (x : ByteArray) (h : Lib.validD x.data.toList = true) : Good 5 x
  | sym (x : ByteArray) (h : x ∈ symB) : Good 6 x

theorem good_num {s : ByteArray} {p q : Nat} {k : Int} {tx : ByteArray} {r : Option (Int × ByteArray × Nat)} (hN : NumAt s p r) (hr : r = some (k, tx, q)) (hq : q ≤ s.size) : Good k tx := by
  cases hN with
  | hexBad _ _ _ _ _ => cases hr
  | hexOver _ _ _ _ _ => cases hr
  | binBad _ _ _ _ _ _ => cases hr
  | binOver _ _ _ _ _ _ => cases hr
  | decBad _ _ _ _ _ _ => cases hr
  | decFrac _ _ _ _ _ _ => cases hr
  | decOver _ _ _ _ _ _ _ _ => cases hr
  | hexOk h0 N hR hN hv => cases hr; rw [intT_dec]; exact .int _ (numW_lt _ _ _ _)
  | binOk h0 hb N hR hN hv => cases hr; rw [intT_dec]; exact .int _ (numW_lt _ _ _ _)
  | decOk h0 hb N q' hR hN hF hv => cases hr; rw [intT_dec]; exact .int _ (numW_lt _ _ _ _)
  | decFloat h0 hb N q' hR hN hF =>
    cases hr
    rw [float_text]
    exact .float _ (float_form hR hN hF hq)

set_option maxRecDepth 20000 in
theorem good_tok {s : ByteArray} {p q : Nat} {k : Int} {tx : ByteArray} {r : (Int × ByteArray × Nat) ⊕ Int} (hp : p < s.size) (hT : TokAt s p r) (hr : r = .inl (k, tx, q)) (hq : q ≤ s.size) : Good k tx := by
  cases hT with
  | word hl =>
    simp only [Sum.inl.injEq, Prod.mk.injEq] at hr
    obtain ⟨rfl, rfl, rfl⟩ := hr
    exact .word _ (wr_word (by unfold partB; rw [hl]; rfl) (.inl hl)).2
  | under hl h95 =>
    simp only [Sum.inl.injEq, Prod.mk.injEq] at hr
    obtain ⟨rfl, rfl, rfl⟩ := hr
    exact .word _ (wr_word (by rw [h95]; decide) (.inr ⟨hl, h95⟩)).2
  | num hl hd h95 _ _ _ hN he =>
    simp only [Sum.inl.injEq, Prod.mk.injEq] at hr
    obtain ⟨rfl, rfl, rfl⟩ := hr
    exact good_num hN rfl hq
  | char hl hd h95 h39 r0 _ hm he =>
    simp only [Sum.inl.injEq, Prod.mk.injEq] at hr
    obtain ⟨rfl, rfl, rfl⟩ := hr
    obtain ⟨_, _, c0, c1⟩ := chrM_range hp hm
    rw [itoa_dec c0]
    exact .int _ (by omega)
  | block hl hd h95 h39 h34 h3 q0 hm =>
    simp only [Sum.inl.injEq, Prod.mk.injEq] at hr
    obtain ⟨rfl, rfl, rfl⟩ := hr
    have hv : Lib.validD (s.extract (p + 3) q0).data.toList = true := by
      unfold blkM at hm
      split at hm
      · cases hm
      · split at hm
        · rename_i hv
          have e := Option.some.inj hm
          rw [e] at hv
          exact hv
        · cases hm
    exact .str _ hv
  | line h34 h3 rs q0 hm =>
    simp only [Sum.inl.injEq, Prod.mk.injEq] at hr
    obtain ⟨rfl, rfl, rfl⟩ := hr
    exact .str _ (valid_text rs)
  | symbol hl hd h95 h39 h34 h3 hn =>
    simp only [Sum.inl.injEq, Prod.mk.injEq] at hr
    obtain ⟨rfl, rfl, rfl⟩ := hr
    exact .sym _ (bestN_mem hn)
  | numPart _ _ _ _ _ _ _ _ => cases hr
  | numBad _ _ _ _ => cases hr
  | charPart _ _ _ _ _ _ _ => cases hr
  | charBad _ _ _ _ _ => cases hr
  | blockBad _ _ _ _ _ _ _ => cases hr
  | lineBad _ _ _ => cases hr
  | symbolBad _ _ _ _ _ _ _ => cases hr

theorem toksA_good {s : ByteArray} {p : Nat} {f : Bool} {ts : List Tok} {res : Option (Nat × Int)} (h : ToksA s p f ts res) : ∀ t ∈ ts, Good t.kind t.text := by
  induction h with
  | last => intro t ht; cases ht
  | badSkip => intro t ht; cases ht
  | badRead => intro t ht; cases ht
  | tok p f b k tx q ts res h hb hr h1 h2 hn ih =>
    intro t ht
    rcases List.mem_cons.1 ht with rfl | ht
    · exact good_tok hb hr rfl h2
    · exact ih t ht

set_option maxRecDepth 20000 in
/-- A token that was read, as it is written, is read again. -/
theorem wr_tok {s : ByteArray} {p q : Nat} {k : Int} {tx : ByteArray} {r : (Int × ByteArray × Nat) ⊕ Int} (hp : p < s.size) (hT : TokAt s p r) (hr : r = .inl (k, tx, q)) (hq : q ≤ s.size) : Wr k tx (wtx k tx) := by
  cases hT with
  | word hl =>
    simp only [Sum.inl.injEq, Prod.mk.injEq] at hr
    obtain ⟨rfl, rfl, rfl⟩ := hr
    unfold wtx
    rw [if_neg (wordKind_ne _).1]
    exact (wr_word (by unfold partB; rw [hl]; rfl) (.inl hl)).1
  | under hl h95 =>
    simp only [Sum.inl.injEq, Prod.mk.injEq] at hr
    obtain ⟨rfl, rfl, rfl⟩ := hr
    unfold wtx
    rw [if_neg (wordKind_ne _).1]
    exact (wr_word (by rw [h95]; decide) (.inr ⟨hl, h95⟩)).1
  | num hl hd h95 _ _ _ hN he =>
    simp only [Sum.inl.injEq, Prod.mk.injEq] at hr
    obtain ⟨rfl, rfl, rfl⟩ := hr
    obtain ⟨h1, h2⟩ := wr_num hN rfl hq
    unfold wtx
    rw [if_neg h2]
    exact h1
  | char hl hd h95 h39 r0 _ hm he =>
    simp only [Sum.inl.injEq, Prod.mk.injEq] at hr
    obtain ⟨rfl, rfl, rfl⟩ := hr
    obtain ⟨_, _, c0, c1⟩ := chrM_range hp hm
    unfold wtx
    rw [if_neg (by decide), itoa_dec c0]
    exact wr_int _ (by omega)
  | block hl hd h95 h39 h34 h3 q0 hm =>
    simp only [Sum.inl.injEq, Prod.mk.injEq] at hr
    obtain ⟨rfl, rfl, rfl⟩ := hr
    have hv : Lib.validD (s.extract (p + 3) q0).data.toList = true := by
      unfold blkM at hm
      split at hm
      · cases hm
      · split at hm
        · rename_i hv
          have e := Option.some.inj hm
          rw [e] at hv
          exact hv
        · cases hm
    unfold wtx
    rw [if_pos rfl]
    have h := wr_string _ hv
    rw [lB_list] at h
    exact h
  | line h34 h3 rs q0 hm =>
    simp only [Sum.inl.injEq, Prod.mk.injEq] at hr
    obtain ⟨rfl, rfl, rfl⟩ := hr
    unfold wtx
    rw [if_pos rfl]
    exact wr_string _ (valid_text rs)
  | symbol hl hd h95 h39 h34 h3 hn =>
    simp only [Sum.inl.injEq, Prod.mk.injEq] at hr
    obtain ⟨rfl, rfl, rfl⟩ := hr
    unfold wtx
    rw [if_neg (by decide)]
    exact wr_symbol _ (bestN_mem hn)
  | numPart _ _ _ _ _ _ _ _ => cases hr
  | numBad _ _ _ _ => cases hr
  | charPart _ _ _ _ _ _ _ _ => cases hr
  | charBad _ _ _ _ _ => cases hr
  | blockBad _ _ _ _ _ _ _ => cases hr
  | lineBad _ _ _ => cases hr
  | symbolBad _ _ _ _ _ _ _ => cases hr

theorem toksA_wr {s : ByteArray} {p : Nat} {f : Bool} {ts : List Tok} {res : Option (Nat × Int)} (h : ToksA s p f ts res) : ∀ t ∈ ts, Wr t.kind t.text (wtx t.kind t.text) := by
  induction h with
  | last => intro t ht; cases ht
  | badSkip => intro t ht; cases ht
  | badRead => intro t ht; cases ht
  | tok p f b k tx q ts res h hb hr h1 h2 hn ih =>
    intro t ht
    rcases List.mem_cons.1 ht with rfl | ht
    · exact wr_tok hb hr rfl h2
    · exact ih t ht

/-- What stands ahead of a token that is not the first one. -/
def gapB (l : Bool) : UInt8 := if l then 10 else 32

/-- The tokens behind the first one, as they are written. -/
def joinT : List Tok → List UInt8
  | [] => []
  | t :: r => gapB t.line :: ((wtx t.kind t.text).data.toList ++ joinT r)

/-- The text of some tokens. -/
def textT : List Tok → List UInt8
  | [] => []
  | t :: r => (wtx t.kind t.text).data.toList ++ joinT r

def Tok.key (t : Tok) : Int × ByteArray × Bool := (t.kind, t.text, t.line)

theorem neu_join {u : ByteArray} {p : Nat} {r : List Tok} (h : u.data.toList.drop p = joinT r) : Neu (byteAt u p) := by
  have hb := at_drop h 0
  rw [Nat.add_zero] at hb
  rw [hb]
  cases r with
  | nil => exact .inl rfl
  | cons t r =>
    show Neu ((gapB t.line).toNat : Int)
    unfold gapB
    cases t.line
    · exact .inr (.inr (.inr rfl))
    · exact .inr (.inr (.inl rfl))

theorem vw_at {u : ByteArray} {p : Nat} (hp : p ≤ u.size) (x : ByteArray) {r : List UInt8} (h : u.data.toList.drop p = x.data.toList ++ r) : Vw x u p 0 x.size ∧ u.data.toList.drop (p + x.size) = r := by
  have hl := len_drop h
  rw [List.length_append, size_list] at hl
  refine ⟨⟨Nat.le_refl _, by omega, fun i _ hi => ?_⟩, ?_⟩
  · rw [Nat.add_comm i p, at_drop h i, byteAt_list, List.getD_eq_getElem?_getD, List.getD_eq_getElem?_getD, List.getElem?_append_left (by rw [size_list]; exact hi)]
  · rw [← List.drop_drop, h]
    exact List.drop_left' (size_list x)

theorem gap_blank (l : Bool) : 0 ≤ blankI ((gapB l).toNat : Int) ∧ ([gapB l].contains 10) = l := by
  cases l <;> exact ⟨by decide, by decide⟩

theorem toksA_join : ∀ (r : List Tok) (u : ByteArray) (p : Nat), p ≤ u.size → u.data.toList.drop p = joinT r → (∀ t ∈ r, Wr t.kind t.text (wtx t.kind t.text)) → ∃ us, ToksA u p false us none ∧ us.map Tok.key = r.map Tok.key
  | [], u, p, hp, h, _ => by
    have hl := len_drop h
    have hz : (joinT []).length = 0 := rfl
    have e : p = u.size := by omega
    refine ⟨[], .last p false ?_, rfl⟩
    rw [skipM_eq u p hp, if_neg (by omega), e]
  | t :: r, u, p, hp, h, hw => by
    obtain ⟨x, hx⟩ : ∃ x, x = wtx t.kind t.text := ⟨_, rfl⟩
    have hW := hw t (.head _)
    have h' : u.data.toList.drop p = gapB t.line :: (x.data.toList ++ joinT r) := by rw [hx]; exact h
    rw [← hx] at hW
    have hl := len_drop h'
    rw [List.length_cons, List.length_append, size_list] at hl
    have hpos := hW.pos
    have hb : byteAt u p = (gapB t.line).toNat := by
      have := at_drop h' 0
      rw [Nat.add_zero] at this
      exact this
    have h1 : u.data.toList.drop (p + 1) = x.data.toList ++ joinT r := by
      rw [← List.drop_drop, h']
      rfl
    obtain ⟨V, hrest⟩ := vw_at (show p + 1 ≤ u.size by omega) x h1
    have n : Neu (byteAt u (x.size + (p + 1))) := by
      have := neu_join hrest
      rwa [Nat.add_comm (p + 1) x.size] at this
    have hs1 := V.stop n (Nat.le_refl _) hpos hW.stop
    rw [Nat.zero_add] at hs1
    have hs0 : skipM u p = .inl (p + 1) := by
      rw [skipM_eq u p hp, if_pos (by omega), if_pos (by rw [hb]; exact (gap_blank t.line).1)]
      exact hs1
    have htk := (V.tok n (Nat.le_refl _) hW.tok rfl (Nat.le_refl _)).2
    rw [Nat.zero_add] at htk
    have hf : feedB u p (p + 1) = t.line := by
      obtain ⟨y, hy, ey⟩ := ext_one (s := u) (a := p) (by omega)
      have hyg : y = gapB t.line := UInt8.toNat.inj (by omega)
      unfold feedB
      rw [decide_eq_false (show ¬ p + 1 = u.size by omega), Bool.false_or, indexB_mem, hy, hyg]
      exact (gap_blank t.line).2
    obtain ⟨us, hU, hK⟩ := toksA_join r u (x.size + (p + 1)) (by omega) (by rw [Nat.add_comm x.size (p + 1)]; exact hrest) fun t ht => hw t (.tail _ ht)
    refine ⟨_, .tok p false (p + 1) t.kind t.text (x.size + (p + 1)) us none hs0 (by omega) htk (by omega) (by omega) hU, ?_⟩
    rw [List.map_cons, List.map_cons, hK, hf, Bool.or_false]
    rfl

theorem toksA_first {s : ByteArray} {p : Nat} {t : Tok} {r : List Tok} {res : Option (Nat × Int)} (h : ToksA s p true (t :: r) res) : t.line = true := by
  cases h with
  | tok p f b k tx q ts res h hb hr h1 h2 hn => exact Bool.or_true _

/-- The text of the tokens of a text has these tokens. -/
theorem toksA_text {s : ByteArray} {ts : List Tok} {res : Option (Nat × Int)} (h : ToksA s 0 true ts res) : ∃ us, ToksA (lB (textT ts)) 0 true us none ∧ us.map Tok.key = ts.map Tok.key := by
  have hw := toksA_wr h
  cases ts with
  | nil =>
    refine ⟨[], .last 0 true ?_, rfl⟩
    rw [skipM_eq _ 0 (Nat.zero_le _), if_neg (by decide)]
    rfl
  | cons t r =>
    have hline := toksA_first h
    obtain ⟨x, hx⟩ : ∃ x, x = wtx t.kind t.text := ⟨_, rfl⟩
    have hW := hw t (.head _)
    rw [← hx] at hW
    have hpos := hW.pos
    obtain ⟨u, hu⟩ : ∃ u, u = lB (textT (t :: r)) := ⟨_, rfl⟩
    rw [← hu]
    have h1 : u.data.toList.drop 0 = x.data.toList ++ joinT r := by rw [hu, hx]; rfl
    have hl := len_drop h1
    rw [List.length_append, size_list] at hl
    obtain ⟨V, hrest⟩ := vw_at (Nat.zero_le _) x h1
    have n : Neu (byteAt u (x.size + 0)) := by
      have := neu_join hrest
      rwa [Nat.add_comm 0 x.size] at this
    have hs0 := V.stop n (Nat.le_refl _) hpos hW.stop
    rw [Nat.add_zero] at hs0
    have htk := (V.tok n (Nat.le_refl _) hW.tok rfl (Nat.le_refl _)).2
    rw [Nat.add_zero] at htk
    obtain ⟨us, hU, hK⟩ := toksA_join r u (x.size + 0) (by omega) (by rw [Nat.add_comm x.size 0]; exact hrest) fun t ht => hw t (.tail _ ht)
    refine ⟨_, .tok 0 true 0 t.kind t.text (x.size + 0) us none hs0 (by omega) htk (by omega) (by omega) hU, ?_⟩
    rw [List.map_cons, List.map_cons, hK]
    show (t.kind, t.text, feedB u 0 0 || true) :: _ = (t.kind, t.text, t.line) :: _
    rw [hline, Bool.or_true]

theorem join_key : ∀ {r r' : List Tok}, r.map Tok.key = r'.map Tok.key → joinT r = joinT r'
  | [], [], _ => rfl
  | [], _ :: _, h => by cases h
  | _ :: _, [], h => by cases h
  | t :: r, t' :: r', h => by
    rw [List.map_cons, List.map_cons] at h
    obtain ⟨h1, h2⟩ := List.cons.inj h
    have k1 : t.kind = t'.kind := congrArg (fun x => x.1) h1
    have k2 : t.text = t'.text := congrArg (fun x => x.2.1) h1
    have k3 : t.line = t'.line := congrArg (fun x => x.2.2) h1
    show gapB t.line :: ((wtx t.kind t.text).data.toList ++ joinT r) = gapB t'.line :: ((wtx t'.kind t'.text).data.toList ++ joinT r')
    rw [k1, k2, k3, join_key h2]

theorem text_key {r r' : List Tok} (h : r.map Tok.key = r'.map Tok.key) : textT r = textT r' := by
  cases r with
  | nil =>
    cases r' with
    | nil => rfl
    | cons _ _ => cases h
  | cons t r =>
    cases r' with
    | nil => cases h
    | cons t' r' =>
      rw [List.map_cons, List.map_cons] at h
      obtain ⟨h1, h2⟩ := List.cons.inj h
      have k1 : t.kind = t'.kind := congrArg (fun x => x.1) h1
      have k2 : t.text = t'.text := congrArg (fun x => x.2.1) h1
      show (wtx t.kind t.text).data.toList ++ joinT r = (wtx t'.kind t'.text).data.toList ++ joinT r'
      rw [k1, k2, join_key h2]

end Tk
end Go.Proofs.YtmphkifhnjfkmaaGreatDoor

namespace Go.Proofs.YtmphkifhnjfkmaaGreatDoor
open Go.ChangeShapes Go.WideShapes Go.ChangeAt Go.RowKit Go.WideMaps Go.Maps
namespace Tk

/-! ### Facts for Text -/

def digL : List UInt8 := [48, 49, 50, 51, 52, 53, 54, 55, 56, 57]

theorem digL_mem (b : UInt8) : digL.contains b = true ↔ 48 ≤ b.toNat ∧ b.toNat ≤ 57 := by
  have h : ((List.range 256).all fun n => digL.contains n.toUInt8 == (decide (48 ≤ n) && decide (n ≤ 57))) = true := by decide +kernel
  have h1 := List.all_eq_true.1 h b.toNat (List.mem_range.2 b.toNat_lt)
  have h2 : b.toNat.toUInt8 = b := by simp
  rw [h2] at h1
  have h3 : digL.contains b = (decide (48 ≤ b.toNat) && decide (b.toNat ≤ 57)) := by simpa using h1
  rw [h3, Bool.and_eq_true, decide_eq_true_eq, decide_eq_true_eq]

theorem drop_stops {B : List UInt8} (h : Stops B) : Lib.trimLeftS B digL = B := by
  cases B with
  | nil => rfl
  | cons b t =>
    have h1 := h.1
    rw [at_head, digB_iff] at h1
    have h2 : digL.contains b = false := by
      cases hc : digL.contains b
      · rfl
      · have := (digL_mem b).1 hc
        exact absurd ⟨by omega, by omega⟩ h1
    show (b :: t).dropWhile _ = _
    rw [List.dropWhile_cons, if_neg (by rw [h2]; decide)]

theorem drop_digits : ∀ (D B : List UInt8), AllD D → Stops B → Lib.trimLeftS (D ++ B) digL = B
  | [], B, _, h => drop_stops h
  | b :: D, B, hD, h => by
    have h1 := (digL_mem b).2 (hD b (.head _))
    show (b :: (D ++ B)).dropWhile _ = _
    rw [List.dropWhile_cons, if_pos h1]
    exact drop_digits D B (fun x hx => hD x (.tail _ hx)) h

theorem dec_head : ∀ (n N : Nat), N ≤ n → 0 < N → ∃ b t, Lib.decDigits N = b :: t ∧ b ≠ 48
  | 0, N, h, h0 => by omega
  | n + 1, N, h, h0 => by
    by_cases hN : N < 10
    · refine ⟨_, [], Lib.decDigits_one hN, ?_⟩
      rcases (by omega : N = 1 ∨ N = 2 ∨ N = 3 ∨ N = 4 ∨ N = 5 ∨ N = 6 ∨ N = 7 ∨ N = 8 ∨ N = 9) with rfl | rfl | rfl | rfl | rfl | rfl | rfl | rfl | rfl <;> decide
    · obtain ⟨b, t, e, hb⟩ := dec_head n (N / 10) (by omega) (by omega)
      refine ⟨b, t ++ [UInt8.ofNat (48 + N % 10)], ?_, hb⟩
      rw [dec_step (by omega), e]
      rfl

/-- A number's text begins with 0 only where it is 0. -/
theorem dec_zero {N : Nat} (h : byteAt (decB N) 0 = 48) : decB N = ⟨#[48]⟩ := by
  rcases Nat.eq_zero_or_pos N with h0 | h0
  · subst h0
    unfold decB
    rw [Lib.decDigits_one (by decide)]
    rfl
  · obtain ⟨b, t, e, hb⟩ := dec_head N N (Nat.le_refl _) h0
    exfalso
    have h1 : byteAt (decB N) 0 = b.toNat := by
      have : decB N = lB (b :: t) := by unfold decB lB; rw [e]
      rw [this, at_head]
    exact hb (UInt8.toNat.inj (by have e48 : (48 : UInt8).toNat = 48 := rfl; omega))

theorem lB_tail (b : UInt8) (l : List UInt8) : (lB (b :: l)).extract 1 (lB (b :: l)).size = lB l := by
  apply ByteArray.ext
  apply Array.ext'
  rw [Lib.ext_list]
  rfl

theorem good_ref {k : Int} {x : ByteArray} (h : Good k x) (hk : k = 1 ∨ k = 2) : refP x = true ∧ kwWords.contains x.data.toList = decide (k = 2) := by
  cases h with
  | word x h =>
    refine ⟨h, ?_⟩
    unfold wordKind
    split
    · rename_i hc; rw [hc]; rfl
    · rename_i hc; rw [Bool.not_eq_true] at hc; rw [hc]; rfl
  | int _ _ => rcases hk with hk | hk <;> cases hk
  | float _ _ => rcases hk with hk | hk <;> cases hk
  | str _ _ => rcases hk with hk | hk <;> cases hk
  | sym _ _ => rcases hk with hk | hk <;> cases hk

end Tk
end Go.Proofs.YtmphkifhnjfkmaaGreatDoor

namespace Go.Proofs.YtmphkifhnjfkmaaGreatDoor
open Go.ChangeShapes Go.WideShapes Go.ChangeAt Go.RowKit
namespace Tk

theorem wordP_of (l : List UInt8) (b : List UInt8) (h : Lib.trimRightB l 39 = b) : wordP l = (!b.isEmpty && !digB (b.headD 0).toNat && b.all fun b => partB b.toNat) := by rw [← h]; rfl

set_option maxHeartbeats 1000000 in
theorem isWord_any (s : ByteArray) (w : World) (hs : s.size ≤ 20000) :
    Calls Tryz.prog 40 #[.string s] w fun e w' => e = .returned (.bool (wordP s.data.toList)) ∧ w = w' := by
  obtain ⟨b, hb⟩ : ∃ b, Lib.trimRightB s.data.toList 39 = b := ⟨_, rfl⟩
  have hw := wordP_of _ _ hb
  obtain ⟨t, ht, _⟩ := trim_spec s.data.toList 39
  rw [hb] at ht
  have hlen : b.length ≤ s.size := by
    have : s.data.toList.length = (b ++ t).length := by rw [← ht]
    rw [Array.length_toList, List.length_append] at this
    have : s.size = b.length + t.length := this
    omega
  have HW := Lib.hid hw
  have HT : Hid (∀ w, Calls Tryz.prog 64 #[.string s, .string ⟨#[39]⟩] w fun e w' => e = .returned (.string ⟨b.toArray⟩) ∧ w = w') := by
    intro w
    have h := Tryz.strings_TrimRight_one s 39 (by decide) w (by omega)
    rw [hb] at h
    exact h.mono fun e w' ⟨h1, h2⟩ => ⟨h1, h2.symm⟩
  clear hw hb ht
  cases hbe : b with
  | nil =>
    subst hbe
    go_enter Tryz.func40, Tryz.ntmps40
    go_wp2_with (go_at_call 64; refine (HT.out _).mono ?_; rintro e w' ⟨rfl, rfl⟩)
    go_ret
    exact ⟨ret_bool HW.out.symm, rfl⟩
  | cons y r =>
    rw [hbe] at HW HT
    obtain ⟨x, hx⟩ : ∃ x : ByteArray, x = ⟨(y :: r).toArray⟩ := ⟨_, rfl⟩
    have hxs : x.size = (y :: r).length := by rw [hx]; rfl
    have hx1 : 1 ≤ x.size := by rw [hxs]; simp
    have hxn : x.size ≤ 20000 := by rw [hxs, ← hbe]; omega
    have hxl : x.data.toList = y :: r := by rw [hx]
    have hz : x.toList.isEmpty = false := bytes_some hx1
    have hat : ∀ (k : Nat) (h : k < x.size), byteAt x k = (x[k]'h).toNat := fun k h => by simp [byteAt, h]
    have hall : ((y :: r).all fun b => partB b.toNat) = true ↔ ∀ j, j < x.size → partB (byteAt x j) = true := by
      rw [List.all_eq_true]
      constructor
      · intro h j hj
        rw [byteAt_list, hxl, List.getD_eq_getElem?_getD, List.getElem?_eq_getElem (by rw [hxs] at hj; exact hj)]
        exact h _ (List.getElem_mem _)
      · intro h z hz'
        obtain ⟨j, hj, rfl⟩ := List.getElem_of_mem hz'
        have := h j (by rw [hxs]; exact hj)
        rw [byteAt_list, hxl, List.getD_eq_getElem?_getD, List.getElem?_eq_getElem hj] at this
        exact this
    have h0 : byteAt x 0 = (y.toNat : Int) := by rw [byteAt_list, hxl]; rfl
    rw [← hx] at HT
    have HAt := Lib.hid hat
    have HAll := Lib.hid hall
    have H0 := Lib.hid h0
    have HX := Lib.hid hx
    clear hbe hx hxl hat hall h0 hxs hlen
    have i0 : (0 : Int) < x.size := by omega
    have i1 : (1 : Int) ≤ x.size := by omega
    cases hd : digB ((x[0]'(by omega)).toNat : Int)
    · have HD := Lib.hid hd
      have hW2 : Hid (wordP s.data.toList = (y :: r).all fun b => partB b.toNat) := by
        show _ = _
        rw [HW.out]
        have : digB (((y :: r).headD 0).toNat : Int) = false := by
          show digB (y.toNat : Int) = false
          rw [← H0.out, HAt.out 0 (by omega)]
          exact HD.out
        rw [this]
        rfl
      clear hd
      go_enter Tryz.func40, Tryz.ntmps40
      go_wp2_with (first | (go_at_call 64; refine (HT.out _).mono ?_; rintro e w' ⟨rfl, rfl⟩) | (go_at_call 28; refine (isDigit_any _ _).mono ?_; rintro e w' ⟨he, rfl⟩; rw [HD.out] at he; subst he))
      go_loopw [16] (fun i wr => ∃ k : Nat, k ≤ x.size ∧ i = .int .i64 k ∧ (∀ j, j < k → partB (byteAt x j) = true) ∧ w = wr) (fun i _ => x.size - (intOf i).toNat)
      case atStart => exact ⟨0, Nat.zero_le _, rfl, fun j hj => by omega, rfl⟩
      case round =>
        obtain ⟨k, hk, rfl, hpr, rfl⟩ := hrel
        have HP := Lib.hid hpr
        clear hpr
        by_cases hlt : k < x.size
        · have l1 : (k : Int) < x.size := by omega
          have l0 : (0 : Int) ≤ k := by omega
          cases hp : partB ((x[k]'hlt).toNat : Int)
          · have HPk := Lib.hid hp
            clear hp
            go_wp2_with (go_at_call 54; refine (isPart_any _ _).mono ?_; rintro e w' ⟨he, rfl⟩; rw [HPk.out] at he; subst he)
            go_ret
            refine ⟨ret_bool ?_, rfl⟩
            rw [hW2.out]
            symm
            rw [Bool.eq_false_iff]
            intro h
            have := HAll.out.1 h k hlt
            rw [HAt.out k hlt, HPk.out] at this
            cases this
          · have HPk := Lib.hid hp
            clear hp
            go_wp2_with (go_at_call 54; refine (isPart_any _ _).mono ?_; rintro e w' ⟨he, rfl⟩; rw [HPk.out] at he; subst he)
            refine ⟨⟨k + 1, by omega, by go_num, fun j hj => ?_, trivial⟩, by simp [intOf]; omega⟩
            by_cases hjk : j = k
            · rw [hjk, HAt.out k hlt]
              exact HPk.out
            · exact HP.out j (by omega)
        · have l1 : ¬ (k : Int) < x.size := by omega
          have l2 : decide ((k : Int) < x.size) = false := decide_eq_false l1
          go_wp2_with fail
          go_ret
          refine ⟨ret_bool ?_, rfl⟩
          rw [hW2.out]
          exact (HAll.out.2 fun j hj => HP.out j (by omega)).symm
    · have HD := Lib.hid hd
      have hW2 : Hid (wordP s.data.toList = false) := by
        show _ = _
        rw [HW.out]
        have : digB (((y :: r).headD 0).toNat : Int) = true := by
          show digB (y.toNat : Int) = true
          rw [← H0.out, HAt.out 0 (by omega)]
          exact HD.out
        rw [this]
        rfl
      clear hd
      go_enter Tryz.func40, Tryz.ntmps40
      go_wp2_with (first | (go_at_call 64; refine (HT.out _).mono ?_; rintro e w' ⟨rfl, rfl⟩) | (go_at_call 28; refine (isDigit_any _ _).mono ?_; rintro e w' ⟨he, rfl⟩; rw [HD.out] at he; subst he))
      go_ret
      exact ⟨ret_bool hW2.out.symm, rfl⟩

theorem blanked (s : ByteArray) : ((⟨#[32]⟩ : ByteArray) ++ s ++ ⟨#[32]⟩).data.toList = 32 :: (s.data.toList ++ [32]) := by simp

set_option maxHeartbeats 1000000 in
set_option maxRecDepth 100000 in
theorem isKeyword_any (s : ByteArray) (w : World) (mm : Int) (hs : s.size ≤ 20000) (hm : w.cell? ⟨5, 0, none⟩ = some (.int .i64 mm)) :
    Calls Tryz.prog 41 #[.string s] w fun e w' => e = .returned (.bool (Lib.contains kwText (32 :: (s.data.toList ++ [32])))) ∧ w = w' := by
  have HM := Lib.hid hm
  clear hm
  go_enter Tryz.func41, Tryz.ntmps41
  go_wp2_with (go_at_call 24; refine (Tryz.strings_Contains ⟨kwText.toArray⟩ _ mm _ (by decide) HM.out).mono ?_; rintro e w' ⟨rfl, rfl⟩)
  go_ret
  exact ⟨rfl, rfl⟩

def identP (l : List UInt8) : Bool := decide (l.length ≤ 60) && wordP l && !kwWords.contains l


end Tk
end Go.Proofs.YtmphkifhnjfkmaaGreatDoor

namespace Go.Proofs.YtmphkifhnjfkmaaGreatDoor
open Go.ChangeShapes Go.WideShapes Go.ChangeAt Go.RowKit Go.WideMaps Go.Maps
namespace Tk

theorem toList_inj {a b : ByteArray} (h : a.toList = b.toList) : a = b := by
  obtain ⟨x⟩ := a
  obtain ⟨y⟩ := b
  rw [ByteArray.toList_mk, ByteArray.toList_mk] at h
  rw [Array.ext' h]

set_option maxHeartbeats 1000000 in
set_option maxRecDepth 100000 in
theorem isSymbol_true (w : World) (K : Nat) (hK : K < 43) (hS : Syms w) :
    Calls Tryz.prog 45 #[.string (symB.getD K ⟨#[]⟩)] w fun e w' => e = .returned (.bool true) ∧ w = w' := by
  obtain ⟨tt, fr, hblk⟩ := hS.block
  obtain ⟨V, hV⟩ : ∃ V, V = symCells := ⟨_, rfl⟩
  have hidx : ∀ (k : Nat), k < 43 → ∀ (w : World), (Instr.index 81 (.agg V) (.int .i64 k)).run Tryz.prog w = .ok (.string (symB.getD k ⟨#[]⟩)) w := by rw [hV]; exact sym_idx
  have HIdx := Lib.hid hidx
  have hVs : (Tryz.prog.info? 81).map (·.size) = some V.size := by rw [hV]; kernel_rfl
  rw [← hV] at hblk
  have G := Lib.hid hblk
  have HV := Lib.hid hVs
  obtain ⟨x, hx⟩ : ∃ x, x = symB.getD K ⟨#[]⟩ := ⟨_, rfl⟩
  rw [← hx]
  have HX := Lib.hid hx
  clear hidx hV hVs hblk hx hS
  go_enter Tryz.func45, Tryz.ntmps45
  go_wp2_with (refine wpList_load_row rfl 81 (.global 1) rfl 1 rfl _ _ _ _ G.out Tryz.underlying81 rfl HV.out ?_)
  go_loopw [6] (fun i wr => ∃ k : Nat, k ≤ K ∧ i = .int .i64 k ∧ w = wr) (fun i _ => 43 - (intOf i).toNat)
  case atStart => exact ⟨0, by omega, rfl, rfl⟩
  case round =>
    obtain ⟨k, hk, rfl, rfl⟩ := hrel
    have hi := HIdx.out k (by omega)
    have l43 : (k : Int) < 43 := by omega
    by_cases hq : symB.getD k ⟨#[]⟩ = x
    · rw [hq] at hi
      go_wp2_with fail
      go_ret
      exact ⟨rfl, rfl⟩
    · have hkK : k ≠ K := by rintro rfl; exact hq HX.out.symm
      have hqb : ((symB.getD k ⟨#[]⟩).toList == x.toList) = false := beq_eq_false_iff_ne.2 fun e => hq (toList_inj e)
      obtain ⟨y, hy⟩ : ∃ y, y = symB.getD k ⟨#[]⟩ := ⟨_, rfl⟩
      rw [← hy] at hi hqb hq
      clear hy
      go_wp2_with fail
      exact ⟨⟨k + 1, by omega, by go_num, trivial⟩, by simp [intOf]; omega⟩

theorem nd_le : ∀ (k u : Nat), u < 10 ^ (k + 1) → Lib.nDigits u ≤ k + 1
  | 0, u, h => by rw [Lib.nDigits_small (by simpa using h)]; exact Nat.le_refl _
  | k + 1, u, h => by
    by_cases h10 : u < 10
    · rw [Lib.nDigits_small h10]; omega
    · rw [Lib.nDigits_big h10]
      have := nd_le k (u / 10) (by rw [Nat.pow_succ] at h; omega)
      omega

theorem grown_past {w U V : World} {r : Nat} (h : w.grownBy U none) (k : U.grownBy V (some r)) (hr : w.heap.size ≤ r) : w.grownBy V none :=
  ⟨k.os.trans h.os, k.tape.trans h.tape, k.output.trans h.output, Nat.le_trans h.size k.size, fun i hi hn => (k.block i (Nat.lt_of_lt_of_le hi h.size) (by intro e; cases e; omega)).trans (h.block i hi hn)⟩

/-- The number of the first digits of a number. -/
theorem wide_new (w : World) : Wide2 (w.alloc (.cells #[.int .u64 0, .int .u64 0] 74)) w.heap.size 0 := by
  have h1 := World.alloc_heap_new w (.cells #[.int .u64 0, .int .u64 0] 74)
  exact ⟨by rw [Lib.cell_of_heap h1]; rfl, by rw [Lib.cell_of_heap h1]; rfl, fun j => Lib.frozen_of_heap h1 j⟩

set_option maxHeartbeats 2000000 in
set_option maxRecDepth 100000 in
theorem isInt_dec (w : World) (N : Nat) (hN : N < 340282366920938463463374607431768211456) :
    Calls Tryz.prog 42 #[.string (decB N)] w fun e w' => e = .returned (.bool true) ∧ w.grownBy w' none := by
  have hL := Lib.nDigits_pos N
  have hz := decB_size N
  have hb : Lib.nDigits N ≤ 39 := nd_le 38 N (Nat.lt_of_lt_of_le hN (by decide))
  obtain ⟨x, hx⟩ : ∃ x, x = decB N := ⟨_, rfl⟩
  obtain ⟨L, hLL⟩ : ∃ L, L = Lib.nDigits N := ⟨_, rfl⟩
  have hat : ∀ (k : Nat) (h : k < x.size), ((x[k]'h).toNat : Int) = 48 + (N / 10 ^ (L - 1 - k) % 10 : Nat) := fun k h => by
    have h1 : byteAt x k = (x[k]'h).toNat := by simp [byteAt, h]
    rw [← h1, hx, decB_at N k (by rw [hx, hz] at h; exact h), hLL]
  have hst : ∀ k, k < L → N / 10 ^ (L - (k + 1)) = N / 10 ^ (L - k) * 10 + N / 10 ^ (L - 1 - k) % 10 := fun k hk => pow_split N L k hk
  have hzero : N / 10 ^ (L - 0) = 0 := by rw [Nat.sub_zero, hLL]; exact Nat.div_eq_of_lt (Lib.lt_pow_nDigits N)
  have hle : ∀ k, N / 10 ^ (L - k) < 340282366920938463463374607431768211456 := fun k => Nat.lt_of_le_of_lt (Nat.div_le_self _ _) hN
  have h48 : ∀ h : 0 < x.size, ((x[0]'h).toNat : Int) = 48 → x = ⟨#[48]⟩ := fun h e => by
    rw [hx]
    apply dec_zero
    have h1 : byteAt x 0 = (x[0]'h).toNat := by simp [byteAt, h]
    rw [← hx, h1]
    exact e
  rw [← hx, ← hLL] at hz
  rw [← hLL] at hL hb
  rw [← hx]
  obtain ⟨V, hV⟩ : ∃ V : Nat → Nat, V = fun k => N / 10 ^ (L - k) := ⟨_, rfl⟩
  have HV0 : Hid (V 0 = 0) := by show _ = _; rw [hV]; exact hzero
  have HVS : Hid (∀ k, k < L → ∃ d, V (k + 1) = V k * 10 + d ∧ d < 10 ∧ ∀ h : k < x.size, ((x[k]'h).toNat : Int) = 48 + (d : Nat)) := by
    show ∀ k, k < L → _
    intro k hk
    refine ⟨N / 10 ^ (L - 1 - k) % 10, ?_, Nat.mod_lt _ (by decide), fun h => hat k h⟩
    rw [hV]
    exact hst k hk
  have HVL : Hid (∀ k, V k < 340282366920938463463374607431768211456) := by show ∀ k, _; intro k; rw [hV]; exact hle k
  have H48 := Lib.hid h48
  clear hat hst hzero hle hx hLL hV h48 hN
  have hx1 : 0 < x.size := by omega
  have i1 : (0 : Int) < x.size := by omega
  have hne : x.toList.isEmpty = false := bytes_some hx1
  obtain ⟨w0, hw0⟩ : ∃ w0, w0 = w.alloc (.cells #[.int .u64 0, .int .u64 0] 74) := ⟨_, rfl⟩
  have HW2 : Hid (Wide2 w0 w.heap.size 0) := by rw [hw0]; exact wide_new w
  have HG : Hid (w.grownBy w0 none) := by rw [hw0]; exact World.grownBy_alloc w _ none
  have HW := Lib.hid hw0
  clear hw0
  by_cases h0 : ((x[0]'hx1).toNat : Int) = 48
  · have hx0 := H48.out hx1 h0
    have hb1 : (x.toList == [48]) = true := by rw [hx0, ByteArray.toList_mk]; rfl
    have hb2 : (x.toList != [48]) = false := by rw [hx0, ByteArray.toList_mk]; rfl
    clear hx0
    go_enter Tryz.func42, Tryz.ntmps42
    go_wp2_with fail
    go_loopw [18] (fun i wr => ∃ k : Nat, k ≤ L ∧ i = .int .i64 k ∧ Wide2 wr w.heap.size (V k) ∧ w.grownBy wr none) (fun i _ => L - (intOf i).toNat)
    case atStart => exact ⟨0, Nat.zero_le _, rfl, by rw [HV0.out, ← HW.out]; exact HW2.out, HW.out ▸ HG.out⟩
    case round =>
      obtain ⟨k, hk, rfl, hwd, hg⟩ := hrel
      have HWd := Lib.hid hwd
      have HGr := Lib.hid hg
      clear hwd hg
      by_cases hlt : k < L
      · obtain ⟨d, hd1, hd2, hd3⟩ := HVS.out k hlt
        have hkx : k < x.size := by omega
        have hd := hd3 hkx
        have hvl := HVL.out (k + 1)
        have hvk := HVL.out k
        have hfit : decide (V k * 10 + d < 340282366920938463463374607431768211456) = true := decide_eq_true (by omega)
        have hmod : (V k * 10 + d) % 340282366920938463463374607431768211456 = V (k + 1) := by rw [Nat.mod_eq_of_lt (by omega), hd1]
        have HF := Lib.hid hfit
        have HM := Lib.hid hmod
        have HVK := Lib.hid hvk
        have hdd : (((x[k]'hkx).toNat : Int) - 48) = (d : Int) := by omega
        have HD := Lib.hid hdd
        have l1 : (k : Int) < L := by omega
        have l2 : (k : Int) < x.size := by omega
        have l0 : (0 : Int) ≤ k := by omega
        have i2 : IntKind.i64.wrap ((k : Int) + 1) = (k : Int) + 1 := IntWalk.i64_in _ (by omega)
        have e1 : IntKind.u8.wrap (((x[k]'hkx).toNat : Int) - 48) = ((x[k]'hkx).toNat : Int) - 48 := u8_in _ (by omega)
        have e2 : IntKind.u64.wrap (((x[k]'hkx).toNat : Int) - 48) = ((x[k]'hkx).toNat : Int) - 48 := u64_in _ (by omega)
        have hdg : digB ((x[k]'hkx).toNat : Int) = true := (digB_iff _).2 (by omega)
        have HDg := Lib.hid hdg
        have hd10 : d < 100 := by omega
        clear hd hd1 hd2 hd3 hvl hvk hfit hmod hdd hdg
        go_wp2_with (first | (go_at_call 28; refine (isDigit_any _ _).mono ?_; rintro e w' ⟨he, rfl⟩; rw [HDg.out] at he; subst he) | (go_at_call 65; rw [HD.out]; refine (push_total w.heap.size (V k) 10 d _ HWd.out HVK.out (by decide) hd10).mono ?_; rintro e w2 ⟨he, hw2, hg2⟩; rw [HF.out] at he; rw [HM.out] at hw2; subst he))
        refine ⟨⟨k + 1, by omega, by go_num, hw2, ?_⟩, by simp [intOf]; omega⟩
        exact grown_past HGr.out hg2 (Nat.le_refl _)
      · obtain rfl : k = L := by omega
        have l1 : ¬ (k : Int) < k := by omega
        go_wp2_with fail
        go_ret
        exact ⟨rfl, HGr.out⟩
  · have h0b : (((x[0]'hx1).toNat : Int) == 48) = false := by simpa using h0
    have H0 := Lib.hid h0
    clear h0
    go_enter Tryz.func42, Tryz.ntmps42
    go_wp2_with fail
    go_loopw [18] (fun i wr => ∃ k : Nat, k ≤ L ∧ i = .int .i64 k ∧ Wide2 wr w.heap.size (V k) ∧ w.grownBy wr none) (fun i _ => L - (intOf i).toNat)
    case atStart => exact ⟨0, Nat.zero_le _, rfl, by rw [HV0.out, ← HW.out]; exact HW2.out, HW.out ▸ HG.out⟩
    case round =>
      obtain ⟨k, hk, rfl, hwd, hg⟩ := hrel
      have HWd := Lib.hid hwd
      have HGr := Lib.hid hg
      clear hwd hg
      by_cases hlt : k < L
      · obtain ⟨d, hd1, hd2, hd3⟩ := HVS.out k hlt
        have hkx : k < x.size := by omega
        have hd := hd3 hkx
        have hvl := HVL.out (k + 1)
        have hvk := HVL.out k
        have hfit : decide (V k * 10 + d < 340282366920938463463374607431768211456) = true := decide_eq_true (by omega)
        have hmod : (V k * 10 + d) % 340282366920938463463374607431768211456 = V (k + 1) := by rw [Nat.mod_eq_of_lt (by omega), hd1]
        have HF := Lib.hid hfit
        have HM := Lib.hid hmod
        have HVK := Lib.hid hvk
        have hdd : (((x[k]'hkx).toNat : Int) - 48) = (d : Int) := by omega
        have HD := Lib.hid hdd
        have l1 : (k : Int) < L := by omega
        have l2 : (k : Int) < x.size := by omega
        have l0 : (0 : Int) ≤ k := by omega
        have i2 : IntKind.i64.wrap ((k : Int) + 1) = (k : Int) + 1 := IntWalk.i64_in _ (by omega)
        have e1 : IntKind.u8.wrap (((x[k]'hkx).toNat : Int) - 48) = ((x[k]'hkx).toNat : Int) - 48 := u8_in _ (by omega)
        have e2 : IntKind.u64.wrap (((x[k]'hkx).toNat : Int) - 48) = ((x[k]'hkx).toNat : Int) - 48 := u64_in _ (by omega)
        have hdg : digB ((x[k]'hkx).toNat : Int) = true := (digB_iff _).2 (by omega)
        have HDg := Lib.hid hdg
        have hd10 : d < 100 := by omega
        clear hd hd1 hd2 hd3 hvl hvk hfit hmod hdd hdg
        go_wp2_with (first | (go_at_call 28; refine (isDigit_any _ _).mono ?_; rintro e w' ⟨he, rfl⟩; rw [HDg.out] at he; subst he) | (go_at_call 65; rw [HD.out]; refine (push_total w.heap.size (V k) 10 d _ HWd.out HVK.out (by decide) hd10).mono ?_; rintro e w2 ⟨he, hw2, hg2⟩; rw [HF.out] at he; rw [HM.out] at hw2; subst he))
        refine ⟨⟨k + 1, by omega, by go_num, hw2, ?_⟩, by simp [intOf]; omega⟩
        exact grown_past HGr.out hg2 (Nat.le_refl _)
      · obtain rfl : k = L := by omega
        have l1 : ¬ (k : Int) < k := by omega
        go_wp2_with fail
        go_ret
        exact ⟨rfl, HGr.out⟩

end Tk
end Go.Proofs.YtmphkifhnjfkmaaGreatDoor
