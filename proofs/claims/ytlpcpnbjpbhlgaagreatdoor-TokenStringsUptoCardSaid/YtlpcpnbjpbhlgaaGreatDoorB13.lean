/- Tokens at a place, by their kinds. -/
import Derived.Test.YtlpcpnbjpbhlgaaGreatDoorB12
namespace Go.Proofs.YtlpcpnbjpbhlgaaGreatDoor
open Go.ChangeShapes Go.WideShapes Go.ChangeAt Go.RowKit Go.WideMaps Go.Maps
namespace Tk

theorem read_word (s : ByteArray) (p q : Nat) (k : Int) (tx : ByteArray) (hs : s.size ≤ 20000) (hp : p < s.size) (hl : letB (byteAt s p) = true) (hq : wordEnd s p = q) (hx : s.extract p q = tx) (hk : wordKind tx.data.toList = k) : ReadAt s p k tx q := by
  intro w c st m hc he
  refine (reader_word w c s st p m hc hs hp hl).mono ?_
  rintro e w' ⟨rfl, hb, hC, hg⟩
  have he' := he.up hg (fun r e => by cases e; exact he.mc)
  refine ⟨_, _, rfl, enters_of Tryz.func47 (by kernel_rfl) rfl, hg, closure1 w' _ c s p p m q k tx hb hC ?_⟩
  intro w1 g1 c1
  refine (word_any w1 c s p p m c1 hs (by omega) (Nat.le_refl _) (he'.up g1 (fun r e => by cases e)).kw (by have := he.mc; omega)).mono ?_
  rintro e w2 ⟨rfl, h1, h2⟩
  rw [hq, hx, hk] at *
  exact ⟨rfl, h1, h2⟩

theorem read_symbol (s : ByteArray) (p : Nat) (tx : ByteArray) (hs : s.size ≤ 20000) (hp : p < s.size) (hl : letB (byteAt s p) = false) (hd : digB (byteAt s p) = false) (h95 : byteAt s p ≠ 95) (h39 : byteAt s p ≠ 39) (h34 : byteAt s p ≠ 34) (h3 : Lib.hasPrefix (s.extract p s.size).data.toList quote3.data.toList = false)
    (hx : bestN s p 43 = tx) (hn : 1 ≤ tx.size) : ReadAt s p 6 tx (p + tx.size) := by
  intro w c st m hc he
  refine (reader_symbol w c s st p m hc hs hp hl hd h95 h39 h34 h3).mono ?_
  rintro e w' ⟨rfl, hb, hC, hg⟩
  have he' := he.up hg (fun r e => by cases e; exact he.mc)
  refine ⟨_, _, rfl, enters_of Tryz.func58 (by kernel_rfl) rfl, hg, closure6 w' _ c s p p m (p + tx.size) 6 tx hb hC ?_⟩
  intro w1 g1 c1
  have hne : 1 ≤ (bestN s p 43).size := by rw [hx]; exact hn
  refine (symbol_any w1 c s p p m c1 hs (by omega) (he'.up g1 (fun r e => by cases e)).syms (by have := he.mc; have := he.m0; omega) hne).mono ?_
  rintro e w2 ⟨rfl, h1, h2⟩
  rw [hx] at *
  exact ⟨rfl, h1, h2⟩

theorem read_line (s : ByteArray) (p q : Nat) (rs : List Int) (tx : ByteArray) (hs : s.size ≤ 20000) (hp : p < s.size) (h34 : byteAt s p = 34) (h3 : Lib.hasPrefix (s.extract p s.size).data.toList quote3.data.toList = false) (hL : Lit s (p + 1) rs q) (hx : (⟨(textOf rs).toArray⟩ : ByteArray) = tx) : ReadAt s p 5 tx (q + 1) := by
  intro w c st m hc he
  refine (reader_line w c s st p m hc hs hp (by rw [h34]; decide) (by rw [h34]; decide) (by rw [h34]; decide) (by rw [h34]; decide) h34 h3).mono ?_
  rintro e w' ⟨rfl, hb, hC, hg⟩
  refine ⟨_, _, rfl, enters_of Tryz.func56 (by kernel_rfl) rfl, hg, closure5 w' _ c s p p m (q + 1) tx hb hC ?_⟩
  intro w1 g1 c1
  have he' := (he.up hg (fun r e => by cases e; exact he.mc)).up g1 (fun r e => by cases e)
  refine (line_any w1 c s p p m q rs c1 hs hp hL he'.u8 (by have := he.mc; have := he.m1; omega) (by have := he.mc; have := he.m2; omega)).mono ?_
  rintro e w2 ⟨rfl, h1, h2⟩
  rw [hx]
  exact ⟨rfl, h1, h2⟩

theorem read_number (s : ByteArray) (p q : Nat) (k : Int) (tx : ByteArray) (hs : s.size ≤ 20000) (hp : p < s.size) (hl : letB (byteAt s p) = false) (hd : digB (byteAt s p) = true) (h95 : byteAt s p ≠ 95) (hq : q ≤ s.size) (he : partB (byteAt s q) = false)
    (hcall : ∀ (w : World) (c m : Nat), Cur w c s p p m → Pow10 w → c ≠ 8 → Calls Tryz.prog 51 #[.pointer (some ⟨c, 0, none⟩)] w fun e w' => e = .returned (tokV k tx) ∧ Cur w' c s p q m ∧ w.grownBy w' (some c)) : ReadAt s p k tx q := by
  intro w c st m hc hen
  refine (reader_number w c s st p m hc hs hp hl hd h95).mono ?_
  rintro e w' ⟨bf, bc, rfl, q1, q2, q3, q4, hC, hg⟩
  have he' := hen.up hg (fun r e => by cases e; exact hen.mc)
  have hlt := hc.lt
  refine ⟨_, _, rfl, enters_of Tryz.func72 (by kernel_rfl) rfl, hg, closedNumber w' bf bc _ c s p p m q k tx hs hq q1 q2 q4 (by omega) hC he ?_⟩
  intro w1 g1 c1
  exact hcall w1 c m c1 (he'.up g1 (fun r e => by cases e)).pow (by have := hen.mc; have := hen.m8; omega)

theorem char_plain (s : ByteArray) (p : Nat) (x : UInt8) (hs : s.size ≤ 20000) (hp : p < s.size) (hb : Lib.hasPrefix (s.extract p s.size).data.toList back1.data.toList = false) (hx : (s.extract p s.size).data.toList[0]? = some x) (h1 : x.toNat < 128) (h2 : x.toNat ≠ 10) : CharAt s p x.toNat (p + 1) :=
  fun w c st m hc _ _ _ => char_ascii w c s st p m x hc hs hp hb hx h1 h2

theorem char_hex (s : ByteArray) (p : Nat) (r : Int) (hs : s.size ≤ 20000) (hb : Lib.hasPrefix (s.extract p s.size).data.toList back1.data.toList = true) (hx : byteAt s (p + 1) = 120) (h0 : digitV (byteAt s (p + 2)) 16 < 8) (h1 : digitV (byteAt s (p + 2 + 1)) 16 < 16) (hz : p + 4 ≤ s.size) (hr : hexV s (p + 2) 2 = r) : CharAt s p r (p + 4) := by
  intro w c st m hc _ _ _
  rw [← hr]
  exact char_x w c s st p m hc hs hb hx h0 h1 hz

/-! ### The two texts of the chapter -/
def text1 : ByteArray := ⟨#[108, 101, 116, 32, 120, 39, 32, 61, 32, 48, 120, 70, 70, 32, 47, 47, 32, 97]⟩
def text2 : ByteArray := ⟨#[49, 46, 101, 32, 97, 46, 62, 98, 32, 34, 97, 92, 120, 52, 49, 34]⟩
def toks1 : List Tok := [⟨2, ⟨#[108, 101, 116]⟩, 0, true⟩, ⟨1, ⟨#[120, 39]⟩, 4, false⟩, ⟨6, ⟨#[61]⟩, 7, false⟩, ⟨3, ⟨#[50, 53, 53]⟩, 9, false⟩]
def toks2 : List Tok := [⟨3, ⟨#[49]⟩, 0, true⟩, ⟨6, ⟨#[46]⟩, 1, false⟩, ⟨1, ⟨#[101]⟩, 2, false⟩, ⟨1, ⟨#[97]⟩, 4, false⟩, ⟨6, ⟨#[46, 62]⟩, 5, false⟩, ⟨1, ⟨#[98]⟩, 7, false⟩, ⟨5, ⟨#[97, 65]⟩, 9, false⟩]

theorem skip1_0 : Skip text1 0 0 := .stop 0 (by decide) (by decide +kernel) (by decide +kernel) (by decide +kernel)
theorem skip1_3 : Skip text1 3 4 := .blank 3 4 (by decide) (by decide +kernel) (.stop 4 (by decide) (by decide +kernel) (by decide +kernel) (by decide +kernel))
theorem skip1_6 : Skip text1 6 7 := .blank 6 7 (by decide) (by decide +kernel) (.stop 7 (by decide) (by decide +kernel) (by decide +kernel) (by decide +kernel))
theorem skip1_8 : Skip text1 8 9 := .blank 8 9 (by decide) (by decide +kernel) (.stop 9 (by decide) (by decide +kernel) (by decide +kernel) (by decide +kernel))
theorem skip1_13 : Skip text1 13 18 := .blank 13 18 (by decide) (by decide +kernel) (.line 14 18 18 (by decide) (by decide +kernel) (by decide +kernel) (by decide +kernel) (by decide) (by decide) (by decide) (show ∀ b ∈ (text1.extract 14 18).data.toList, b.toNat < 128 by decide +kernel) .done)

theorem read1_0 : ReadAt text1 0 2 ⟨#[108, 101, 116]⟩ 3 := read_word text1 0 3 2 _ (by decide) (by decide) (by decide +kernel) (by decide +kernel) (by kernel_rfl) (by decide +kernel)
theorem read1_4 : ReadAt text1 4 1 ⟨#[120, 39]⟩ 6 := read_word text1 4 6 1 _ (by decide) (by decide) (by decide +kernel) (by decide +kernel) (by kernel_rfl) (by decide +kernel)
theorem read1_7 : ReadAt text1 7 6 ⟨#[61]⟩ 8 := read_symbol text1 7 ⟨#[61]⟩ (by decide) (by decide) (by decide +kernel) (by decide +kernel) (by decide +kernel) (by decide +kernel) (by decide +kernel) (by decide +kernel) (by kernel_rfl) (by decide)
theorem run1 : Run text1 11 2 16 := ⟨by decide +kernel, by decide +kernel, by decide +kernel, by decide⟩
theorem read1_9 : ReadAt text1 9 3 ⟨#[50, 53, 53]⟩ 13 := by
  refine read_number text1 9 13 3 _ (by decide) (by decide) (by decide +kernel) (by decide +kernel) (by decide +kernel) (by decide) (by decide +kernel) ?_
  intro w c m hc hp h8
  have h := number_hex w c text1 9 9 m 2 hc (by decide) (by decide +kernel) run1 (by decide) (by decide +kernel) (by decide +kernel) hp h8
  have hv : (⟨(Lib.decDigits (numV text1 (9 + 2) 16 2)).toArray⟩ : ByteArray) = ⟨#[50, 53, 53]⟩ := by kernel_rfl
  rw [hv] at h
  exact h

theorem toks1_ok : Toks text1 0 true toks1 :=
  .tok 0 true 0 2 _ 3 _ skip1_0 (by decide) read1_0 (by decide) (by decide) (.tok 3 false 4 1 _ 6 _ skip1_3 (by decide) read1_4 (by decide) (by decide) (.tok 6 false 7 6 _ 8 _ skip1_6 (by decide) read1_7 (by decide) (by decide) (.tok 8 false 9 3 _ 13 _ skip1_8 (by decide) read1_9 (by decide) (by decide) (.last 13 false skip1_13))))

theorem skip2_stop (p : Nat) (h : p ∈ [0, 1, 2, 4, 5, 7, 9]) : Skip text2 p p := by
  have hall : ([0, 1, 2, 4, 5, 7, 9].all fun p => decide (p < text2.size) && decide (blankI (byteAt text2 p) < 0) && !(hasP text2 p slash2) && !(hasP text2 p slashS)) = true := by decide +kernel
  have := List.all_eq_true.1 hall p h
  simp only [Bool.and_eq_true, decide_eq_true_eq, Bool.not_eq_true'] at this
  exact .stop p this.1.1.1 this.1.1.2 this.1.2 this.2
theorem skip2_3 : Skip text2 3 4 := .blank 3 4 (by decide) (by decide +kernel) (skip2_stop 4 (by decide))
theorem skip2_8 : Skip text2 8 9 := .blank 8 9 (by decide) (by decide +kernel) (skip2_stop 9 (by decide))
theorem run2 : Run text2 0 1 10 := ⟨by decide +kernel, by decide +kernel, by decide +kernel, by decide⟩
theorem read2_0 : ReadAt text2 0 3 ⟨#[49]⟩ 1 := by
  refine read_number text2 0 1 3 _ (by decide) (by decide) (by decide +kernel) (by decide +kernel) (by decide +kernel) (by decide) (by decide +kernel) ?_
  intro w c m hc hp h8
  have h := number_dec w c text2 0 0 m 1 hc (by decide) (by decide +kernel) (by decide +kernel) run2 (by decide) (by decide +kernel) (by decide +kernel) (by decide +kernel) (by decide +kernel) hp h8
  have hv : (⟨(Lib.decDigits (numV text2 0 10 1)).toArray⟩ : ByteArray) = ⟨#[49]⟩ := by kernel_rfl
  rw [hv] at h
  exact h
theorem read2_1 : ReadAt text2 1 6 ⟨#[46]⟩ 2 := read_symbol text2 1 ⟨#[46]⟩ (by decide) (by decide) (by decide +kernel) (by decide +kernel) (by decide +kernel) (by decide +kernel) (by decide +kernel) (by decide +kernel) (by kernel_rfl) (by decide)
theorem read2_2 : ReadAt text2 2 1 ⟨#[101]⟩ 3 := read_word text2 2 3 1 _ (by decide) (by decide) (by decide +kernel) (by decide +kernel) (by kernel_rfl) (by decide +kernel)
theorem read2_4 : ReadAt text2 4 1 ⟨#[97]⟩ 5 := read_word text2 4 5 1 _ (by decide) (by decide) (by decide +kernel) (by decide +kernel) (by kernel_rfl) (by decide +kernel)
theorem read2_5 : ReadAt text2 5 6 ⟨#[46, 62]⟩ 7 := read_symbol text2 5 ⟨#[46, 62]⟩ (by decide) (by decide) (by decide +kernel) (by decide +kernel) (by decide +kernel) (by decide +kernel) (by decide +kernel) (by decide +kernel) (by kernel_rfl) (by decide)
theorem read2_7 : ReadAt text2 7 1 ⟨#[98]⟩ 8 := read_word text2 7 8 1 _ (by decide) (by decide) (by decide +kernel) (by decide +kernel) (by kernel_rfl) (by decide +kernel)
theorem lit2 : Lit text2 10 [97, 65] 15 :=
  .step 10 97 11 [65] 15 (by decide +kernel) (char_plain text2 10 97 (by decide) (by decide) (by decide +kernel) (by decide +kernel) (by decide) (by decide)) (by decide) (by decide) (by decide) (by decide)
    (.step 11 65 15 [] 15 (by decide +kernel) (char_hex text2 11 65 (by decide) (by decide +kernel) (by decide +kernel) (by decide +kernel) (by decide +kernel) (by decide) (by decide +kernel)) (by decide) (by decide) (by decide) (by decide) (.done 15 (by decide +kernel)))
theorem read2_9 : ReadAt text2 9 5 ⟨#[97, 65]⟩ 16 := read_line text2 9 15 [97, 65] _ (by decide) (by decide) (by decide +kernel) (by decide +kernel) lit2 (by kernel_rfl)

theorem toks2_ok : Toks text2 0 true toks2 :=
  .tok 0 true 0 3 _ 1 _ (skip2_stop 0 (by decide)) (by decide) read2_0 (by decide) (by decide) (.tok 1 false 1 6 _ 2 _ (skip2_stop 1 (by decide)) (by decide) read2_1 (by decide) (by decide) (.tok 2 false 2 1 _ 3 _ (skip2_stop 2 (by decide)) (by decide) read2_2 (by decide) (by decide)
    (.tok 3 false 4 1 _ 5 _ skip2_3 (by decide) read2_4 (by decide) (by decide) (.tok 5 false 5 6 _ 7 _ (skip2_stop 5 (by decide)) (by decide) read2_5 (by decide) (by decide) (.tok 7 false 7 1 _ 8 _ (skip2_stop 7 (by decide)) (by decide) read2_7 (by decide) (by decide)
      (.tok 8 false 9 5 _ 16 _ skip2_8 (by decide) read2_9 (by decide) (by decide) (.last 16 false .done)))))))

end Tk
end Go.Proofs.YtlpcpnbjpbhlgaaGreatDoor
