/- A word: the contract of the cursor's word. -/
import Derived.Test.YtlpcpnbjpbhlgaaGreatDoorA5
import Derived.Maps.OwnOps
namespace Go.Proofs.YtlpcpnbjpbhlgaaGreatDoor
open Go.ChangeShapes Go.WideShapes Go.ChangeAt Go.RowKit Go.WideMaps Go.Maps
namespace Tk

/-- The first place from a on whose byte is not one of p, looked for n times. -/
def runF (p : Int → Bool) (s : ByteArray) : Nat → Nat → Nat
  | 0, a => a
  | n + 1, a => if p (byteAt s a) then runF p s n (a + 1) else a

def runEnd (p : Int → Bool) (s : ByteArray) (a : Nat) : Nat := runF p s (s.size - a) a

theorem byteAt_out {s : ByteArray} {i : Nat} (h : s.size ≤ i) : byteAt s i = 0 := by
  unfold byteAt
  rw [dif_neg (by omega)]

theorem part_in {p : Int → Bool} (p0 : p 0 = false) {s : ByteArray} {a : Nat} (h : p (byteAt s a) = true) : a < s.size := by
  rcases Nat.lt_or_ge a s.size with h1 | h1
  · exact h1
  · rw [byteAt_out h1, p0] at h
    cases h

theorem runEnd_on {p : Int → Bool} (p0 : p 0 = false) {s : ByteArray} {a : Nat} (h : p (byteAt s a) = true) : runEnd p s a = runEnd p s (a + 1) := by
  have hlt := part_in p0 h
  unfold runEnd
  obtain ⟨n, hn⟩ : ∃ n, s.size - a = n + 1 := ⟨s.size - a - 1, by omega⟩
  rw [hn, show s.size - (a + 1) = n by omega]
  show (if p (byteAt s a) = true then runF p s n (a + 1) else a) = _
  rw [if_pos h]

theorem runEnd_off {p : Int → Bool} {s : ByteArray} {a : Nat} (h : p (byteAt s a) = false) : runEnd p s a = a := by
  unfold runEnd
  cases s.size - a with
  | zero => rfl
  | succ n =>
    show (if p (byteAt s a) = true then runF p s n (a + 1) else a) = _
    rw [if_neg (by simp [h])]

def posOf (w : World) (c : Nat) : Nat := match w.cell? ⟨c, 2, none⟩ with | some (.int _ i) => i.toNat | _ => 0

theorem Cur.posOf {w : World} {c : Nat} {s : ByteArray} {st a m : Nat} (h : Cur w c s st a m) : posOf w c = a := by
  unfold Tk.posOf
  rw [h.pos]
  simp

theorem part0 : partB 0 = false := by decide
def quoteB (b : Int) : Bool := b == 39
theorem quote0 : quoteB 0 = false := by decide

def wordEnd (s : ByteArray) (a : Nat) : Nat := runEnd quoteB s (runEnd partB s a)
def wordKind (l : List UInt8) : Int := if kwWords.contains l then 2 else 1

/-- The block of a result: a token of four cells. -/
structure Res (w : World) (B : Nat) : Prop where
  block : w.heap[B]? = some (.cells #[.int .i64 0, .string ⟨#[]⟩, .int .i64 0, .bool false] 34)

theorem Res.c0 {w : World} {B : Nat} (h : Res w B) : w.cell? ⟨B, 0, none⟩ = some (.int .i64 0) := by simp [World.cell?, h.block]
theorem Res.c1 {w : World} {B : Nat} (h : Res w B) : w.cell? ⟨B, 1, none⟩ = some (.string ⟨#[]⟩) := by simp [World.cell?, h.block]
theorem Res.c2 {w : World} {B : Nat} (h : Res w B) : w.cell? ⟨B, 2, none⟩ = some (.int .i64 0) := by simp [World.cell?, h.block]
theorem Res.c3 {w : World} {B : Nat} (h : Res w B) : w.cell? ⟨B, 3, none⟩ = some (.bool false) := by simp [World.cell?, h.block]
theorem Res.free {w : World} {B : Nat} (h : Res w B) (j : Nat) : w.frozen? ⟨B, j, none⟩ = false := by simp [World.frozen?, h.block]

theorem Res.new (w : World) : Res (w.alloc (.cells #[.int .i64 0, .string ⟨#[]⟩, .int .i64 0, .bool false] 34)) w.heap.size := ⟨by show (w.heap.push _)[w.heap.size]? = _; simp⟩

theorem Res.kept {w w' : World} {B : Nat} {row : Option Nat} (h : Res w B) (hg : w.grownBy w' row) (hr : some B ≠ row) : Res w' B := by
  have hlt : B < w.heap.size := by
    rcases Nat.lt_or_ge B w.heap.size with h1 | h1
    · exact h1
    · have := h.block
      rw [Array.getElem?_eq_none h1] at this
      cases this
  exact ⟨(hg.block B hlt hr).trans h.block⟩

theorem grown_drewN (w : World) (n : Nat) (row : Option Nat) : w.grownBy (w.drewN n) row := ⟨rfl, rfl, rfl, Nat.le_refl _, fun _ _ _ => rfl⟩

theorem Cur.lt {w : World} {c : Nat} {s : ByteArray} {st a m : Nat} (h : Cur w c s st a m) : c < w.heap.size := by
  rcases Nat.lt_or_ge c w.heap.size with h1 | h1
  · exact h1
  · have := h.text
    simp [World.cell?, Array.getElem?_eq_none h1] at this

theorem grown_new {w w1 : World} {row : Option Nat} (h : w.grownBy w1 row) {p : Addr} (hp : w.heap.size ≤ p.block) (v : Value) : w.grownBy (w1.setCell p v) row :=
  let g := grown_set w1 p v
  ⟨h.os, h.tape, h.output, Nat.le_trans h.size g.size, fun k hk hr => (g.block k (Nat.lt_of_lt_of_le hk h.size) (by intro e; cases e; omega)).trans (h.block k hk hr)⟩

theorem Cur.other {w : World} {c : Nat} {s : ByteArray} {st a m : Nat} (h : Cur w c s st a m) {p : Addr} (hp : p.block ≠ c) (v : Value) : Cur (w.setCell p v) c s st a m := h.kept (grown_set w p v) (by intro e; cases e; exact hp rfl)

set_option maxRecDepth 100000 in
/-- Asking the set of keywords, at the operation. -/
theorem at_kw (w : World) {ops : Array Oper} {rest : List Oper} {o : Oper} {a : Act} {Q : Exit → Act → World → Prop} (hg : o.guard = none) (x y : Operand) (hop : o.op = Op.lookup 55 x y false) (b : Nat) (hx : a.eval x = .map (some b))
    (hown : w.ownsMap Tryz.prog 9 (plainElem (H := Unit) Tryz.prog 4) b 51 (kwSet Unit 51)) (s : ByteArray) (hy : a.eval y = .string s) (hs : s.size ≤ maxLen) (hK : wpList Tryz.prog ops Q rest (a.put o.dst (.bool (kwWords.contains s.data.toList))) w) : wpList Tryz.prog ops Q (o :: rest) a w := by
  have hrun := kw_lookup hown s hs
  refine wpList_plain hg fun K hk => ?_
  unfold Oper.wp
  simp [-List.contains_eq_mem, execOp, hop, hx, hy, hrun, Result.andThen]
  exact hk _ _ hK

set_option maxRecDepth 100000 in
set_option maxHeartbeats 1000000 in
theorem word_any (w : World) (c : Nat) (s : ByteArray) (st a m : Nat) (hc : Cur w c s st a m) (hs : s.size ≤ 20000) (ha : a ≤ s.size) (hst : st ≤ a) (hm : w.ownsMap Tryz.prog 9 (plainElem (H := Unit) Tryz.prog 4) m 51 (kwSet Unit 51)) (hcm : c ≠ m) :
    Calls Tryz.prog 48 #[.pointer (some ⟨c, 0, none⟩)] w fun e w' => e = .returned (.agg #[.int .i64 (wordKind (s.extract st (wordEnd s a)).data.toList), .string (s.extract st (wordEnd s a)), .int .i64 0, .bool false]) ∧ Cur w' c s st (wordEnd s a) m ∧ w.grownBy w' (some c) := by
  have HC := Lib.hid hc
  have HM := Lib.hid hm
  clear hc hm
  go_enter Tryz.func48, Tryz.ntmps48
  go_wp2_with fail
  have hlc : c < w.heap.size := HC.out.lt
  have hcB' : w.heap.size ≠ c := by omega
  have hcB : some w.heap.size ≠ some c := by intro h; cases h; omega
  obtain ⟨w0, hw0⟩ : ∃ w0, w0 = w.alloc (.cells #[.int .i64 0, .string ⟨#[]⟩, .int .i64 0, .bool false] 34) := ⟨_, rfl⟩
  have hblk : Res w0 w.heap.size := by rw [hw0]; exact Res.new w
  have hC0 : Cur w0 c s st a m := by rw [hw0]; exact HC.out.kept (World.grownBy_alloc w _ none) (by simp)
  have hg0 : w.grownBy w0 (some c) := by rw [hw0]; exact World.grownBy_alloc w _ _
  have HW := Lib.hid hw0
  have HC0 := Lib.hid hC0
  have HG0 := Lib.hid hg0
  have HB0 := Lib.hid hblk
  clear hC0 hg0 hblk
  go_loopw [] (fun wr => ∃ b : Nat, a ≤ b ∧ b ≤ s.size ∧ Cur wr c s st b m ∧ runEnd partB s b = runEnd partB s a ∧ w.grownBy wr (some c) ∧ Res wr w.heap.size) (fun wr => s.size - posOf wr c)
  case atStart => exact ⟨a, Nat.le_refl _, ha, HW.out ▸ HC0.out, rfl, HW.out ▸ HG0.out, HW.out ▸ HB0.out⟩
  case round =>
    obtain ⟨b, hab, hbs, hcb, hrun, hg, hres⟩ := hrel
    have HCB := Lib.hid hcb
    have HG := Lib.hid hg
    have HR := Lib.hid hrun
    have HRes := Lib.hid hres
    clear hcb hg hrun hres
    by_cases hp : partB (byteAt s b) = true
    · have hlt := part_in part0 hp
      have c2 := HCB.out.pos
      have f2 := HCB.out.free 2
      have hw : IntKind.i64.wrap ((b : Int) + 1) = (b : Int) + 1 := IntWalk.i64_in _ (by omega)
      go_wp2_with (first | (go_at_call 71; refine (peek_any s b 0 c _ hs (by omega) (by omega) HCB.out.text HCB.out.pos).mono ?_; rintro e w' ⟨rfl, n, rfl⟩) | (go_at_call 34; refine (isPart_any _ _).mono ?_; rintro e w' ⟨rfl, rfl⟩))
      have hC1 : Cur ((wr.drewN n).setCell ⟨c, 2, none⟩ (.int .i64 ((b : Int) + 1))) c s st (b + 1) m := (HCB.out.drew n).move (b + 1) _ (by omega)
      refine ⟨⟨b + 1, by omega, by omega, hC1, (runEnd_on part0 hp).symm.trans HR.out, (HG.out.trans (grown_drewN _ _ _)).trans (grown_set _ ⟨c, 2, none⟩ _), HRes.out.kept ((grown_drewN _ _ _).trans (grown_set _ ⟨c, 2, none⟩ _)) hcB⟩, ?_⟩
      rw [hC1.posOf, HCB.out.posOf]
      omega
    · have hp' : partB (byteAt s b) = false := by simpa using hp
      clear hp
      go_wp2_with (first | (go_at_call 71; refine (peek_any s b 0 c _ hs (by omega) (by omega) HCB.out.text HCB.out.pos).mono ?_; rintro e w' ⟨rfl, n, rfl⟩) | (go_at_call 34; refine (isPart_any _ _).mono ?_; rintro e w' ⟨rfl, rfl⟩))
      obtain ⟨hb1, hb2⟩ : wordEnd s a = runEnd quoteB s b ∧ True := ⟨by unfold wordEnd; rw [← HR.out, runEnd_off hp'], trivial⟩
      obtain ⟨wo, hwo⟩ : ∃ wo, wo = wr.drewN n := ⟨_, rfl⟩
      have HCo : Hid (Cur wo c s st b m) := by rw [hwo]; exact HCB.out.drew n
      have HGo : Hid (w.grownBy wo (some c)) := by rw [hwo]; exact HG.out.trans (grown_drewN _ _ _)
      have HRo : Hid (Res wo w.heap.size) := by rw [hwo]; exact HRes.out.kept (grown_drewN _ _ _) hcB
      rw [← hwo]
      clear hwo HCB HG HR HRes
      go_loopw [] (fun wr => ∃ d : Nat, b ≤ d ∧ d ≤ s.size ∧ Cur wr c s st d m ∧ runEnd quoteB s d = runEnd quoteB s b ∧ w.grownBy wr (some c) ∧ Res wr w.heap.size) (fun wr => s.size - posOf wr c)
      case atStart => exact ⟨b, Nat.le_refl _, hbs, HCo.out, rfl, HGo.out, HRo.out⟩
      case round =>
        obtain ⟨d, hbd, hds, hcd, hrun, hg, hres⟩ := hrel
        have HCD := Lib.hid hcd
        have HG := Lib.hid hg
        have HR := Lib.hid hrun
        have HRes := Lib.hid hres
        clear hcd hg hrun hres HCo HGo HRo
        by_cases hq : byteAt s d = 39
        · have hqB : quoteB (byteAt s d) = true := by rw [hq]; rfl
          have hlt := part_in quote0 hqB
          have c2 := HCD.out.pos
          have f2 := HCD.out.free 2
          have hw : IntKind.i64.wrap ((d : Int) + 1) = (d : Int) + 1 := IntWalk.i64_in _ (by omega)
          go_wp2_with (go_at_call 71; refine (peek_any s d 0 c _ hs (by omega) (by omega) HCD.out.text HCD.out.pos).mono ?_; rintro e w' ⟨rfl, n, rfl⟩)
          have hC1 : Cur ((wr.drewN n).setCell ⟨c, 2, none⟩ (.int .i64 ((d : Int) + 1))) c s st (d + 1) m := (HCD.out.drew n).move (d + 1) _ (by omega)
          refine ⟨⟨d + 1, by omega, by omega, hC1, (runEnd_on quote0 hqB).symm.trans HR.out, (HG.out.trans (grown_drewN _ _ _)).trans (grown_set _ ⟨c, 2, none⟩ _), HRes.out.kept ((grown_drewN _ _ _).trans (grown_set _ ⟨c, 2, none⟩ _)) hcB⟩, ?_⟩
          rw [hC1.posOf, HCD.out.posOf]
          omega
        · have hq' : (byteAt s d == 39) = false := by simpa using hq
          have hqB : quoteB (byteAt s d) = false := hq'
          have hE : d = wordEnd s a := by rw [hb1, ← HR.out, runEnd_off hqB]
          have HE := Lib.hid hE
          clear hE hqB
          go_wp2_with (go_at_call 71; refine (peek_any s d 0 c _ hs (by omega) (by omega) HCD.out.text HCD.out.pos).mono ?_; rintro e w' ⟨rfl, n, rfl⟩)
          have c0 := HCD.out.text
          have c1 := HCD.out.start
          have c2 := HCD.out.pos
          have c3 := HCD.out.words
          have i1 : (st : Int) ≤ d := by omega
          have i2 : (d : Int) ≤ s.size := by omega
          have i3 : (0 : Int) ≤ st := by omega
          obtain ⟨x, hx⟩ : ∃ x, x = s.extract st d := ⟨_, rfl⟩
          have hxs : x.size ≤ maxLen := by rw [hx, ByteArray.size_extract]; unfold maxLen; omega
          have HX := Lib.hid hx
          have HXS := Lib.hid hxs
          clear hx hxs
          have HM1 := Lib.hid (HM.out.kept HG.out (by simpa using fun h => hcm h.symm))
          have r0 := HRes.out.c0
          have r1 := HRes.out.c1
          have r2 := HRes.out.c2
          have r3 := HRes.out.c3
          have g0 := HRes.out.free 0
          have g1 := HRes.out.free 1
          have g2 := HRes.out.free 2
          have g3 := HRes.out.free 3
          have i4 : st ≤ d := by omega
          cases hk : kwWords.contains x.data.toList
          all_goals
            have HK := Lib.hid hk
            clear hk
            go_quiet (fail)
            rw [← HX.out]
            go_wp2_with (at_lookup; refine at_kw _ rfl _ _ rfl m rfl HM1.out x rfl HXS.out ?_; rw [HK.out])
          · refine bodyPost_ret (v := .agg #[.int .i64 1, .string x, .int .i64 0, .bool false]) (by simp [results, Tryz.results48, go_sem, r0, r1, r2, r3]) rfl ⟨?_, ?_, ?_⟩
            · rw [← HE.out, ← HX.out]
              unfold wordKind
              rw [HK.out]
              rfl
            · rw [← HE.out]
              exact ((((HCD.out.drew _).other hcB' _).other hcB' _).other hcB' _).other hcB' _
            · exact grown_new (grown_new (grown_new (grown_new (HG.out.trans (grown_drewN _ _ _)) (Nat.le_refl _) _) (Nat.le_refl _) _) (Nat.le_refl _) _) (Nat.le_refl _) _
          · refine bodyPost_ret (v := .agg #[.int .i64 2, .string x, .int .i64 0, .bool false]) (by simp [results, Tryz.results48, go_sem, r0, r1, r2, r3]) rfl ⟨?_, ?_, ?_⟩
            · rw [← HE.out, ← HX.out]
              unfold wordKind
              rw [HK.out]
              rfl
            · rw [← HE.out]
              exact ((((HCD.out.drew _).other hcB' _).other hcB' _).other hcB' _).other hcB' _
            · exact grown_new (grown_new (grown_new (grown_new (HG.out.trans (grown_drewN _ _ _)) (Nat.le_refl _) _) (Nat.le_refl _) _) (Nat.le_refl _) _) (Nat.le_refl _) _

end Tk
end Go.Proofs.YtlpcpnbjpbhlgaaGreatDoor
