/- Contracts of the small functions of package token over bytes. Contracts of the small functions of package token over bytes, and of the cursor's reads. A digit of a base. The contract of token.keywordSet: the map holds the keywords, each with true. The cursor: what it holds, and what its methods read. The cursor moves: what a store to its place leaves. A word: the contract of the cursor's word. A range over a function that keeps a place of its own in memory: the law, for an iterator that writes one older block and for rounds that always go on. The digits of an escape. The digits of a base: the closure that hands them on. Push of a digit to a small number. Some digits: the number that they make. The decimal digits of a number below 2^64. Where a point is followed by no digit there is no fraction. The numbers of the examples: digits of base 16 behind 0x, and decimal digits with a point behind them that begins no fraction. The builder of strings: its writing methods. An escape with two digits, and a character of one byte. A character of a literal: an escape with two digits, or a byte below 128. The escapes of two bytes. A character of more than one byte. -/
import Derived.Test.YtmphkifhnjfkmaaGreatDoorProg
import Derived.WalkKit
import Derived.ProofKit
import Derived.Handy
import Derived.Lib.Hide
import Derived.BigQuiet
import Derived.Deep.QuietTactic
import Derived.IntWalk
import Derived.Test.YtmphkifhnjfkmaaGreatDoorSh
import Derived.Maps.Own
import Derived.Maps.OwnOps
import Derived.Maps.Views
import Derived.OwnWalk
import Derived.Maps.AppendAt
import Derived.RangeFuncNested
import Derived.RangeFuncCalls
import Derived.RangeFuncLeaves
import Derived.Sort.QuietIn
import Derived.OwnWalkIn
import Derived.TacticsInMore
import Derived.LoopNIn
import Derived.LoopIn
import Derived.Laws.Externs
import Derived.Lib.AppendIntMem
import Derived.Lib.Walk
import Derived.Lib.ItoaMem
import Derived.Lib.OthersKept
import Derived.Lib.FrozenHead2
import Derived.Deep.RegionHeld3
namespace Go.Proofs.YtmphkifhnjfkmaaGreatDoor
open Go.ChangeShapes Go.WideShapes Go.ChangeAt Go.RowKit
namespace Tk

def letB (b : Int) : Bool := (decide (97 ≤ b) && decide (b ≤ 122)) || (decide (65 ≤ b) && decide (b ≤ 90))
def digB (b : Int) : Bool := decide (48 ≤ b) && decide (b ≤ 57)
def partB (b : Int) : Bool := letB b || digB b || decide (b = 95)

theorem ret_bool {a b : Bool} (h : a = b) : Ending.returned (.bool a) = .returned (.bool b) := by rw [h]

set_option maxHeartbeats 400000 in
theorem isLetter_any (b : Int) (w : World) :
    Calls Tryz.prog 25 #[.int .u8 b] w fun e w' => e = .returned (.bool (letB b)) ∧ w = w' := by
  by_cases h1 : 97 ≤ b <;> by_cases h2 : b ≤ 122 <;> by_cases h3 : 65 ≤ b <;> by_cases h4 : b ≤ 90
  all_goals
    go_enter Tryz.func25, Tryz.ntmps25
    go_wp2
    all_goals (go_ret; exact ⟨ret_bool (by simp [letB]; omega), rfl⟩)

set_option maxHeartbeats 400000 in
theorem isDigit_any (b : Int) (w : World) :
    Calls Tryz.prog 28 #[.int .u8 b] w fun e w' => e = .returned (.bool (digB b)) ∧ w = w' := by
  by_cases h1 : 48 ≤ b <;> by_cases h2 : b ≤ 57
  all_goals
    go_enter Tryz.func28, Tryz.ntmps28
    go_wp2
    all_goals (go_ret; exact ⟨ret_bool (by simp [digB]; omega), rfl⟩)

end Tk
end Go.Proofs.YtmphkifhnjfkmaaGreatDoor

namespace Go.Proofs.YtmphkifhnjfkmaaGreatDoor
open Go.ChangeShapes Go.WideShapes Go.ChangeAt Go.RowKit
namespace Tk

set_option maxHeartbeats 400000 in
theorem isPart_any (b : Int) (w : World) :
    Calls Tryz.prog 54 #[.int .u8 b] w fun e w' => e = .returned (.bool (partB b)) ∧ w = w' := by
  by_cases hl : letB b = true
  · go_enter Tryz.func54, Tryz.ntmps54
    go_wp2_with (first | (go_at_call 25; refine (isLetter_any _ _).mono ?_; rintro e w' ⟨rfl, rfl⟩) | (go_at_call 28; refine (isDigit_any _ _).mono ?_; rintro e w' ⟨rfl, rfl⟩))
    all_goals (go_ret; exact ⟨ret_bool (by simp [partB, hl]), rfl⟩)
  · have hl' : letB b = false := by simpa using hl
    clear hl
    by_cases hd : digB b = true
    · go_enter Tryz.func54, Tryz.ntmps54
      go_wp2_with (first | (go_at_call 25; refine (isLetter_any _ _).mono ?_; rintro e w' ⟨rfl, rfl⟩) | (go_at_call 28; refine (isDigit_any _ _).mono ?_; rintro e w' ⟨rfl, rfl⟩))
      all_goals (go_ret; exact ⟨ret_bool (by simp [partB, hl', hd]), rfl⟩)
    · have hd' : digB b = false := by simpa using hd
      clear hd
      by_cases hu : b = 95
      · subst hu
        go_enter Tryz.func54, Tryz.ntmps54
        go_wp2_with (first | (go_at_call 25; refine (isLetter_any _ _).mono ?_; rintro e w' ⟨rfl, rfl⟩) | (go_at_call 28; refine (isDigit_any _ _).mono ?_; rintro e w' ⟨rfl, rfl⟩))
        all_goals (go_ret; exact ⟨ret_bool (by decide), rfl⟩)
      · have hu' : (b == 95) = false := by simpa using hu
        go_enter Tryz.func54, Tryz.ntmps54
        go_wp2_with (first | (go_at_call 25; refine (isLetter_any _ _).mono ?_; rintro e w' ⟨rfl, rfl⟩) | (go_at_call 28; refine (isDigit_any _ _).mono ?_; rintro e w' ⟨rfl, rfl⟩))
        all_goals (go_ret; exact ⟨ret_bool (by simp [partB, hl', hd', hu]), rfl⟩)

theorem ret_int {k : IntKind} {a b : Int} (h : a = b) : Ending.returned (.int k a) = .returned (.int k b) := by rw [h]

/-- What a byte ahead of the cursor is: 0 behind the end. -/
def byteAt (s : ByteArray) (i : Nat) : Int := if h : i < s.size then (s[i]'h).toNat else 0

set_option maxHeartbeats 400000 in
theorem peek_in (s : ByteArray) (k n B : Nat) (w : World) (hs : s.size ≤ 20000) (hn : n ≤ 20)
    (hc0 : w.cell? ⟨B, 0, none⟩ = some (.string s)) (hc2 : w.cell? ⟨B, 2, none⟩ = some (.int .i64 k)) (hk : k + n < s.size) :
    Calls Tryz.prog 55 #[.pointer (some ⟨B, 0, none⟩), .int .i64 n] w fun e w' => e = .returned (.int .u8 (byteAt s (k + n))) ∧ ∃ m, w' = w.drewN m := by
  have hb : (k : Int) + n < s.size := by exact_mod_cast hk
  have hw : IntKind.i64.wrap ((k : Int) + n) = (k : Int) + n := IntWalk.i64_in _ (by omega)
  have h0 : (0 : Int) ≤ (k : Int) + n := by omega
  have hN : ((k : Int) + n).toNat = k + n := by omega
  have hB : Hid (byteAt s (k + n) = (s[k + n]'hk).toNat) := by show _ = _; simp [byteAt, hk]
  go_enter Tryz.func55, Tryz.ntmps55
  go_wp2
  go_quiet (fail)
  go_wp2
  go_quiet (fail)
  go_wp2
  go_ret
  exact ⟨ret_int hB.out.symm, _, World.drewN_drewN _ _ _⟩

set_option maxHeartbeats 400000 in
theorem peek_out (s : ByteArray) (k n B : Nat) (w : World) (hs : s.size ≤ 20000) (hn : n ≤ 20) (hk1 : k ≤ 40000)
    (hc0 : w.cell? ⟨B, 0, none⟩ = some (.string s)) (hc2 : w.cell? ⟨B, 2, none⟩ = some (.int .i64 k)) (hk : ¬ k + n < s.size) :
    Calls Tryz.prog 55 #[.pointer (some ⟨B, 0, none⟩), .int .i64 n] w fun e w' => e = .returned (.int .u8 (byteAt s (k + n))) ∧ ∃ m, w' = w.drewN m := by
  have hb : ¬ (k : Int) + n < s.size := by omega
  have hw : IntKind.i64.wrap ((k : Int) + n) = (k : Int) + n := IntWalk.i64_in _ (by omega)
  have hd : decide ((k : Int) + n < s.size) = false := by simpa using hb
  have hB : Hid (byteAt s (k + n) = 0) := by show _ = _; simp [byteAt, hk]
  go_enter Tryz.func55, Tryz.ntmps55
  go_wp2
  go_quiet (fail)
  go_wp2
  go_ret
  exact ⟨ret_int hB.out.symm, _, rfl⟩

theorem peek_any (s : ByteArray) (k n B : Nat) (w : World) (hs : s.size ≤ 20000) (hn : n ≤ 20) (hk : k ≤ 40000)
    (hc0 : w.cell? ⟨B, 0, none⟩ = some (.string s)) (hc2 : w.cell? ⟨B, 2, none⟩ = some (.int .i64 k)) :
    Calls Tryz.prog 55 #[.pointer (some ⟨B, 0, none⟩), .int .i64 n] w fun e w' => e = .returned (.int .u8 (byteAt s (k + n))) ∧ ∃ m, w' = w.drewN m := by
  by_cases h : k + n < s.size
  · exact peek_in s k n B w hs hn hc0 hc2 h
  · exact peek_out s k n B w hs hn hk hc0 hc2 h

end Tk
end Go.Proofs.YtmphkifhnjfkmaaGreatDoor

namespace Go.Proofs.YtmphkifhnjfkmaaGreatDoor
open Go.ChangeShapes Go.WideShapes Go.ChangeAt Go.RowKit
namespace Tk

/-- The value of a digit, and the base itself for what is none. -/
def digitV (b base : Int) : Int := if digB b then b - 48 else if 97 ≤ b ∧ b ≤ 102 then b - 87 else if 65 ≤ b ∧ b ≤ 70 then b - 55 else base

theorem ret_ib {k : IntKind} {a b : Int} {p q : Bool} (h : a = b) (g : p = q) : Ending.returned (.tuple #[.int k a, .bool p]) = .returned (.tuple #[.int k b, .bool q]) := by rw [h, g]

theorem u8_in (z : Int) (h : 0 ≤ z ∧ z < 256) : IntKind.u8.wrap z = z := by
  have := h.1; have := h.2
  simp [IntKind.wrap, IntKind.bits, IntKind.signed]
  omega
theorem u64_in (z : Int) (h : 0 ≤ z ∧ z < 1000) : IntKind.u64.wrap z = z := by
  have := h.1; have := h.2
  simp [IntKind.wrap, IntKind.bits]
  omega

set_option maxHeartbeats 400000 in
theorem digit_any (b base : Int) (w : World) (hb0 : 0 ≤ b) (hb1 : b ≤ 255) :
    Calls Tryz.prog 96 #[.int .u8 b, .int .u64 base] w fun e w' => e = .returned (.tuple #[.int .u64 (digitV b base), .bool (decide (digitV b base < base))]) ∧ w = w' := by
  by_cases hd : digB b = true
  · have hd2 : 48 ≤ b ∧ b ≤ 57 := by simpa [digB] using hd
    obtain ⟨d1, d2⟩ := hd2
    have e1 : IntKind.u8.wrap (b - 48) = b - 48 := u8_in _ (by omega)
    have e2 : IntKind.u64.wrap (b - 48) = b - 48 := u64_in _ (by omega)
    have hv : Hid (digitV b base = b - 48) := by show _ = _; unfold digitV; rw [if_pos hd]
    go_enter Tryz.func96, Tryz.ntmps96
    go_wp2_with (go_at_call 28; refine (isDigit_any _ _).mono ?_; rintro e w' ⟨rfl, rfl⟩)
    go_ret2
    exact ⟨ret_ib hv.out.symm (by rw [hv.out]), rfl⟩
  · have hd' : digB b = false := by simpa using hd
    clear hd
    by_cases h1 : 97 ≤ b
    · by_cases h2 : b ≤ 102
      · have e1 : IntKind.u8.wrap (b - 97) = b - 97 := u8_in _ (by omega)
        have e2 : IntKind.u64.wrap (b - 97) = b - 97 := u64_in _ (by omega)
        have e3 : IntKind.u64.wrap (b - 97 + 10) = b - 97 + 10 := u64_in _ (by omega)
        have hv : Hid (digitV b base = b - 97 + 10) := by show _ = _; unfold digitV; rw [if_neg (by simp [hd']), if_pos ⟨h1, h2⟩]; omega
        go_enter Tryz.func96, Tryz.ntmps96
        go_wp2_with (go_at_call 28; refine (isDigit_any _ _).mono ?_; rintro e w' ⟨rfl, rfl⟩)
        go_ret2
        exact ⟨ret_ib hv.out.symm (by rw [hv.out]), rfl⟩
      · have h3 : 65 ≤ b := by omega
        have h4 : ¬ b ≤ 70 := by omega
        have hv : Hid (digitV b base = base) := by show _ = _; unfold digitV; rw [if_neg (by simp [hd']), if_neg (by omega), if_neg (by omega)]
        go_enter Tryz.func96, Tryz.ntmps96
        go_wp2_with (go_at_call 28; refine (isDigit_any _ _).mono ?_; rintro e w' ⟨rfl, rfl⟩)
        go_ret2
        exact ⟨ret_ib hv.out.symm (by rw [hv.out]; simp), rfl⟩
    · by_cases h3 : 65 ≤ b
      · by_cases h4 : b ≤ 70
        · have e1 : IntKind.u8.wrap (b - 65) = b - 65 := u8_in _ (by omega)
          have e2 : IntKind.u64.wrap (b - 65) = b - 65 := u64_in _ (by omega)
          have e3 : IntKind.u64.wrap (b - 65 + 10) = b - 65 + 10 := u64_in _ (by omega)
          have hv : Hid (digitV b base = b - 65 + 10) := by show _ = _; unfold digitV; rw [if_neg (by simp [hd']), if_neg (by omega), if_pos ⟨h3, h4⟩]; omega
          go_enter Tryz.func96, Tryz.ntmps96
          go_wp2_with (go_at_call 28; refine (isDigit_any _ _).mono ?_; rintro e w' ⟨rfl, rfl⟩)
          go_ret2
          exact ⟨ret_ib hv.out.symm (by rw [hv.out]), rfl⟩
        · have hv : Hid (digitV b base = base) := by show _ = _; unfold digitV; rw [if_neg (by simp [hd']), if_neg (by omega), if_neg (by omega)]
          go_enter Tryz.func96, Tryz.ntmps96
          go_wp2_with (go_at_call 28; refine (isDigit_any _ _).mono ?_; rintro e w' ⟨rfl, rfl⟩)
          go_ret2
          exact ⟨ret_ib hv.out.symm (by rw [hv.out]; simp), rfl⟩
      · have hv : Hid (digitV b base = base) := by show _ = _; unfold digitV; rw [if_neg (by simp [hd']), if_neg (by omega), if_neg (by omega)]
        go_enter Tryz.func96, Tryz.ntmps96
        go_wp2_with (go_at_call 28; refine (isDigit_any _ _).mono ?_; rintro e w' ⟨rfl, rfl⟩)
        go_ret2
        exact ⟨ret_ib hv.out.symm (by rw [hv.out]; simp), rfl⟩

end Tk
end Go.Proofs.YtmphkifhnjfkmaaGreatDoor

namespace Go.Proofs.YtmphkifhnjfkmaaGreatDoor
open Go.ChangeShapes Go.WideShapes Go.ChangeAt Go.RowKit Go.WideMaps Go.Maps
namespace Tk

def kwText : List UInt8 := [32, 97, 99, 116, 111, 114, 32, 97, 110, 100, 32, 97, 115, 32, 98, 101, 32, 98, 111, 120, 32, 98, 114, 101, 97, 107, 32, 99, 108, 97, 115, 115, 32, 99, 111, 110, 115, 117, 109, 101, 32, 99, 111, 110, 116, 105, 110, 117, 101, 32, 100, 111, 32, 101, 108, 115, 101, 32, 101, 108, 115, 101, 105, 102, 32, 101, 110, 100, 32, 101, 114, 114, 111, 114, 32, 102, 97, 108, 115, 101, 32, 102, 111, 114, 32, 102, 117, 110, 32, 105, 102, 32, 105, 102, 100, 101, 102, 32, 105, 110, 32, 105, 110, 116, 101, 114, 102, 97, 99, 101, 32, 105, 115, 32, 105, 115, 110, 116, 32, 105, 115, 111, 32, 108, 101, 116, 32, 109, 97, 116, 99, 104, 32, 110, 101, 119, 32, 110, 111, 116, 32, 111, 98, 106, 101, 99, 116, 32, 111, 114, 32, 112, 114, 105, 109, 105, 116, 105, 118, 101, 32, 114, 101, 99, 111, 118, 101, 114, 32, 114, 101, 102, 32, 114, 101, 112, 101, 97, 116, 32, 114, 101, 116, 117, 114, 110, 32, 116, 97, 103, 32, 116, 104, 101, 110, 32, 116, 104, 105, 115, 32, 116, 114, 97, 105, 116, 32, 116, 114, 110, 32, 116, 114, 117, 101, 32, 116, 114, 121, 32, 116, 121, 112, 101, 32, 117, 110, 116, 105, 108, 32, 117, 115, 101, 32, 118, 97, 108, 32, 118, 97, 114, 32, 119, 104, 101, 114, 101, 32, 119, 104, 105, 108, 101, 32, 119, 105, 116, 104, 32, 120, 111, 114, 32]
def kwWords : List (List UInt8) := [[97, 99, 116, 111, 114], [97, 110, 100], [97, 115], [98, 101], [98, 111, 120], [98, 114, 101, 97, 107], [99, 108, 97, 115, 115], [99, 111, 110, 115, 117, 109, 101], [99, 111, 110, 116, 105, 110, 117, 101], [100, 111], [101, 108, 115, 101], [101, 108, 115, 101, 105, 102], [101, 110, 100], [101, 114, 114, 111, 114], [102, 97, 108, 115, 101], [102, 111, 114], [102, 117, 110], [105, 102], [105, 102, 100, 101, 102], [105, 110], [105, 110, 116, 101, 114, 102, 97, 99, 101], [105, 115], [105, 115, 110, 116], [105, 115, 111], [108, 101, 116], [109, 97, 116, 99, 104], [110, 101, 119], [110, 111, 116], [111, 98, 106, 101, 99, 116], [111, 114], [112, 114, 105, 109, 105, 116, 105, 118, 101], [114, 101, 99, 111, 118, 101, 114], [114, 101, 102], [114, 101, 112, 101, 97, 116], [114, 101, 116, 117, 114, 110], [116, 97, 103], [116, 104, 101, 110], [116, 104, 105, 115], [116, 114, 97, 105, 116], [116, 114, 110], [116, 114, 117, 101], [116, 114, 121], [116, 121, 112, 101], [117, 110, 116, 105, 108], [117, 115, 101], [118, 97, 108], [118, 97, 114], [119, 104, 101, 114, 101], [119, 104, 105, 108, 101], [119, 105, 116, 104], [120, 111, 114]]

theorem kw_fields : Lib.fields kwText = kwWords := by kernel_rfl
theorem kw_ascii : ∀ (j : Nat) b, kwText[j]? = some b → b.toNat < 128 := fun j b h => by
  have hm : b ∈ kwText := List.mem_of_getElem? h
  have hall : (kwText.all fun b => decide (b.toNat < 128)) = true := by decide +kernel
  exact of_decide_eq_true (List.all_eq_true.1 hall b hm)

/-- The set of the first k keywords. -/
def kwSet (H : Type) : Nat → DataW H
  | 0 => .map []
  | k + 1 => (kwSet H k).put (.string (kwWords.getD k [])) (.lit (.bool true))

theorem law9 : Keyed Tryz.prog 9 := string_keyed Tryz.underlying9
theorem zero4 (w : World) : (zeroValue 4).run Tryz.prog w = .ok (.bool false) w := by kernel_rfl

theorem kw_key (k : Nat) : keyOf Tryz.prog 9 (.string ⟨(kwWords.getD k []).toArray⟩) = some (.string (kwWords.getD k [])) := by
  refine keyOf_string_mk Tryz.underlying9 ?_
  have hall : (kwWords.all fun l => decide (l.length ≤ maxLen)) = true := by decide +kernel
  by_cases hk : k < kwWords.length
  · have : kwWords.getD k [] ∈ kwWords := by
      rw [List.getD_eq_getElem?_getD, List.getElem?_eq_getElem hk]
      exact List.getElem_mem hk
    have := of_decide_eq_true (List.all_eq_true.1 hall _ this)
    simpa [ByteArray.size] using this
  · rw [List.getD_eq_getElem?_getD, List.getElem?_eq_none (by omega)]
    exact Nat.zero_le _

theorem tabIs_below {w w' : World} {name : String} {k : IntKind} {zs : List Int} (h : Lib.TabIs Tryz.prog w name k zs) (hb : Below w.heap.size w w') : Lib.TabIs Tryz.prog w' name k zs := by
  unfold Lib.TabIs at h ⊢
  unfold World.var? at h ⊢
  cases hg : Tryz.prog.globalNamed name with
  | none => rw [hg] at h; cases h
  | some g =>
    rw [hg] at h
    simp only [Option.bind_some] at h ⊢
    have hlt : g < w.heap.size := by
      rcases Nat.lt_or_ge g w.heap.size with h1 | h1
      · exact h1
      · rw [Array.getElem?_eq_none h1] at h
        cases h
    rw [hb.block g hlt]
    exact h

theorem kwWords_len : kwWords.length = 51 := by decide

set_option maxHeartbeats 2000000 in
set_option maxRecDepth 100000 in
theorem keywordSet_any (w : World) (htab : Lib.TabIs Tryz.prog w "strings.asciiSpace" .u8 Lib.asciiSpaceTab) :
    Calls Tryz.prog 9 #[] w fun e w' => e = .returned (.map (some w.heap.size)) ∧ w'.ownsMap Tryz.prog 9 (plainElem (H := Unit) Tryz.prog 4) w.heap.size 51 (kwSet Unit 51) ∧ Below w.heap.size w w' := by
  have hmm := @run_makeMap Tryz.prog
  have TT := Lib.hid htab
  clear htab
  go_enter Tryz.func9, Tryz.ntmps9
  go_wp2_with fail
  refine (Tryz.strings_Fields ⟨kwText.toArray⟩ _ (by decide) kw_ascii (tabIs_below TT.out ((Below.refl _ _).alloc (Nat.le_refl _) _))).mono ?_
  rintro e w' ⟨rfl, rfl⟩
  rw [kw_fields, kwWords_len]
  have hcells : ∀ j, j < 51 → ((w.alloc (.map #[] 0)).alloc (.cells (kwWords.map fun l => Value.string ⟨l.toArray⟩).toArray 9)).cell? ⟨w.heap.size + 1, j, none⟩ = some (.string ⟨(kwWords.getD j []).toArray⟩) := fun j hj => by
    rw [World.cell?_alloc_at _ _ _ _ (by simp)]
    have : j < kwWords.length := by rw [kwWords_len]; exact hj
    simp [List.getD, this]
  have HC := Lib.hid hcells
  clear hcells
  have hb0 : Below w.heap.size w ((w.alloc (.map #[] 0)).alloc (.cells (kwWords.map fun l => Value.string ⟨l.toArray⟩).toArray 9)) := ((Below.refl _ _).alloc (Nat.le_refl _) _).alloc (by simp) _
  have HB0 := Lib.hid hb0
  clear hb0
  go_wp2_with fail
  go_loopw [7] (fun i wr => ∃ k : Nat, k ≤ 51 ∧ i = .int .i64 k ∧ wr.ownsMap Tryz.prog 9 (plainElem (H := Unit) Tryz.prog 4) w.heap.size k (kwSet Unit k) ∧ (∀ j, j < 51 → wr.cell? ⟨w.heap.size + 1, j, none⟩ = some (.string ⟨(kwWords.getD j []).toArray⟩)) ∧ Below w.heap.size w wr) (fun i _ => 51 - (intOf i).toNat)
  case atStart => exact ⟨0, by omega, rfl, (World.ownsMap_made _ _ _ _).alloc _, HC.out, HB0.out⟩
  case round =>
    obtain ⟨k, hk, rfl, hown, hcs, hb⟩ := hrel
    have HO := Lib.hid hown
    have HS := Lib.hid hcs
    have HB := Lib.hid hb
    clear hown hcs hb
    by_cases hlt : k < 51
    · obtain ⟨s, hs⟩ : ∃ s, s = (⟨(kwWords.getD k []).toArray⟩ : ByteArray) := ⟨_, rfl⟩
      have hcx : wr.cell? ⟨w.heap.size + 1, k, none⟩ = some (.string s) := by rw [hs]; exact HS.out k hlt
      have hkey : keyOf Tryz.prog 9 (.string s) = some (.string (kwWords.getD k [])) := by rw [hs]; exact kw_key k
      have HK := Lib.hid hkey
      clear hs hkey
      have l51 : (k : Int) < 51 := by omega
      go_wp2_with (at_mapUpdate; refine wpList_mapUpdate_own _ rfl _ _ _ 37 rfl 9 4 law9 Tryz.underlying37 _ w.heap.size k _ rfl HO.out (by unfold maxLen; omega) _ _ _ rfl rfl HK.out _ [] (plainElem_bool Tryz.underlying4 _) ?_)
      intro w1 hown1 hgrow1
      have HO1 := Lib.hid hown1
      have HS1 : Hid (∀ j, j < 51 → w1.cell? ⟨w.heap.size + 1, j, none⟩ = some (.string ⟨(kwWords.getD j []).toArray⟩)) := fun j hj => hgrow1.cell (HS.out j hj) (by simp)
      have HB1 : Hid (Below w.heap.size w w1) := HB.out.grown hgrow1 HB.out.size (fun j hj => by cases hj; exact Nat.le_refl _)
      clear hown1 hgrow1
      go_wp2
      go_roundw
      case rel => exact ⟨k + 1, by omega, by go_num, HO1.out, HS1.out, HB1.out⟩
      case measure => simp [intOf]; omega
    · obtain rfl : k = 51 := by omega
      go_wp2
      go_ret
      exact ⟨rfl, HO.out, HB.out⟩

theorem kwSet_isMap : ∀ k, IsMap (kwSet Unit k)
  | 0 => isMap_empty
  | k + 1 => (kwSet_isMap k).put _ _

theorem kwSet_at (x : List UInt8) : ∀ k, k ≤ 51 → (kwSet Unit k).atKey (.string x) (.lit (.bool false)) = .lit (.bool ((kwWords.take k).contains x))
  | 0, _ => rfl
  | k + 1, hk => by
    have hlt : k < kwWords.length := by rw [kwWords_len]; omega
    have ht : kwWords.take (k + 1) = kwWords.take k ++ [kwWords.getD k []] := by
      rw [List.take_succ_eq_append_getElem hlt, List.getD_eq_getElem?_getD, List.getElem?_eq_getElem hlt]
      rfl
    rw [ht, List.contains_append]
    show ((kwSet Unit k).put (.string (kwWords.getD k [])) (.lit (.bool true))).atKey (.string x) (.lit (.bool false)) = _
    by_cases he : x = kwWords.getD k []
    · subst he
      rw [atKey_put_same (k := .string (kwWords.getD k [])) (kwSet_isMap k) trivial]
      simp
    · rw [atKey_put_other (by intro h; cases h; exact he rfl), kwSet_at x k (by omega)]
      have h1 : [kwWords.getD k []].contains x = false := by
        rw [Bool.eq_false_iff]
        intro hc
        rw [List.contains_iff_mem, List.mem_singleton] at hc
        exact he hc
      rw [h1, Bool.or_false]

set_option maxRecDepth 100000 in
/-- What asking the set of keywords gives. -/
theorem kw_lookup {w : World} {b : Nat} (h : w.ownsMap Tryz.prog 9 (plainElem (H := Unit) Tryz.prog 4) b 51 (kwSet Unit 51)) (s : ByteArray) (hs : s.size ≤ maxLen) :
    (Instr.lookup 37 (.map (some b)) (.string s) false).run Tryz.prog w = .ok (.bool (kwWords.contains s.data.toList)) w := by
  obtain ⟨v, ps, hrun, hv⟩ := h.lookup law9 Tryz.underlying37 (zero4 w) (plainElem_bool Tryz.underlying4 false) (keyOf_string_mk Tryz.underlying9 hs)
  rw [kwSet_at _ 51 (Nat.le_refl _), show kwWords.take 51 = kwWords from List.take_of_length_le (by rw [kwWords_len]; omega)] at hv
  rw [hrun]
  generalize kwWords.contains s.data.toList = r at hv ⊢
  unfold plainElem at hv
  rw [Tryz.underlying4] at hv
  cases v <;> simp at hv
  rw [hv.1]

end Tk
end Go.Proofs.YtmphkifhnjfkmaaGreatDoor

namespace Go.Proofs.YtmphkifhnjfkmaaGreatDoor
open Go.ChangeShapes Go.WideShapes Go.ChangeAt Go.RowKit
namespace Tk

/-- Block c is a cursor over a text. -/
structure Cur (w : World) (c : Nat) (s : ByteArray) (st a : Nat) (m : Nat) : Prop where
  text : w.cell? ⟨c, 0, none⟩ = some (.string s)
  start : w.cell? ⟨c, 1, none⟩ = some (.int .i64 st)
  pos : w.cell? ⟨c, 2, none⟩ = some (.int .i64 a)
  words : w.cell? ⟨c, 3, none⟩ = some (.map (some m))
  free : ∀ j, w.frozen? ⟨c, j, none⟩ = false

theorem Cur.drew {w : World} {c : Nat} {s : ByteArray} {st a m : Nat} (h : Cur w c s st a m) (n : Nat) : Cur (w.drewN n) c s st a m := ⟨h.text, h.start, h.pos, h.words, h.free⟩

set_option maxHeartbeats 400000 in
theorem has_any (s p : ByteArray) (c a : Nat) (w : World) (ha : a ≤ s.size) (h0 : w.cell? ⟨c, 0, none⟩ = some (.string s)) (h2 : w.cell? ⟨c, 2, none⟩ = some (.int .i64 a)) :
    Calls Tryz.prog 20 #[.pointer (some ⟨c, 0, none⟩), .string p] w fun e w' => e = .returned (.bool (Lib.hasPrefix (s.extract a s.size).data.toList p.data.toList)) ∧ ∃ n, w' = w.drewN n := by
  have b1 : (a : Int) ≤ s.size := by omega
  have b2 : (0 : Int) ≤ a := by omega
  go_enter Tryz.func20, Tryz.ntmps20
  go_wp2
  go_quiet ((go_at_call 50; exact Calls.quiet_of_same (Tryz.strings_HasPrefix _ _ _)))
  go_wp2
  go_ret
  exact ⟨rfl, _, rfl⟩

end Tk
end Go.Proofs.YtmphkifhnjfkmaaGreatDoor

namespace Go.Proofs.YtmphkifhnjfkmaaGreatDoor
open Go.ChangeShapes Go.WideShapes Go.ChangeAt Go.RowKit Go.WideMaps Go.Maps
namespace Tk

theorem grown_set (w : World) (p : Addr) (v : Value) : w.grownBy (w.setCell p v) (some p.block) :=
  ⟨rfl, rfl, rfl, by simp [World.setCell], fun k _ hk => Below.heap_setCell _ _ _ k (fun e => hk (by rw [e]))⟩

theorem set_off (w : World) (c i j : Nat) (v : Value) (h : i ≠ j) : (w.setCell ⟨c, i, none⟩ v).cell? ⟨c, j, none⟩ = w.cell? ⟨c, j, none⟩ :=
  World.cell?_setCell_other w ⟨c, i, none⟩ ⟨c, j, none⟩ v (fun e => h (congrArg Addr.off e))

theorem Cur.move {w : World} {c : Nat} {s : ByteArray} {st a m : Nat} (h : Cur w c s st a m) (b : Nat) (z : Int) (hz : z = b) : Cur (w.setCell ⟨c, 2, none⟩ (.int .i64 z)) c s st b m where
  text := (set_off w c 2 0 _ (by decide)).trans h.text
  start := (set_off w c 2 1 _ (by decide)).trans h.start
  pos := hz ▸ World.cell?_setCell_same _ _ _ h.pos
  words := (set_off w c 2 3 _ (by decide)).trans h.words
  free := fun j => by rw [World.frozen?_setCell]; exact h.free j

theorem Cur.begin {w : World} {c : Nat} {s : ByteArray} {st a m : Nat} (h : Cur w c s st a m) (b : Nat) : Cur (w.setCell ⟨c, 1, none⟩ (.int .i64 b)) c s b a m where
  text := (set_off w c 1 0 _ (by decide)).trans h.text
  start := World.cell?_setCell_same _ _ _ h.start
  pos := (set_off w c 1 2 _ (by decide)).trans h.pos
  words := (set_off w c 1 3 _ (by decide)).trans h.words
  free := fun j => by rw [World.frozen?_setCell]; exact h.free j

theorem Cur.kept {w w' : World} {c : Nat} {s : ByteArray} {st a m : Nat} {row : Option Nat} (h : Cur w c s st a m) (hg : w.grownBy w' row) (hr : some c ≠ row) : Cur w' c s st a m := by
  have hlt : c < w.heap.size := by
    rcases Nat.lt_or_ge c w.heap.size with h1 | h1
    · exact h1
    · have := h.text
      simp [World.cell?, Array.getElem?_eq_none h1] at this
  have hb : w'.heap[c]? = w.heap[c]? := hg.block c hlt hr
  have hc : ∀ j, w'.cell? ⟨c, j, none⟩ = w.cell? ⟨c, j, none⟩ := fun j => World.cell?_of_block (w := w) hb
  exact ⟨(hc 0).trans h.text, (hc 1).trans h.start, (hc 2).trans h.pos, (hc 3).trans h.words, fun j => (World.frozen?_of_block (w := w) hb).trans (h.free j)⟩

end Tk
end Go.Proofs.YtmphkifhnjfkmaaGreatDoor

namespace Go.Proofs.YtmphkifhnjfkmaaGreatDoor
open Go.ChangeShapes Go.WideShapes Go.ChangeAt Go.RowKit Go.WideMaps Go.Maps
namespace Tk

/-- The first place from a on whose byte is not one of p, looked for n times. -/
def runF (p : Int → Bool) (s : ByteArray) : Nat → Nat → Nat
  | 0, a => a
  | n + 1, a => if p (byteAt s a) then runF p s n (a + 1) else a

def runEnd (p : Int → Bool) (s : ByteArray) (a : Nat) : Nat := runF p s (s.size - a) a

theorem byteAt_out {s : ByteArray} {i : Nat} (h : s.size ≤ i) : byteAt s i = 0 := by
  unfold byteAt
  rw [dif_neg (by omega)]

theorem part_in {p : Int → Bool} (p0 : p 0 = false) {s : ByteArray} {a : Nat} (h : p (byteAt s a) = true) : a < s.size := by
  rcases Nat.lt_or_ge a s.size with h1 | h1
  · exact h1
  · rw [byteAt_out h1, p0] at h
    cases h

theorem runEnd_on {p : Int → Bool} (p0 : p 0 = false) {s : ByteArray} {a : Nat} (h : p (byteAt s a) = true) : runEnd p s a = runEnd p s (a + 1) := by
  have hlt := part_in p0 h
  unfold runEnd
  obtain ⟨n, hn⟩ : ∃ n, s.size - a = n + 1 := ⟨s.size - a - 1, by omega⟩
  rw [hn, show s.size - (a + 1) = n by omega]
  show (if p (byteAt s a) = true then runF p s n (a + 1) else a) = _
  rw [if_pos h]

theorem runEnd_off {p : Int → Bool} {s : ByteArray} {a : Nat} (h : p (byteAt s a) = false) : runEnd p s a = a := by
  unfold runEnd
  cases s.size - a with
  | zero => rfl
  | succ n =>
    show (if p (byteAt s a) = true then runF p s n (a + 1) else a) = _
    rw [if_neg (by simp [h])]

def posOf (w : World) (c : Nat) : Nat := match w.cell? ⟨c, 2, none⟩ with | some (.int _ i) => i.toNat | _ => 0

theorem Cur.posOf {w : World} {c : Nat} {s : ByteArray} {st a m : Nat} (h : Cur w c s st a m) : posOf w c = a := by
  unfold Tk.posOf
  rw [h.pos]
  simp

theorem part0 : partB 0 = false := by decide
def quoteB (b : Int) : Bool := b == 39
theorem quote0 : quoteB 0 = false := by decide

def wordEnd (s : ByteArray) (a : Nat) : Nat := runEnd quoteB s (runEnd partB s a)
def wordKind (l : List UInt8) : Int := if kwWords.contains l then 2 else 1

/-- The block of a result: a token of four cells. -/
structure Res (w : World) (B : Nat) : Prop where
  block : w.heap[B]? = some (.cells #[.int .i64 0, .string ⟨#[]⟩, .int .i64 0, .bool false] 31)

theorem Res.c0 {w : World} {B : Nat} (h : Res w B) : w.cell? ⟨B, 0, none⟩ = some (.int .i64 0) := by simp [World.cell?, h.block]
theorem Res.c1 {w : World} {B : Nat} (h : Res w B) : w.cell? ⟨B, 1, none⟩ = some (.string ⟨#[]⟩) := by simp [World.cell?, h.block]
theorem Res.c2 {w : World} {B : Nat} (h : Res w B) : w.cell? ⟨B, 2, none⟩ = some (.int .i64 0) := by simp [World.cell?, h.block]
theorem Res.c3 {w : World} {B : Nat} (h : Res w B) : w.cell? ⟨B, 3, none⟩ = some (.bool false) := by simp [World.cell?, h.block]
theorem Res.free {w : World} {B : Nat} (h : Res w B) (j : Nat) : w.frozen? ⟨B, j, none⟩ = false := by simp [World.frozen?, h.block]

theorem Res.new (w : World) : Res (w.alloc (.cells #[.int .i64 0, .string ⟨#[]⟩, .int .i64 0, .bool false] 31)) w.heap.size := ⟨by show (w.heap.push _)[w.heap.size]? = _; simp⟩

theorem Res.kept {w w' : World} {B : Nat} {row : Option Nat} (h : Res w B) (hg : w.grownBy w' row) (hr : some B ≠ row) : Res w' B := by
  have hlt : B < w.heap.size := by
    rcases Nat.lt_or_ge B w.heap.size with h1 | h1
    · exact h1
    · have := h.block
      rw [Array.getElem?_eq_none h1] at this
      cases this
  exact ⟨(hg.block B hlt hr).trans h.block⟩

theorem grown_drewN (w : World) (n : Nat) (row : Option Nat) : w.grownBy (w.drewN n) row := ⟨rfl, rfl, rfl, Nat.le_refl _, fun _ _ _ => rfl⟩

theorem Cur.lt {w : World} {c : Nat} {s : ByteArray} {st a m : Nat} (h : Cur w c s st a m) : c < w.heap.size := by
  rcases Nat.lt_or_ge c w.heap.size with h1 | h1
  · exact h1
  · have := h.text
    simp [World.cell?, Array.getElem?_eq_none h1] at this

theorem grown_new {w w1 : World} {row : Option Nat} (h : w.grownBy w1 row) {p : Addr} (hp : w.heap.size ≤ p.block) (v : Value) : w.grownBy (w1.setCell p v) row :=
  let g := grown_set w1 p v
  ⟨h.os, h.tape, h.output, Nat.le_trans h.size g.size, fun k hk hr => (g.block k (Nat.lt_of_lt_of_le hk h.size) (by intro e; cases e; omega)).trans (h.block k hk hr)⟩

theorem Cur.other {w : World} {c : Nat} {s : ByteArray} {st a m : Nat} (h : Cur w c s st a m) {p : Addr} (hp : p.block ≠ c) (v : Value) : Cur (w.setCell p v) c s st a m := h.kept (grown_set w p v) (by intro e; cases e; exact hp rfl)

set_option maxRecDepth 100000 in
/-- Asking the set of keywords, at the operation. -/
theorem at_kw (w : World) {ops : Array Oper} {rest : List Oper} {o : Oper} {a : Act} {Q : Exit → Act → World → Prop} (hg : o.guard = none) (x y : Operand) (hop : o.op = Op.lookup 37 x y false) (b : Nat) (hx : a.eval x = .map (some b))
    (hown : w.ownsMap Tryz.prog 9 (plainElem (H := Unit) Tryz.prog 4) b 51 (kwSet Unit 51)) (s : ByteArray) (hy : a.eval y = .string s) (hs : s.size ≤ maxLen) (hK : wpList Tryz.prog ops Q rest (a.put o.dst (.bool (kwWords.contains s.data.toList))) w) : wpList Tryz.prog ops Q (o :: rest) a w := by
  have hrun := kw_lookup hown s hs
  refine wpList_plain hg fun K hk => ?_
  unfold Oper.wp
  simp [-List.contains_eq_mem, execOp, hop, hx, hy, hrun, Result.andThen]
  exact hk _ _ hK

set_option maxRecDepth 100000 in
set_option maxHeartbeats 1000000 in
theorem word_any (w : World) (c : Nat) (s : ByteArray) (st a m : Nat) (hc : Cur w c s st a m) (hs : s.size ≤ 20000) (ha : a ≤ s.size) (hst : st ≤ a) (hm : w.ownsMap Tryz.prog 9 (plainElem (H := Unit) Tryz.prog 4) m 51 (kwSet Unit 51)) (hcm : c ≠ m) :
    Calls Tryz.prog 27 #[.pointer (some ⟨c, 0, none⟩)] w fun e w' => e = .returned (.agg #[.int .i64 (wordKind (s.extract st (wordEnd s a)).data.toList), .string (s.extract st (wordEnd s a)), .int .i64 0, .bool false]) ∧ Cur w' c s st (wordEnd s a) m ∧ w.grownBy w' (some c) := by
  have HC := Lib.hid hc
  have HM := Lib.hid hm
  clear hc hm
  go_enter Tryz.func27, Tryz.ntmps27
  go_wp2_with fail
  have hlc : c < w.heap.size := HC.out.lt
  have hcB' : w.heap.size ≠ c := by omega
  have hcB : some w.heap.size ≠ some c := by intro h; cases h; omega
  obtain ⟨w0, hw0⟩ : ∃ w0, w0 = w.alloc (.cells #[.int .i64 0, .string ⟨#[]⟩, .int .i64 0, .bool false] 31) := ⟨_, rfl⟩
  have hblk : Res w0 w.heap.size := by rw [hw0]; exact Res.new w
  have hC0 : Cur w0 c s st a m := by rw [hw0]; exact HC.out.kept (World.grownBy_alloc w _ none) (by simp)
  have hg0 : w.grownBy w0 (some c) := by rw [hw0]; exact World.grownBy_alloc w _ _
  have HW := Lib.hid hw0
  have HC0 := Lib.hid hC0
  have HG0 := Lib.hid hg0
  have HB0 := Lib.hid hblk
  clear hC0 hg0 hblk
  go_loopw [] (fun wr => ∃ b : Nat, a ≤ b ∧ b ≤ s.size ∧ Cur wr c s st b m ∧ runEnd partB s b = runEnd partB s a ∧ w.grownBy wr (some c) ∧ Res wr w.heap.size) (fun wr => s.size - posOf wr c)
  case atStart => exact ⟨a, Nat.le_refl _, ha, HW.out ▸ HC0.out, rfl, HW.out ▸ HG0.out, HW.out ▸ HB0.out⟩
  case round =>
    obtain ⟨b, hab, hbs, hcb, hrun, hg, hres⟩ := hrel
    have HCB := Lib.hid hcb
    have HG := Lib.hid hg
    have HR := Lib.hid hrun
    have HRes := Lib.hid hres
    clear hcb hg hrun hres
    by_cases hp : partB (byteAt s b) = true
    · have hlt := part_in part0 hp
      have c2 := HCB.out.pos
      have f2 := HCB.out.free 2
      have hw : IntKind.i64.wrap ((b : Int) + 1) = (b : Int) + 1 := IntWalk.i64_in _ (by omega)
      go_wp2_with (first | (go_at_call 55; refine (peek_any s b 0 c _ hs (by omega) (by omega) HCB.out.text HCB.out.pos).mono ?_; rintro e w' ⟨rfl, n, rfl⟩) | (go_at_call 54; refine (isPart_any _ _).mono ?_; rintro e w' ⟨rfl, rfl⟩))
      have hC1 : Cur ((wr.drewN n).setCell ⟨c, 2, none⟩ (.int .i64 ((b : Int) + 1))) c s st (b + 1) m := (HCB.out.drew n).move (b + 1) _ (by omega)
      refine ⟨⟨b + 1, by omega, by omega, hC1, (runEnd_on part0 hp).symm.trans HR.out, (HG.out.trans (grown_drewN _ _ _)).trans (grown_set _ ⟨c, 2, none⟩ _), HRes.out.kept ((grown_drewN _ _ _).trans (grown_set _ ⟨c, 2, none⟩ _)) hcB⟩, ?_⟩
      rw [hC1.posOf, HCB.out.posOf]
      omega
    · have hp' : partB (byteAt s b) = false := by simpa using hp
      clear hp
      go_wp2_with (first | (go_at_call 55; refine (peek_any s b 0 c _ hs (by omega) (by omega) HCB.out.text HCB.out.pos).mono ?_; rintro e w' ⟨rfl, n, rfl⟩) | (go_at_call 54; refine (isPart_any _ _).mono ?_; rintro e w' ⟨rfl, rfl⟩))
      obtain ⟨hb1, hb2⟩ : wordEnd s a = runEnd quoteB s b ∧ True := ⟨by unfold wordEnd; rw [← HR.out, runEnd_off hp'], trivial⟩
      obtain ⟨wo, hwo⟩ : ∃ wo, wo = wr.drewN n := ⟨_, rfl⟩
      have HCo : Hid (Cur wo c s st b m) := by rw [hwo]; exact HCB.out.drew n
      have HGo : Hid (w.grownBy wo (some c)) := by rw [hwo]; exact HG.out.trans (grown_drewN _ _ _)
      have HRo : Hid (Res wo w.heap.size) := by rw [hwo]; exact HRes.out.kept (grown_drewN _ _ _) hcB
      rw [← hwo]
      clear hwo HCB HG HR HRes
      go_loopw [] (fun wr => ∃ d : Nat, b ≤ d ∧ d ≤ s.size ∧ Cur wr c s st d m ∧ runEnd quoteB s d = runEnd quoteB s b ∧ w.grownBy wr (some c) ∧ Res wr w.heap.size) (fun wr => s.size - posOf wr c)
      case atStart => exact ⟨b, Nat.le_refl _, hbs, HCo.out, rfl, HGo.out, HRo.out⟩
      case round =>
        obtain ⟨d, hbd, hds, hcd, hrun, hg, hres⟩ := hrel
        have HCD := Lib.hid hcd
        have HG := Lib.hid hg
        have HR := Lib.hid hrun
        have HRes := Lib.hid hres
        clear hcd hg hrun hres HCo HGo HRo
        by_cases hq : byteAt s d = 39
        · have hqB : quoteB (byteAt s d) = true := by rw [hq]; rfl
          have hlt := part_in quote0 hqB
          have c2 := HCD.out.pos
          have f2 := HCD.out.free 2
          have hw : IntKind.i64.wrap ((d : Int) + 1) = (d : Int) + 1 := IntWalk.i64_in _ (by omega)
          go_wp2_with (go_at_call 55; refine (peek_any s d 0 c _ hs (by omega) (by omega) HCD.out.text HCD.out.pos).mono ?_; rintro e w' ⟨rfl, n, rfl⟩)
          have hC1 : Cur ((wr.drewN n).setCell ⟨c, 2, none⟩ (.int .i64 ((d : Int) + 1))) c s st (d + 1) m := (HCD.out.drew n).move (d + 1) _ (by omega)
          refine ⟨⟨d + 1, by omega, by omega, hC1, (runEnd_on quote0 hqB).symm.trans HR.out, (HG.out.trans (grown_drewN _ _ _)).trans (grown_set _ ⟨c, 2, none⟩ _), HRes.out.kept ((grown_drewN _ _ _).trans (grown_set _ ⟨c, 2, none⟩ _)) hcB⟩, ?_⟩
          rw [hC1.posOf, HCD.out.posOf]
          omega
        · have hq' : (byteAt s d == 39) = false := by simpa using hq
          have hqB : quoteB (byteAt s d) = false := hq'
          have hE : d = wordEnd s a := by rw [hb1, ← HR.out, runEnd_off hqB]
          have HE := Lib.hid hE
          clear hE hqB
          go_wp2_with (go_at_call 55; refine (peek_any s d 0 c _ hs (by omega) (by omega) HCD.out.text HCD.out.pos).mono ?_; rintro e w' ⟨rfl, n, rfl⟩)
          have c0 := HCD.out.text
          have c1 := HCD.out.start
          have c2 := HCD.out.pos
          have c3 := HCD.out.words
          have i1 : (st : Int) ≤ d := by omega
          have i2 : (d : Int) ≤ s.size := by omega
          have i3 : (0 : Int) ≤ st := by omega
          obtain ⟨x, hx⟩ : ∃ x, x = s.extract st d := ⟨_, rfl⟩
          have hxs : x.size ≤ maxLen := by rw [hx, ByteArray.size_extract]; unfold maxLen; omega
          have HX := Lib.hid hx
          have HXS := Lib.hid hxs
          clear hx hxs
          have HM1 := Lib.hid (HM.out.kept HG.out (by simpa using fun h => hcm h.symm))
          have r0 := HRes.out.c0
          have r1 := HRes.out.c1
          have r2 := HRes.out.c2
          have r3 := HRes.out.c3
          have g0 := HRes.out.free 0
          have g1 := HRes.out.free 1
          have g2 := HRes.out.free 2
          have g3 := HRes.out.free 3
          have i4 : st ≤ d := by omega
          cases hk : kwWords.contains x.data.toList
          all_goals
            have HK := Lib.hid hk
            clear hk
            go_quiet (fail)
            rw [← HX.out]
            go_wp2_with (at_lookup; refine at_kw _ rfl _ _ rfl m rfl HM1.out x rfl HXS.out ?_; rw [HK.out])
          · refine bodyPost_ret (v := .agg #[.int .i64 1, .string x, .int .i64 0, .bool false]) (by simp [results, Tryz.results27, go_sem, r0, r1, r2, r3]) rfl ⟨?_, ?_, ?_⟩
            · rw [← HE.out, ← HX.out]
              unfold wordKind
              rw [HK.out]
              rfl
            · rw [← HE.out]
              exact ((((HCD.out.drew _).other hcB' _).other hcB' _).other hcB' _).other hcB' _
            · exact grown_new (grown_new (grown_new (grown_new (HG.out.trans (grown_drewN _ _ _)) (Nat.le_refl _) _) (Nat.le_refl _) _) (Nat.le_refl _) _) (Nat.le_refl _) _
          · refine bodyPost_ret (v := .agg #[.int .i64 2, .string x, .int .i64 0, .bool false]) (by simp [results, Tryz.results27, go_sem, r0, r1, r2, r3]) rfl ⟨?_, ?_, ?_⟩
            · rw [← HE.out, ← HX.out]
              unfold wordKind
              rw [HK.out]
              rfl
            · rw [← HE.out]
              exact ((((HCD.out.drew _).other hcB' _).other hcB' _).other hcB' _).other hcB' _
            · exact grown_new (grown_new (grown_new (grown_new (HG.out.trans (grown_drewN _ _ _)) (Nat.le_refl _) _) (Nat.le_refl _) _) (Nat.le_refl _) _) (Nat.le_refl _) _

end Tk
end Go.Proofs.YtmphkifhnjfkmaaGreatDoor

namespace Go.Proofs.YtmphkifhnjfkmaaGreatDoor
open Go.RowKit
namespace Tk

/-- What an iterator's contract says: N rounds come, the k-th with the values (encs k); of its own it writes block c alone; C k: what it holds when the k-th round begins, and wants back; D: what it leaves. -/
def IterSt (P : Program) (n gf : Nat) (lb : Array Value) (c N : Nat) (encs : Nat → Array Value) (C : Nat → World → Prop) (D : World → Prop) (w : World) : Prop :=
  ∀ (l : Nat) (J : Nat → World → Prop) (W : World), w.grownBy W none → (∀ k A B, J k A → A.grownBy B (some c) → J k B) →
    (∀ k W1, k < N → J k W1 → C k W1 → YieldAt Fence.wide (n - 1) P l (encs k) W1 fun e W' => e = .returned (.bool true) ∧ J (k + 1) W' ∧ C k W') →
    J 0 W → CallsIn Fence.wide n P gf (#[.func (.yield l) #[] #[]] ++ lb) W fun e W' => (∃ v, e = .returned v) ∧ J N W' ∧ D W'

def goesOn (I C : World → Prop) (W : World) : Exit → Act → World → Prop
  | .normal, _, W' => KeepsOthers W W' ∧ I W' ∧ C W'
  | _, _, _ => False

/-- A fact abides what is done at or beyond a size, and to block c. -/
def Stable (X : World → Prop) (c B : Nat) : Prop := ∀ U V r, X U → U.grownBy V (some r) → (r = c ∨ B ≤ r) → X V
def StableNew (X : World → Prop) (B : Nat) : Prop := ∀ U V r, X U → U.grownBy V (some r) → B ≤ r → X V

theorem grown_row {w w' : World} (h : w.grownBy w' none) (r : Nat) : w.grownBy w' (some r) :=
  ⟨h.os, h.tape, h.output, h.size, fun k hk _ => h.block k hk (by simp)⟩

theorem wpIn_range_st {P : Program} {n : Nat} {g : Operand} {ps : Array Tmp} {assign body : Code} {Q : Exit → Act → World → Prop} {a : Act} {w : World}
    {gf : Nat} {lb : Array Value} (hg : a.eval g = .func (.func gf) #[] lb) (eg : ∀ args w, (callFunc gf args).run P w = .ok (.enter gf args) w)
    {c N : Nat} (hcw : c < w.heap.size) {encs : Nat → Array Value} {C : Nat → World → Prop} {D : World → Prop} {n0 : Nat} (hit : IterSt P n0 gf lb c N encs C D w) (hps : ∀ k, (encs k).size = ps.size)
    (hC : ∀ k, StableNew (C k) w.heap.size) (hD : StableNew D w.heap.size)
    (I : Nat → World → Prop) (hI : ∀ k, Stable (I k) c w.heap.size) (h0 : I 0 w) (a₁ : Nat → Act)
    (hassign : ∀ (l k : Nat) (W : World) (K : Act → World → Prop), K (a₁ k) W →
      assign.wpIn (Fence.wide.inRound l) (n0 - 1) P (Exit.then K (fun _ _ _ => False)) { tmps := (ps.zip (encs k)).foldl (fun t (p, v) => t.setIfInBounds p v) a.tmps, defers := [] } W)
    (hbody : ∀ (l k : Nat) (W : World), k < N → I k W → C k W → body.wpIn (Fence.wide.inRound l) (n0 - 1) P (goesOn (I (k + 1)) (C k) W) (a₁ k) W)
    (hdone : ∀ (B : Nat) (W : World), w.heap.size ≤ B → I N W → D W → W.heap[B]? = some (.deferred (some [])) → Q .normal { a with defers := { target := .collected B, args := #[] } :: a.defers } W) :
    (Code.rangeFunc g ps assign body).wpIn Fence.wide n P Q a w := by
  refine wpIn_rangeFunc ?_
  intro fn hfn
  obtain ⟨rec, hrec⟩ : ∃ rec : LoopState → Option Code → Loop, rec = fun st pe => { state := st, pending := pe, fn, tmps := a.tmps, params := ps, assign, body, defers := w.heap.size } := ⟨_, rfl⟩
  obtain ⟨W1, hW1⟩ : ∃ W1, (w.alloc (.deferred (some []))).alloc (.loop (rec .ready none)) = W1 := ⟨_, rfl⟩
  have hL1 : W1.heap[w.heap.size + 1]? = some (.loop (rec .ready none)) := by
    rw [← hW1]; have := World.alloc_heap_new (w.alloc (.deferred (some []))) (.loop (rec .ready none)); rwa [World.size_alloc] at this
  have hK1 : W1.heap[w.heap.size]? = some (.deferred (some [])) := by
    rw [← hW1]; exact (Below.heap_alloc _ _ _ (by simp)).trans (World.alloc_heap_new w _)
  have hg1 : w.grownBy W1 none := by
    rw [← hW1]; exact (World.grownBy_alloc w _ none).trans (World.grownBy_alloc _ _ none)
  have hI1 : I 0 W1 := hI 0 w W1 c h0 (grown_row hg1 c) (.inl rfl)
  refine ⟨w.heap.size + 1, [{ target := .collected w.heap.size, args := #[] }], W1, { target := .fn (.func gf) lb, args := #[.func (.yield (w.heap.size + 1)) #[] #[]] }, W1, gf,
    #[.func (.yield (w.heap.size + 1)) #[] #[]] ++ lb, W1, ?_, ?_, ?_, ?_, fun h => (by cases h), ?_⟩
  · rw [← hW1, hrec]; exact run_enterLoop_outer _ _ _ _ _
  · simp only [resolve, hg]
    simp [go_sem]
  · intro f' hf'; trivial
  · simp [invoke, go_sem, eg]
  · have hit' : CallsIn Fence.wide n0 P gf (#[.func (.yield (w.heap.size + 1)) #[] #[]] ++ lb) W1 (rangePost Fence.wide n P (w.heap.size + 1) Q { a with defers := [{ target := .collected w.heap.size, args := #[] }] ++ a.defers }) := by
      refine (hit (w.heap.size + 1)
        (fun k W => I k W ∧ W.heap[w.heap.size + 1]? = some (.loop (rec .ready none)) ∧ W.heap[w.heap.size]? = some (.deferred (some [])))
        W1 hg1 ?_ ?_ ⟨hI1, hL1, hK1⟩).mono ?_
      · rintro k A B ⟨h1, h2, h3⟩ hAB
        exact ⟨hI k A B c h1 hAB (.inl rfl), (hAB.block _ (Array.getElem?_eq_some_iff.1 h2).1 (by intro e; cases e; omega)).trans h2, (hAB.block _ (Array.getElem?_eq_some_iff.1 h3).1 (by intro e; cases e; omega)).trans h3⟩
      · rintro k W hk ⟨hi, hl, hd⟩ hc
        have hlt : w.heap.size + 1 < W.heap.size := (Array.getElem?_eq_some_iff.1 hl).1
        have hy := run_yield (P := P) (args := encs k) hl (by rw [hrec]; exact hps k)
        rw [hrec] at hy
        refine ⟨fn, _, assign, body, hy, roundIn_of_wpIn hfn (hassign _ k W _ ⟨_, run_beginRound hl (by rw [hrec]), ?_⟩)⟩
        have hl2 : (W.putObj (w.heap.size + 1) (.loop { rec .ready none with state := .busy })).heap[w.heap.size + 1]? = some (.loop { rec .ready none with state := .busy }) := World.putObj_heap_same hlt
        have hk2 : (W.putObj (w.heap.size + 1) (.loop { rec .ready none with state := .busy })).heap[w.heap.size]? = some (.deferred (some [])) := (World.putObj_heap_other (by omega)).trans hd
        refine wpIn_mono (hbody _ k _ hk (hI k _ _ _ hi (grownBy_putObj' _ _ _) (.inr (by omega))) (hC k _ _ _ hc (grownBy_putObj' _ _ _) (by omega))) ?_
        rintro e a3 W3 hp
        cases e with
        | normal =>
          obtain ⟨hk3, hi3, hc3⟩ := hp
          have hl3 := hk3.same _ _ hl2 rfl
          have hr := run_endRound (P := P) none hl3
          have hl4 : (W3.putObj (w.heap.size + 1) (.loop (rec .ready none))).heap[w.heap.size + 1]? = some (.loop (rec .ready none)) := World.putObj_heap_same (Array.getElem?_eq_some_iff.1 hl3).1
          have hk4 : (W3.putObj (w.heap.size + 1) (.loop (rec .ready none))).heap[w.heap.size]? = some (.deferred (some [])) := (World.putObj_heap_other (by omega)).trans (hk3.same _ _ hk2 rfl)
          refine ⟨_, W3.putObj (w.heap.size + 1) (.loop (rec .ready none)), ?_, rfl, ⟨hI (k + 1) _ _ _ hi3 (grownBy_putObj' _ _ _) (.inr (by omega)), hl4, hk4⟩, hC k _ _ _ hc3 (grownBy_putObj' _ _ _) (by omega)⟩
          rw [hr, hrec]
          rfl
        | ret => exact hp.elim
        | exit id => exact hp.elim
        | goto t => exact hp.elim
        | panic ch => exact hp.elim
        | outgrown => exact hp.elim
      · rintro e W2 ⟨⟨v, rfl⟩, ⟨hi, hl, hd⟩, hdd⟩
        exact ⟨none, _, by have := run_endLoop (P := P) hl (by rw [hrec]; simp); rw [hrec] at this; exact this, hdone _ _ (Nat.le_refl _) (hI N _ _ _ hi (grownBy_putObj' _ _ _) (.inr (by omega))) (hD _ _ _ hdd (grownBy_putObj' _ _ _) (by omega)) ((World.putObj_heap_other (by omega)).trans hd)⟩
    exact callsIn_wide.2 (callsIn_wide.1 hit')

end Tk
end Go.Proofs.YtmphkifhnjfkmaaGreatDoor

namespace Go.Proofs.YtmphkifhnjfkmaaGreatDoor
open Go.ChangeShapes Go.WideShapes Go.ChangeAt Go.RowKit Go.WideMaps Go.Maps
namespace Tk

def hexV (s : ByteArray) (a : Nat) : Nat → Int
  | 0 => 0
  | k + 1 => hexV s a k * 16 + digitV (byteAt s (a + k)) 16

theorem byteAt_range (s : ByteArray) (i : Nat) : 0 ≤ byteAt s i ∧ byteAt s i ≤ 255 := by
  unfold byteAt
  split
  · rename_i h
    have := (s[i]'h).toNat_lt
    omega
  · omega

theorem digitV_range (b : Int) (h : digitV b 16 < 16) (h0 : 0 ≤ b) : 0 ≤ digitV b 16 := by
  unfold digitV at *
  by_cases hd : digB b = true
  · rw [if_pos hd] at *
    have hd2 : 48 ≤ b ∧ b ≤ 57 := by simpa [digB] using hd
    omega
  · rw [if_neg hd] at *
    split at h <;> split <;> omega

theorem hexV_range (s : ByteArray) (a : Nat) : ∀ k, k ≤ 6 → (∀ j, j < k → digitV (byteAt s (a + j)) 16 < 16) → 0 ≤ hexV s a k ∧ hexV s a k < 16 ^ k
  | 0, _, _ => by simp [hexV]
  | k + 1, hk, h => by
    obtain ⟨h1, h2⟩ := hexV_range s a k (by omega) fun j hj => h j (by omega)
    have h3 := h k (by omega)
    have h4 := digitV_range _ h3 (byteAt_range s (a + k)).1
    unfold hexV
    rw [Int.pow_succ]
    omega

theorem i32_in (z : Int) (h : 0 ≤ z ∧ z < 2147483648) : IntKind.i32.wrap z = z := by
  have := h.1; have := h.2
  simp [IntKind.wrap, IntKind.bits, IntKind.signed]
  omega

set_option maxHeartbeats 1000000 in
theorem hex_two (w : World) (c : Nat) (s : ByteArray) (st a m : Nat) (hc : Cur w c s st a m) (hs : s.size ≤ 20000) (h0 : digitV (byteAt s a) 16 < 8) (h1 : digitV (byteAt s (a + 1)) 16 < 16) (hz : a + 2 ≤ s.size) :
    Calls Tryz.prog 101 #[.pointer (some ⟨c, 0, none⟩), .int .i64 2, .int .i32 127] w fun e w' => e = .returned (.int .i32 (hexV s a 2)) ∧ Cur w' c s st (a + 2) m ∧ w.grownBy w' (some c) := by
  have HC := Lib.hid hc
  clear hc
  go_enter Tryz.func101, Tryz.ntmps101
  go_wp2_with fail
  go_loopw [7, 11] (fun r i wr => ∃ k : Nat, k ≤ 2 ∧ i = .int .i64 k ∧ r = .int .i32 (hexV s a k) ∧ Cur wr c s st (a + k) m ∧ w.grownBy wr (some c)) (fun _ i _ => 2 - (intOf i).toNat)
  case atStart => exact ⟨0, by omega, rfl, rfl, HC.out, World.grownBy.refl _ _⟩
  case round =>
    obtain ⟨k, hk, rfl, rfl, hcr, hg⟩ := hrel
    have HCR := Lib.hid hcr
    have HG := Lib.hid hg
    clear hcr hg
    by_cases hlt : k < 2
    · have hd : digitV (byteAt s (a + k)) 16 < 16 := by
        rcases (by omega : k = 0 ∨ k = 1) with rfl | rfl
        · exact Int.lt_trans h0 (by decide)
        · exact h1
      have hd0 := digitV_range _ hd (byteAt_range s (a + k)).1
      have hr := hexV_range s a k (by omega) fun j hj => by
        have : j = 0 := by omega
        subst this
        exact Int.lt_trans h0 (by decide)
      have hp : (16 : Int) ^ k ≤ 16 := by rcases (by omega : k = 0 ∨ k = 1) with rfl | rfl <;> decide
      have l2 : (k : Int) < 2 := by omega
      have HV : Hid (hexV s a (k + 1) = hexV s a k * 16 + digitV (byteAt s (a + k)) 16) := rfl
      generalize hexV s a k = r at hr HV ⊢
      have hbr := byteAt_range s (a + k)
      have e1 : IntKind.i32.wrap (r * 16) = r * 16 := i32_in _ (by omega)
      obtain ⟨d, hdd⟩ : ∃ d, d = digitV (byteAt s (a + k)) 16 := ⟨_, rfl⟩
      rw [← hdd] at hd hd0 HV
      have HD := Lib.hid hdd
      clear hdd
      have e2 : IntKind.i32.wrap d = d := i32_in _ (by omega)
      have e3 : IntKind.i32.wrap (r * 16 + d) = r * 16 + d := i32_in _ (by omega)
      have c2 := HCR.out.pos
      have f2 := HCR.out.free 2
      have e4 : IntKind.i64.wrap (((a + k : Nat) : Int) + 1) = ((a + k : Nat) : Int) + 1 := IntWalk.i64_in _ (by omega)
      go_wp2_with (first | (go_at_call 55; refine (peek_any s (a + k) 0 c _ hs (by omega) (by omega) HCR.out.text HCR.out.pos).mono ?_; rintro e w' ⟨rfl, n, rfl⟩) | (go_at_call 96; refine (digit_any _ 16 _ hbr.1 hbr.2).mono ?_; rintro e w' ⟨he, rfl⟩; rw [← HD.out, decide_eq_true hd] at he; subst he))
      exact ⟨⟨k + 1, by omega, by go_num, by rw [HV.out], (HCR.out.drew n).move (a + (k + 1)) _ (by omega), (HG.out.trans (grown_drewN _ _ _)).trans (grown_set _ ⟨c, 2, none⟩ _)⟩, by simp [intOf]; omega⟩
    · obtain rfl : k = 2 := by omega
      have q0 := digitV_range _ (Int.lt_trans h0 (by decide)) (byteAt_range s a).1
      have q1 := digitV_range _ h1 (byteAt_range s (a + 1)).1
      have hv : hexV s a 2 = digitV (byteAt s a) 16 * 16 + digitV (byteAt s (a + 1)) 16 := by
        show (0 * 16 + digitV (byteAt s (a + 0)) 16) * 16 + digitV (byteAt s (a + 1)) 16 = _
        rw [Nat.add_zero]
        omega
      have r1 : hexV s a 2 ≤ 127 := by omega
      have r0 : 0 ≤ hexV s a 2 := by omega
      obtain ⟨r, hr⟩ : ∃ r, r = hexV s a 2 := ⟨_, rfl⟩
      rw [← hr] at r0 r1 ⊢
      have HR := Lib.hid hr
      have hvr : Lib.validRune r = true := by
        unfold Lib.validRune
        simp
        omega
      have HVR := Lib.hid hvr
      clear hr hv hvr
      have r2 : ¬ (127 : Int) < r := by omega
      go_wp2_with (go_at_call 120; refine (Tryz.utf8_ValidRune _ _).mono ?_; rintro e w' ⟨he, rfl⟩; rw [HVR.out] at he; subst he)
      go_ret
      exact ⟨ret_int HR.out, HCR.out, HG.out⟩

end Tk
end Go.Proofs.YtmphkifhnjfkmaaGreatDoor

namespace Go.Proofs.YtmphkifhnjfkmaaGreatDoor
open Go.ChangeShapes Go.WideShapes Go.ChangeAt Go.RowKit Go.WideMaps Go.Maps
namespace Tk

/-- N digits of a base at place a, none behind them, no underscore among them. -/
structure Run (s : ByteArray) (a N : Nat) (base : Int) : Prop where
  dig : ∀ k, k < N → digitV (byteAt s (a + k)) base < base
  bare : ∀ k, k < N → byteAt s (a + k + 1) ≠ 95
  stop : ¬ digitV (byteAt s (a + N)) base < base
  size : a + N ≤ s.size

/-- What the closure has at hand: its own two boxes. -/
structure Boxes (w : World) (bc bb c : Nat) (base : Int) : Prop where
  cur : w.cell? ⟨bc, 0, none⟩ = some (.pointer (some ⟨c, 0, none⟩))
  base : w.cell? ⟨bb, 0, none⟩ = some (.int .u64 base)

theorem lt_cell {w : World} {p : Addr} {v : Value} (h : w.cell? p = some v) : p.block < w.heap.size := by
  rcases Nat.lt_or_ge p.block w.heap.size with h1 | h1
  · exact h1
  · simp [World.cell?, Array.getElem?_eq_none h1] at h

theorem cell_grown {w w' : World} {p : Addr} {v : Value} {row : Option Nat} (h : w.cell? p = some v) (hg : w.grownBy w' row) (hr : some p.block ≠ row) : w'.cell? p = some v :=
  (World.cell?_of_block (w := w) (hg.block p.block (lt_cell h) hr)).trans h

theorem Boxes.kept {w w' : World} {bc bb c : Nat} {base : Int} {row : Option Nat} (h : Boxes w bc bb c base) (hg : w.grownBy w' row) (h1 : some bc ≠ row) (h2 : some bb ≠ row) : Boxes w' bc bb c base :=
  ⟨cell_grown h.cur hg h1, cell_grown h.base hg h2⟩

theorem peek0 (s : ByteArray) (k B : Nat) (w : World) (hs : s.size ≤ 20000) (hk : k ≤ 40000) (h0 : w.cell? ⟨B, 0, none⟩ = some (.string s)) (h2 : w.cell? ⟨B, 2, none⟩ = some (.int .i64 k)) :
    Calls Tryz.prog 55 #[.pointer (some ⟨B, 0, none⟩), .int .i64 0] w fun e w' => e = .returned (.int .u8 (byteAt s k)) ∧ ∃ m, w' = w.drewN m := peek_any s k 0 B w hs (by omega) hk h0 h2

theorem digit_is (b base d : Int) (t : Bool) (w : World) (h0 : 0 ≤ b) (h1 : b ≤ 255) (hd : d = digitV b base) (hl : decide (d < base) = t) :
    Calls Tryz.prog 96 #[.int .u8 b, .int .u64 base] w fun e w' => e = .returned (.tuple #[.int .u64 d, .bool t]) ∧ w' = w := by
  subst hd hl
  exact (digit_any b base w h0 h1).mono fun e w' ⟨he, hw⟩ => ⟨he, hw.symm⟩

def atDigit (s : ByteArray) (st a m c bc bb : Nat) (base : Int) (k : Nat) (w : World) : Prop := Cur w c s st (a + k + 1) m ∧ Boxes w bc bb c base

attribute [local go_sem] Oper.semAt_some
@[local go_sem] theorem wide_fn (f : FuncId) : Fence.wide.fn f = True := rfl
@[local go_sem] theorem wide_room (n : Nat) : (Fence.wide.depth.isSome = true → 1 ≤ n) = True := by simp [Fence.wide]
@[local go_sem] theorem round_room (l n : Nat) : ((Fence.wide.inRound l).depth.isSome = true → 1 ≤ n) = True := by simp [Fence.wide, Fence.inRound]
@[local go_sem] theorem round_fn (l : Nat) (f : FuncId) : (Fence.wide.inRound l).fn f = True := rfl

set_option maxHeartbeats 2000000 in
theorem digits_iter (w : World) (s : ByteArray) (st a m c bc bb N : Nat) (base : Int) (hs : s.size ≤ 20000) (hR : Run s a N base) (hc : Cur w c s st a m) (hB : Boxes w bc bb c base) (h1 : bc ≠ c) (h2 : bb ≠ c) (n : Nat) :
    IterSt Tryz.prog n 95 #[.pointer (some ⟨bc, 0, none⟩), .pointer (some ⟨bb, 0, none⟩)] c N (fun k => #[.int .u64 (digitV (byteAt s (a + k)) base)]) (atDigit s st a m c bc bb base) (fun w' => Cur w' c s st (a + N) m) w := by
  intro l J W hW hJ hY h0
  have HJ := Lib.hid hJ
  have HR := Lib.hid hR
  have HC0 := Lib.hid (hc.kept hW (by simp))
  have HB0 := Lib.hid (hB.kept hW (by simp) (by simp))
  have H0 := Lib.hid h0
  have HY := Lib.hid hY
  clear hJ hR hc hB h0 hY hW
  refine callsIn_of_wp Tryz.func95 rfl trivial ?_ rfl
  simp only [Tryz.ntmps95, List.size_toArray, List.length_cons, List.length_nil, Nat.reduceAdd, Nat.reduceSub, Array.replicate_succ, Array.replicate_zero, List.push_toArray, List.append_toArray, List.nil_append, List.cons_append]
  gi_wp2_with fail
  gi_loopw [] (fun wr => ∃ k : Nat, k ≤ N ∧ Cur wr c s st (a + k) m ∧ Boxes wr bc bb c base ∧ J k wr) (fun wr => s.size - posOf wr c)
  case atStart => exact ⟨0, Nat.zero_le _, HC0.out, HB0.out, H0.out⟩
  case round =>
    obtain ⟨k, hk, hcr, hbr, hj⟩ := hrel
    have x1 := hbr.cur
    have x2 := hbr.base
    have HC := Lib.hid hcr
    have HB := Lib.hid hbr
    have Hj := Lib.hid hj
    have hsz := HR.out.size
    have hb0 := byteAt_range s (a + k)
    clear hcr hbr hj HC0 HB0 H0
    obtain ⟨p, hp⟩ : ∃ p : Nat, p = a + k := ⟨_, rfl⟩
    rw [← hp] at hb0
    have hC' : Cur wr c s st p m := by rw [hp]; exact HC.out
    have HC := Lib.hid hC'
    have HP := Lib.hid hp
    have hpb : p ≤ 30000 := by omega
    clear hC' hp
    by_cases hlt : k < N
    · obtain ⟨d, hd⟩ : ∃ d, d = digitV (byteAt s p) base := ⟨_, rfl⟩
      have hdl : decide (d < base) = true := by rw [hd, HP.out]; exact decide_eq_true (HR.out.dig k hlt)
      have h95 : (byteAt s (p + 1) == 95) = false := by rw [HP.out]; simpa using HR.out.bare k hlt
      have HYd : Hid (∀ W1, J k W1 → Cur W1 c s st (p + 1) m → Boxes W1 bc bb c base → YieldAt Fence.wide (n - 1) Tryz.prog l #[.int .u64 d] W1 fun e W' => e = .returned (.bool true) ∧ J (k + 1) W' ∧ Cur W' c s st (p + 1) m ∧ Boxes W' bc bb c base) := by
        intro W1 q1 q2 q3
        have := HY.out k W1 hlt q1 ⟨by rw [← HP.out]; exact q2, q3⟩
        rw [hd, HP.out]
        exact this
      have HD := Lib.hid hd
      have HDL := Lib.hid hdl
      clear hd hdl
      gi_wp2_with fail
      refine wpIn_wide.2 ?_
      go_quiet ((first | (go_at_call 55; exact Calls.quiet_of (peek0 s p c _ hs (by omega) HC.out.text HC.out.pos)) | (go_at_call 96; exact Calls.quiet_of_same (digit_is _ base d true _ hb0.1 hb0.2 HD.out HDL.out))))
      obtain ⟨wo, hwo⟩ : ∃ wo, wo = wr.drewN nq := ⟨_, rfl⟩
      have HCo : Hid (Cur wo c s st p m) := by rw [hwo]; exact HC.out.drew nq
      have HBo : Hid (Boxes wo bc bb c base) := by rw [hwo]; exact ⟨HB.out.cur, HB.out.base⟩
      have HJo : Hid (J k wo) := by rw [hwo]; exact HJ.out k _ _ Hj.out (grown_drewN _ _ _)
      rw [← hwo]
      clear hwo x1 x2
      have x1 := HBo.out.cur
      have x2 := HBo.out.base
      have c2 := HCo.out.pos
      have f2 := HCo.out.free 2
      have e1 : IntKind.i64.wrap ((p : Int) + 1) = (p : Int) + 1 := IntWalk.i64_in _ (by omega)
      obtain ⟨wy, hwy⟩ : ∃ wy, wy = wo.setCell ⟨c, 2, none⟩ (.int .i64 ((p : Int) + 1)) := ⟨_, rfl⟩
      have HCy : Hid (Cur wy c s st (p + 1) m) := by rw [hwy]; exact HCo.out.move (p + 1) _ (by omega)
      have HGy : Hid (wo.grownBy wy (some c)) := by rw [hwy]; exact grown_set _ ⟨c, 2, none⟩ _
      have HBy : Hid (Boxes wy bc bb c base) := HBo.out.kept HGy.out (by simpa using h1) (by simpa using h2)
      have HJy : Hid (J k wy) := HJ.out k _ _ HJo.out HGy.out
      have HWY := Lib.hid hwy
      clear hwy
      have y1 := HBy.out.cur
      gi_wp2_with (first | (gi_at_call 55; rw [← HWY.out]; refine (callsIn_wide.2 (peek0 s (p + 1) c wy hs (by omega) HCy.out.text HCy.out.pos)).mono ?_; rintro e w' ⟨rfl, n2, rfl⟩; obtain ⟨fn, tmps', assign, body, hy, hRd⟩ := HYd.out (wy.drewN n2) (HJ.out k _ _ HJy.out (grown_drewN _ _ _)) (HCy.out.drew n2) ⟨HBy.out.cur, HBy.out.base⟩) | (refine hRd.mono ?_; rintro e W' ⟨rfl, hj', hC', hB'⟩))
      have hpk := HP.out
      refine ⟨⟨k + 1, by omega, ?_, hB', hj'⟩, ?_⟩
      · rw [show a + (k + 1) = p + 1 by omega]
        exact hC'
      · rw [hC'.posOf, HC.out.posOf]
        omega
    · obtain rfl : k = N := by omega
      obtain ⟨d, hd⟩ : ∃ d, d = digitV (byteAt s p) base := ⟨_, rfl⟩
      have hdl : decide (d < base) = false := by rw [hd, HP.out]; exact decide_eq_false HR.out.stop
      have HD := Lib.hid hd
      have HDL := Lib.hid hdl
      clear hd hdl
      gi_wp2_with fail
      refine wpIn_wide.2 ?_
      go_quiet ((first | (go_at_call 55; exact Calls.quiet_of (peek0 s p c _ hs (by omega) HC.out.text HC.out.pos)) | (go_at_call 96; exact Calls.quiet_of_same (digit_is _ base d false _ hb0.1 hb0.2 HD.out HDL.out))))
      gi_wp2_with fail
      first | go_end0 | refine bodyPost_ret (results_none rfl _ _ _) rfl ?_
      refine ⟨⟨_, rfl⟩, HJ.out _ _ _ Hj.out (grown_drewN _ _ _), ?_⟩
      rw [← HP.out]
      exact HC.out.drew _

end Tk
end Go.Proofs.YtmphkifhnjfkmaaGreatDoor

namespace Go.Proofs.YtmphkifhnjfkmaaGreatDoor
open Go.ChangeShapes Go.WideShapes Go.ChangeAt Go.RowKit
namespace Tk

theorem add_run (x y : Nat) (hx : x + y < 18446744073709551616) (w : World) :
    (callFunc 88 #[.int .u64 (x : Int), .int .u64 (y : Int), .int .u64 0]).run Tryz.prog w = .ok (.value (.tuple #[.int .u64 ((x : Int) + y), .int .u64 0])) w := by
  rw [run_callFunc_extern Tryz.func88 (by kernel_rfl) (by kernel_rfl) (by kernel_rfl) (e := add64Entry) (by kernel_rfl), run_add64 x y 0 (by omega) (by omega) (by omega) (by omega)]
  simp only [Result.andThen]
  rw [show ((x : Int) + y + 0) % 18446744073709551616 = x + y by omega, show ((x : Int) + y + 0) / 18446744073709551616 = 0 by omega]

theorem mul_small (x y : Nat) (h : x * y < 18446744073709551616) (hx : x < 18446744073709551616) (hy : y < 18446744073709551616) (w : World) :
    Calls Tryz.prog 87 #[.int .u64 x, .int .u64 y] w fun e w' => e = .returned (.tuple #[.int .u64 0, .int .u64 ((x * y : Nat) : Int)]) ∧ w' = w := by
  refine (Tryz.bits_Mul64 x y hx hy w).mono ?_
  rintro e w' ⟨rfl, rfl⟩
  rw [Nat.div_eq_of_lt h, Nat.mod_eq_of_lt h]
  exact ⟨rfl, rfl⟩

theorem mul_zero' (y : Nat) (hy : y < 18446744073709551616) (w : World) :
    Calls Tryz.prog 87 #[.int .u64 0, .int .u64 y] w fun e w' => e = .returned (.tuple #[.int .u64 0, .int .u64 0]) ∧ w' = w := by
  refine (mul_small 0 y (by omega) (by omega) hy w).mono ?_
  rintro e w' ⟨rfl, rfl⟩
  rw [Nat.zero_mul]
  exact ⟨rfl, rfl⟩

/-- A number below 2^64 in block b. -/
structure Wide (w : World) (b : Nat) (x : Nat) : Prop where
  hi : w.cell? ⟨b, 0, none⟩ = some (.int .u64 0)
  lo : w.cell? ⟨b, 1, none⟩ = some (.int .u64 x)
  free : ∀ j, w.frozen? ⟨b, j, none⟩ = false

theorem Wide.set {w : World} {b x : Nat} (h : Wide w b x) (y : Nat) (z : Int) (hz : z = y) : Wide ((w.setCell ⟨b, 0, none⟩ (.int .u64 0)).setCell ⟨b, 1, none⟩ (.int .u64 z)) b y where
  hi := (set_off _ b 1 0 _ (by decide)).trans (World.cell?_setCell_same _ _ _ h.hi)
  lo := hz ▸ World.cell?_setCell_same _ _ _ ((set_off _ b 0 1 _ (by decide)).trans h.lo)
  free := fun j => by rw [World.frozen?_setCell, World.frozen?_setCell]; exact h.free j

set_option maxHeartbeats 1000000 in
theorem push_small (b x base d : Nat) (w : World) (h : Wide w b x) (hx : x < 18446744073709551616) (hb : base < 100) (hd : d < 100) (hm : x * base + d < 18446744073709551616) :
    Calls Tryz.prog 65 #[.pointer (some ⟨b, 0, none⟩), .int .u64 base, .int .u64 d] w fun e w' => e = .returned (.bool true) ∧ Wide w' b (x * base + d) ∧ w.grownBy w' (some b) := by
  have h0 := h.hi
  have h1 := h.lo
  have g0 := h.free 0
  have g1 := h.free 1
  have HH := Lib.hid h
  have hz : ∀ w : World, (callFunc 88 #[.int .u64 0, .int .u64 0, .int .u64 0]).run Tryz.prog w = .ok (.value (.tuple #[.int .u64 0, .int .u64 0])) w := add_run 0 0 (by omega)
  obtain ⟨p, hp⟩ : ∃ p, p = x * base := ⟨_, rfl⟩
  have ha := add_run p d (by omega)
  have HZ := Lib.hid hz
  have HA := Lib.hid ha
  have HP := Lib.hid hp
  clear hp hz ha h
  go_enter Tryz.func65, Tryz.ntmps65
  go_upto_region 2 with (go_at_call 87; refine (mul_zero' base (by omega) _).mono ?_; rintro e w' ⟨rfl, rfl⟩)
  go_upto_region 3 with (go_at_call 87; refine (mul_small x base (by omega) (by omega) (by omega) _).mono ?_; rintro e w' ⟨rfl, rfl⟩; rw [← HP.out])
  go_wp2_with (first | simp only [HZ.out] | simp only [HA.out])
  go_ret
  refine ⟨rfl, ?_, (grown_set _ ⟨b, 0, none⟩ _).trans (grown_set _ ⟨b, 1, none⟩ _)⟩
  exact HH.out.set (x * base + d) _ (by rw [← HP.out]; omega)

end Tk
end Go.Proofs.YtmphkifhnjfkmaaGreatDoor

namespace Go.Proofs.YtmphkifhnjfkmaaGreatDoor
open Go.ChangeShapes Go.WideShapes Go.ChangeAt Go.RowKit Go.WideMaps Go.Maps
namespace Tk

theorem digits_any (w : World) (c : Nat) (base : Int) :
    Calls Tryz.prog 75 #[.pointer (some ⟨c, 0, none⟩), .int .u64 base] w fun e w' =>
      e = .returned (.func (.func 95) #[] #[.pointer (some ⟨w.heap.size, 0, none⟩), .pointer (some ⟨w.heap.size + 1, 0, none⟩)]) ∧ Boxes w' w.heap.size (w.heap.size + 1) c base ∧ w'.heap.size = w.heap.size + 2 ∧ w.grownBy w' none := by
  have hmf : ∀ (fn : Fn) (first cap : Array Value) (w : World), (Instr.makeFunc fn first cap).run Tryz.prog w = .ok (.func fn first cap) w := fun _ _ _ _ => rfl
  go_enter Tryz.func75, Tryz.ntmps75
  go_wp2
  go_ret
  have h0 : Boxed ((w.alloc (.cells #[.pointer (some ⟨c, 0, none⟩)] 36)).alloc (.cells #[.int .u64 base] 72)) w.heap.size 36 (.pointer (some ⟨c, 0, none⟩)) := (Boxed.new w _ _).alloc _
  have h1 : Boxed ((w.alloc (.cells #[.pointer (some ⟨c, 0, none⟩)] 36)).alloc (.cells #[.int .u64 base] 72)) (w.heap.size + 1) 72 (.int .u64 base) := by
    have := Boxed.new (w.alloc (.cells #[.pointer (some ⟨c, 0, none⟩)] 36)) 72 (.int .u64 base)
    rwa [World.size_alloc] at this
  exact ⟨rfl, ⟨h0.cell, h1.cell⟩, by simp, (World.grownBy_alloc w _ none).trans (World.grownBy_alloc _ _ none)⟩

def numV (s : ByteArray) (a base : Nat) : Nat → Nat
  | 0 => 0
  | k + 1 => numV s a base k * base + (digitV (byteAt s (a + k)) base).toNat

theorem Wide.kept {w w' : World} {b x : Nat} {row : Option Nat} (h : Wide w b x) (hg : w.grownBy w' row) (hr : some b ≠ row) : Wide w' b x :=
  ⟨cell_grown h.hi hg hr, cell_grown h.lo hg hr, fun j => (World.frozen?_of_block (w := w) (hg.block b (lt_cell h.hi) hr)).trans (h.free j)⟩

theorem grown_step {w U V : World} {c r : Nat} (h : w.grownBy U (some c)) (hg : U.grownBy V (some r)) (hr : r = c ∨ w.heap.size ≤ r) : w.grownBy V (some c) :=
  ⟨hg.os.trans h.os, hg.tape.trans h.tape, hg.output.trans h.output, Nat.le_trans h.size hg.size, fun k hk hc => (hg.block k (Nat.lt_of_lt_of_le hk h.size) (by intro e; cases e; rcases hr with rfl | hr; exact hc rfl; omega)).trans (h.block k hk hc)⟩

/-- What a round of digits keeps: the base, the number, that it fits. -/
structure SomeI (w : World) (c : Nat) (base x : Nat) (W : World) : Prop where
  base : Boxed W w.heap.size 72 (.int .u64 base)
  num : Wide W (w.heap.size + 1) x
  fit : Boxed W (w.heap.size + 1 + 1) 4 (.bool true)
  grown : w.grownBy W (some c)

theorem SomeI.kept {w U V : World} {c base x r : Nat} (h : SomeI w c base x U) (hg : U.grownBy V (some r)) (h0 : r ≠ w.heap.size) (h1 : r ≠ w.heap.size + 1) (h2 : r ≠ w.heap.size + 1 + 1) (hr : r = c ∨ w.heap.size ≤ r) : SomeI w c base x V :=
  ⟨h.base.kept hg (by intro e; cases e; exact h0 rfl), h.num.kept hg (by intro e; cases e; exact h1 rfl), h.fit.kept hg (by intro e; cases e; exact h2 rfl), grown_step h.grown hg hr⟩

theorem digitV_pos (b base : Int) (_ : 0 ≤ b) : 0 ≤ digitV b base ∨ digitV b base = base := by
  unfold digitV
  by_cases hd : digB b = true
  · have hd2 : 48 ≤ b ∧ b ≤ 57 := by simpa [digB] using hd
    rw [if_pos hd]
    omega
  · rw [if_neg hd]
    split
    · omega
    · split <;> omega

attribute [local go_sem] Oper.semAt_some wide_fn wide_room round_room round_fn

set_option maxHeartbeats 2000000 in
theorem some_any (w : World) (s : ByteArray) (st a m c N base : Nat) (hs : s.size ≤ 20000) (hb : base < 100) (hR : Run s a N base) (hN : 1 ≤ N) (hv : ∀ k, k ≤ N → numV s a base k < 100000000000000) (hc : Cur w c s st a m) :
    Calls Tryz.prog 57 #[.pointer (some ⟨c, 0, none⟩), .int .u64 base] w fun e w' =>
      e = .returned (.tuple #[.agg #[.int .u64 0, .int .u64 (numV s a base N)], .bool true]) ∧ Cur w' c s st (a + N) m ∧ w.grownBy w' (some c) := by
  have hlt := hc.lt
  have HC := Lib.hid hc
  have c2 := hc.pos
  clear hc
  have c2a : ∀ o1 o2 o3, (((w.alloc o1).alloc o2).alloc o3).cell? ⟨c, 2, none⟩ = some (.int .i64 a) := fun o1 o2 o3 => cell_grown HC.out.pos (((World.grownBy_alloc w o1 none).trans (World.grownBy_alloc _ o2 none)).trans (World.grownBy_alloc _ o3 none)) (by simp)
  obtain ⟨wx, hwx⟩ : ∃ wx, wx = ((w.alloc (.cells #[.int .u64 base] 72)).alloc (.cells #[.int .u64 0, .int .u64 0] 74)).alloc (.cells #[.bool true] 4) := ⟨_, rfl⟩
  have hsx : wx.heap.size = w.heap.size + 1 + 1 + 1 := by rw [hwx]; simp
  have hIx : SomeI w c base 0 wx := by
    rw [hwx]
    have h1 := World.alloc_heap_new (w.alloc (.cells #[.int .u64 base] 72)) (.cells #[.int .u64 0, .int .u64 0] 74)
    rw [World.size_alloc] at h1
    have h2 : (((w.alloc (.cells #[.int .u64 base] 72)).alloc (.cells #[.int .u64 0, .int .u64 0] 74)).alloc (.cells #[.bool true] 4)).heap[w.heap.size + 1]? = some (.cells #[.int .u64 0, .int .u64 0] 74) := (Below.heap_alloc _ _ _ (by simp)).trans h1
    have h3 := Boxed.new ((w.alloc (.cells #[.int .u64 base] 72)).alloc (.cells #[.int .u64 0, .int .u64 0] 74)) 4 (.bool true)
    rw [World.size_alloc, World.size_alloc] at h3
    exact ⟨((Boxed.new w _ _).alloc _).alloc _, ⟨by rw [Lib.cell_of_heap h2]; rfl, by rw [Lib.cell_of_heap h2]; rfl, fun j => Lib.frozen_of_heap h2 j⟩, h3, ((World.grownBy_alloc w _ _).trans (World.grownBy_alloc _ _ _)).trans (World.grownBy_alloc _ _ _)⟩
  have hgx : w.grownBy wx none := by
    rw [hwx]
    exact ((World.grownBy_alloc w _ _).trans (World.grownBy_alloc _ _ _)).trans (World.grownBy_alloc _ _ _)
  have HCx : Hid (Cur wx c s st a m) := HC.out.kept hgx (by simp)
  have HIx := Lib.hid hIx
  have HWX := Lib.hid hwx
  clear hIx hwx hgx
  have x0 := HIx.out.base.cell
  refine callsIn_wide.1 (callsIn_of_wp_marks (n := 3) Tryz.func57 rfl trivial ?_ rfl)
  simp only [Tryz.ntmps57, List.size_toArray, List.length_cons, List.length_nil, Nat.reduceAdd, Nat.reduceSub, Array.replicate_succ, Array.replicate_zero, List.push_toArray, List.append_toArray, List.nil_append, List.cons_append]
  gi_wp2_with (gi_at_call 75; rw [← HWX.out]; refine (callsIn_wide.2 (digits_any wx c base)).mono ?_; rintro e w' ⟨rfl, hB, hsz, hg⟩)
  rw [hsx] at hB hsz
  have HCw : Hid (Cur w' c s st a m) := HCx.out.kept hg (by simp)
  have HIw : Hid (SomeI w c base 0 w') := HIx.out.kept (grown_row hg c) (by omega) (by omega) (by omega) (.inl rfl)
  have HB := Lib.hid hB
  have HR := Lib.hid hR
  have HV := Lib.hid hv
  clear hB hg hR hv x0 c2a c2
  refine wpIn_range_st (n0 := 3) (gf := 95) (lb := #[.pointer (some ⟨w.heap.size + 1 + 1 + 1, 0, none⟩), .pointer (some ⟨w.heap.size + 1 + 1 + 1 + 1, 0, none⟩)]) rfl (enters_of Tryz.func95 (by kernel_rfl) rfl) (c := c) (N := N) (by omega)
    (digits_iter w' s st a m c (w.heap.size + 1 + 1 + 1) (w.heap.size + 1 + 1 + 1 + 1) N base hs HR.out HCw.out HB.out (by omega) (by omega) 3) (fun _ => rfl) ?hC ?hD
    (fun k W => SomeI w c base (numV s a base k) W) ?hI HIw.out
    (fun k => { tmps := #[.pointer (some ⟨c, 0, none⟩), .int .u64 base, undef, .pointer (some ⟨w.heap.size, 0, none⟩), .pointer (some ⟨w.heap.size + 1, 0, none⟩), .pointer (some ⟨w.heap.size + 1 + 1, 0, none⟩), .int .i64 a, .int .u64 (digitV (byteAt s (a + k)) base), undef, .pointer (some ⟨c, 0, none⟩), .pointer (some ⟨c, 0, none⟩), .pointer (some ⟨c, 2, none⟩), .int .i64 a, .pointer (some ⟨c, 0, none⟩), .int .u64 base, .func (.func 95) #[] #[.pointer (some ⟨w.heap.size + 1 + 1 + 1, 0, none⟩), .pointer (some ⟨w.heap.size + 1 + 1 + 1 + 1, 0, none⟩)], .int .u64 (digitV (byteAt s (a + k)) base), undef, undef, undef, undef, undef, undef, undef, undef, undef, undef, undef, undef, undef, undef, undef, undef, undef], defers := [] }) ?assign ?body ?done
  case hC =>
    intro k U V r h hg hr
    exact ⟨h.1.kept hg (by intro e; cases e; omega), h.2.kept hg (by intro e; cases e; omega) (by intro e; cases e; omega)⟩
  case hD =>
    intro U V r h hg hr
    exact h.kept hg (by intro e; cases e; omega)
  case hI =>
    intro k U V r h hg hr
    exact h.kept hg (by omega) (by omega) (by omega) (by omega)
  case assign =>
    intro l k W K hK
    gi_wp2
    exact hK
  case body =>
    intro l k W hk hI hC
    have hd := HR.out.dig k hk
    have hd0 := digitV_pos (byteAt s (a + k)) base (byteAt_range s (a + k)).1
    obtain ⟨d, hdn⟩ : ∃ d : Nat, digitV (byteAt s (a + k)) base = d := ⟨(digitV (byteAt s (a + k)) base).toNat, by omega⟩
    have hx := HV.out k (by omega)
    have hn : numV s a base (k + 1) = numV s a base k * base + d := by
      show numV s a base k * base + (digitV (byteAt s (a + k)) base).toNat = _
      rw [hdn, Int.toNat_natCast]
    rw [hn, hdn]
    rw [hdn] at hd
    have hx2 := HV.out (k + 1) (by omega)
    rw [hn] at hx2
    clear hdn hn hd0
    generalize numV s a base k = x at *
    have HI := Lib.hid hI
    have HCd := Lib.hid hC
    clear hI hC
    have x0 := HI.out.base.cell
    gi_wp2_with (gi_at_call 65; refine (CallsIn.inRound l (callsIn_wide.2 (push_small (w.heap.size + 1) x base d _ HI.out.num (by omega) (by omega) (by omega) (by omega)))).mono ?_; rintro e w2 ⟨rfl, hw2, hg2⟩; have x2 := (HI.out.fit.kept hg2 (by simp)).cell; have x3 := (HI.out.fit.kept hg2 (by simp)).frozen)
    have h1 : SomeI w c base (x * base + d) w2 := ⟨HI.out.base.kept hg2 (by simp), hw2, HI.out.fit.kept hg2 (by simp), grown_step HI.out.grown hg2 (.inr (by omega))⟩
    have hg3 : w2.grownBy (w2.setCell ⟨w.heap.size + 1 + 1, 0, none⟩ (.bool true)) (some (w.heap.size + 1 + 1)) := grown_set w2 ⟨w.heap.size + 1 + 1, 0, none⟩ (.bool true)
    refine ⟨(KeepsOthers.of_grownBy hg2 ?_).trans (KeepsOthers.setCell _ _ _), ⟨h1.base.other (by omega) _, h1.num.kept hg3 (by simp), h1.fit.set _, grown_step h1.grown hg3 (.inr (by omega))⟩, ?_, ?_⟩
    · intro j o e ho
      cases e
      obtain ⟨o', ho', hc'⟩ := cells_of_cell HI.out.num.hi
      rw [ho] at ho'
      cases ho'
      exact hc'
    · exact (HCd.out.1.kept hg2 (by intro e; have := Option.some.inj e; omega)).kept hg3 (by intro e; have := Option.some.inj e; omega)
    · exact (HCd.out.2.kept hg2 (by intro e; have := Option.some.inj e; omega) (by intro e; have := Option.some.inj e; omega)).kept hg3 (by intro e; have := Option.some.inj e; omega) (by intro e; have := Option.some.inj e; omega)
  case done =>
    intro B W hB hI hC hK
    have HI := Lib.hid hI
    have HCd := Lib.hid hC
    have HK := Lib.hid hK
    clear hI hC hK
    have c2 := HCd.out.pos
    have x1 := HI.out.num.hi
    have x2 := HI.out.num.lo
    have x3 := HI.out.fit.cell
    have f0 := HI.out.num.free 0
    have f1 := HI.out.num.free 1
    have f2 := HI.out.fit.frozen
    have hne : (((a + N : Nat) : Int) == (a : Int)) = false := by simp; omega
    gi_wp2_with fail
    refine wpIn_wide.2 ?_
    go_region
    gi_wp2_with fail
    obtain ⟨wf, hwf⟩ : ∃ wf, wf = (((W.setCell ⟨w.heap.size + 1, 0, none⟩ (.int .u64 0)).setCell ⟨w.heap.size + 1, 1, none⟩ (.int .u64 (numV s a base N))).setCell ⟨w.heap.size + 1 + 1, 0, none⟩ (.bool true)).drew := ⟨_, rfl⟩
    rw [← hwf]
    have g1 : W.grownBy (W.setCell ⟨w.heap.size + 1, 0, none⟩ (.int .u64 0)) (some (w.heap.size + 1)) := grown_set W ⟨w.heap.size + 1, 0, none⟩ _
    have g2 : (W.setCell ⟨w.heap.size + 1, 0, none⟩ (.int .u64 0)).grownBy ((W.setCell ⟨w.heap.size + 1, 0, none⟩ (.int .u64 0)).setCell ⟨w.heap.size + 1, 1, none⟩ (.int .u64 (numV s a base N))) (some (w.heap.size + 1)) := grown_set _ ⟨w.heap.size + 1, 1, none⟩ _
    have g12 := g1.trans g2
    have g3 : ((W.setCell ⟨w.heap.size + 1, 0, none⟩ (.int .u64 0)).setCell ⟨w.heap.size + 1, 1, none⟩ (.int .u64 (numV s a base N))).grownBy (((W.setCell ⟨w.heap.size + 1, 0, none⟩ (.int .u64 0)).setCell ⟨w.heap.size + 1, 1, none⟩ (.int .u64 (numV s a base N))).setCell ⟨w.heap.size + 1 + 1, 0, none⟩ (.bool true)) (some (w.heap.size + 1 + 1)) := grown_set _ ⟨w.heap.size + 1 + 1, 0, none⟩ _
    have hW2 : Wide ((W.setCell ⟨w.heap.size + 1, 0, none⟩ (.int .u64 0)).setCell ⟨w.heap.size + 1, 1, none⟩ (.int .u64 (numV s a base N))) (w.heap.size + 1) (numV s a base N) := HI.out.num.set _ _ rfl
    have hIf : SomeI w c base (numV s a base N) wf := by
      rw [hwf]
      have q : SomeI w c base (numV s a base N) (((W.setCell ⟨w.heap.size + 1, 0, none⟩ (.int .u64 0)).setCell ⟨w.heap.size + 1, 1, none⟩ (.int .u64 (numV s a base N))).setCell ⟨w.heap.size + 1 + 1, 0, none⟩ (.bool true)) :=
        ⟨(HI.out.base.kept g12 (by simp)).other (by omega) _, hW2.kept g3 (by simp), (HI.out.fit.kept g12 (by simp)).set _, grown_step (grown_step HI.out.grown g12 (.inr (by omega))) g3 (.inr (by omega))⟩
      exact ⟨q.base, ⟨q.num.hi, q.num.lo, q.num.free⟩, q.fit, q.grown.trans (grown_drewN _ 1 _)⟩
    have hCf : Cur wf c s st (a + N) m := by
      rw [hwf]
      exact ((HCd.out.kept g12 (by intro e; have := Option.some.inj e; omega)).kept g3 (by intro e; have := Option.some.inj e; omega)).drew 1
    have hKf : wf.heap[B]? = some (.deferred (some [])) := by
      rw [hwf]
      exact (((KeepsOthers.setCell W ⟨w.heap.size + 1, 0, none⟩ (.int .u64 0)).trans (KeepsOthers.setCell _ ⟨w.heap.size + 1, 1, none⟩ (.int .u64 (numV s a base N)))).trans (KeepsOthers.setCell _ ⟨w.heap.size + 1 + 1, 0, none⟩ (.bool true))).same _ _ HK.out rfl
    have hIz : SomeI w c base (numV s a base N) (wf.putObj B (.deferred none)) := hIf.kept (grownBy_putObj' _ _ _) (by omega) (by omega) (by omega) (.inr (by omega))
    have hCz : Cur (wf.putObj B (.deferred none)) c s st (a + N) m := hCf.kept (grownBy_putObj' _ _ _) (by intro e; have := Option.some.inj e; omega)
    refine ⟨by simp, .inl ⟨_, _, rfl, run_takeDeferred hKf, ?_⟩⟩
    have z1 := hIz.num.hi
    have z2 := hIz.num.lo
    have z3 := hIz.fit.cell
    exact ⟨.tuple #[.agg #[.int .u64 0, .int .u64 (numV s a base N)], .bool true], by simp [results, Tryz.results57, go_sem, z1, z2, z3], rfl, hCz, hIz.grown⟩

end Tk
end Go.Proofs.YtmphkifhnjfkmaaGreatDoor

namespace Go.Proofs.YtmphkifhnjfkmaaGreatDoor
open Go.ChangeShapes Go.WideShapes Go.ChangeAt Go.RowKit Go.Sort Go.Lib
namespace Tk

theorem grown_grow (w : World) (k : Nat) (os : Array Obj) : w.grownBy (grow (w.drewN k) os) none :=
  ⟨rfl, rfl, rfl, by simp [grow], fun j hj _ => by show (w.heap ++ os)[j]? = _; rw [Array.getElem?_append_left hj]⟩

set_option maxHeartbeats 6400000 in
set_option maxRecDepth 100000 in
theorem formatUint_in (u : Nat) (h1 : 1 ≤ u) (hu64 : u < 18446744073709551616) (w : World) (htab : Lib.TabIs Tryz.prog w "internal/strconv.uint64pow10" .u64 Lib.pow10Tab) :
    Calls Tryz.prog 99 #[.int .u64 u, .int .i64 10] w fun e w' => e = .returned (.string ⟨(Lib.decDigits u).toArray⟩) ∧ w.grownBy w' none := by
  by_cases hs : u < 100
  · go_enter Tryz.func99, Tryz.ntmps99
    go_wp2_with (go_at_call 115; refine (Tryz.internal_strconv_small u hs _).mono ?_; rintro e w' ⟨rfl, rfl⟩)
    go_ret
    exact ⟨rfl, World.grownBy.refl _ _⟩
  · have hnd20 : Lib.nDigits u ≤ 20 := by have := Lib.numDigits_eq u h1 hu64; split at this <;> omega
    have hal : Tryz.prog.arrayLen 143 = 24 := by simp [Program.arrayLen, Tryz.underlying143]
    have hsl : ∀ W, (Instr.sliceAt 143 (.pointer (some ⟨w.heap.size, 0, none⟩)) none (some (.int .i64 (Lib.nDigits u : Int))) none).run Tryz.prog W = .ok (.slice (some ⟨w.heap.size, 0, none⟩) (Lib.nDigits u) 24) W := fun W => by
      rw [run_sliceAt_array_h W 143 ⟨w.heap.size, 0, none⟩ (by simp [Program.arrayLen, Program.elem, Tryz.underlying143]) .i64 (Lib.nDigits u : Int) (by omega) (by rw [hal]; omega)]
      go_simp
    have hH0 := Lib.holds_zero0 w 143 (Lib.nDigits u) (by omega)
    have hfmt := Tryz.internal_strconv_formatBase10 w.heap.size 0 24 u (Array.replicate (Lib.nDigits u) 0) (w.alloc (.cells Lib.zeros24 143)) hH0 (by rw [Array.size_replicate]; exact Lib.lt_pow_nDigits u) hu64 (by rw [Array.size_replicate]; omega)
    rw [Array.size_replicate] at hfmt
    have HH0 := Lib.hid hH0
    have HF := Lib.hid hfmt
    clear hH0 hal hfmt
    go_enter Tryz.func99, Tryz.ntmps99
    go_wp2_with (go_at_call 116; refine (Tryz.internal_strconv_numDigits u h1 hu64 _ (Lib.tabIs_alloc htab _)).mono ?_; rintro e w' ⟨rfl, rfl⟩)
    go_at_call 117
    refine HF.out.mono ?_
    rintro e w' ⟨rfl, k, v', dk, rfl, hF⟩
    have hcv : (convert 44 9 (.slice (some ⟨w.heap.size, 0, none⟩) (Lib.nDigits u) 24)).run Tryz.prog ((putRow (fun (b : UInt8) => Value.int .u8 (b.toNat : Int)) (w.alloc (.cells Lib.zeros24 143)) w.heap.size 0 dk).drewN k) = .ok (.string ⟨(Lib.decDigits u).toArray⟩) ((putRow (fun (b : UInt8) => Value.int .u8 (b.toNat : Int)) (w.alloc (.cells Lib.zeros24 143)) w.heap.size 0 dk).drewN k) := by
      have h := run_convert_bytes_back (P := Tryz.prog) ((putRow (fun (b : UInt8) => Value.int .u8 (b.toNat : Int)) (w.alloc (.cells Lib.zeros24 143)) w.heap.size 0 dk).drewN k) 44 9 5 ⟨w.heap.size, 0, none⟩ 24 (Lib.decDigits u) Tryz.underlying44 Tryz.underlying5 Tryz.underlying9 (fun j hj => by
        rw [Lib.row_is_numeral hF j hj, Lib.add_plain, World.cell?_drewN]
        exact cell?_putRow (fun (b : UInt8) => Value.int .u8 (b.toNat : Int)) _ w.heap.size 0 _ dk HH0.out (by rw [hF.size, Array.size_replicate]) j (by rw [hF.size]; rw [Lib.decDigits_length] at hj; exact hj))
      rw [Lib.decDigits_length] at h
      exact h
    go_wp2
    go_ret
    obtain ⟨os, eo⟩ := Lib.fin_at w (.cells Lib.zeros24 143) dk k 0
    refine ⟨rfl, ?_⟩
    rw [eo]
    exact grown_grow w k os

theorem formatUint_any (u : Nat) (h1 : 1 ≤ u) (hu64 : u < 18446744073709551616) (w : World) (htab : Lib.TabIs Tryz.prog w "internal/strconv.uint64pow10" .u64 Lib.pow10Tab) :
    Calls Tryz.prog 77 #[.int .u64 u, .int .i64 10] w fun e w' => e = .returned (.string ⟨(Lib.decDigits u).toArray⟩) ∧ w.grownBy w' none := by
  go_enter Tryz.func77, Tryz.ntmps77
  go_wp2_with (go_at_call 99; refine (formatUint_in u h1 hu64 _ htab).mono ?_; rintro e w' ⟨rfl, hg⟩)
  go_ret
  exact ⟨rfl, hg⟩

theorem wideText_any (u : Nat) (h1 : 1 ≤ u) (hu64 : u < 18446744073709551616) (w : World) (htab : Lib.TabIs Tryz.prog w "internal/strconv.uint64pow10" .u64 Lib.pow10Tab) :
    Calls Tryz.prog 60 #[.agg #[.int .u64 0, .int .u64 u]] w fun e w' => e = .returned (.string ⟨(Lib.decDigits u).toArray⟩) ∧ w.grownBy w' none := by
  have ht := Lib.tabIs_alloc htab (.cells #[.int .u64 0, .int .u64 u] 74)
  have HT := Lib.hid ht
  clear ht
  go_enter Tryz.func60, Tryz.ntmps60
  go_wp2_with (go_at_call 77; refine (formatUint_any u h1 hu64 _ HT.out).mono ?_; rintro e w' ⟨rfl, hg⟩)
  go_ret
  exact ⟨rfl, (World.grownBy_alloc w _ none).trans hg⟩

end Tk
end Go.Proofs.YtmphkifhnjfkmaaGreatDoor

namespace Go.Proofs.YtmphkifhnjfkmaaGreatDoor
open Go.ChangeShapes Go.WideShapes Go.ChangeAt Go.RowKit Go.WideMaps Go.Maps
namespace Tk

/-- peek, at a number of which is said only afterwards which it is. -/
theorem peek_z (s : ByteArray) (k n B : Nat) (z : Int) (w : World) (hs : s.size ≤ 20000) (hn : n ≤ 20) (hk : k ≤ 40000)
    (hc0 : w.cell? ⟨B, 0, none⟩ = some (.string s)) (hc2 : w.cell? ⟨B, 2, none⟩ = some (.int .i64 k)) (hz : z = n) :
    Calls Tryz.prog 55 #[.pointer (some ⟨B, 0, none⟩), .int .i64 z] w fun e w' => e = .returned (.int .u8 (byteAt s (k + n))) ∧ ∃ m, w' = w.drewN m := by
  subst hz
  exact peek_any s k n B w hs hn hk hc0 hc2

set_option maxHeartbeats 1000000 in
theorem fraction_none (w : World) (c : Nat) (s : ByteArray) (st a m : Nat) (hc : Cur w c s st a m) (hs : s.size ≤ 20000) (ha : a ≤ s.size) (h0 : byteAt s a = 46) (h1 : digB (byteAt s (a + 1)) = false) :
    Calls Tryz.prog 58 #[.pointer (some ⟨c, 0, none⟩)] w fun e w' => e = .returned (.bool false) ∧ ∃ n, w' = w.drewN n := by
  have HC := Lib.hid hc
  have H0 := Lib.hid h0
  have H1 := Lib.hid h1
  clear hc h0 h1
  go_enter Tryz.func58, Tryz.ntmps58
  go_wp2_with (first | (go_at_call 28; refine (isDigit_any _ _).mono ?_; rintro e w' ⟨he, rfl⟩; rw [H1.out] at he; subst he) | (go_at_call 55; refine (peek_z s a 0 c _ _ hs (by omega) (by omega) HC.out.text HC.out.pos (by decide)).mono ?_; rintro e w' ⟨he, n, rfl⟩; rw [Nat.add_zero, H0.out] at he; subst he) | (go_at_call 55; refine (peek_z s a 0 c _ _ hs (by omega) (by omega) (HC.out.drew _).text (HC.out.drew _).pos (by decide)).mono ?_; rintro e w' ⟨he, n, rfl⟩; rw [Nat.add_zero, H0.out] at he; subst he) | (go_at_call 55; refine (peek_z s a 1 c _ _ hs (by omega) (by omega) (HC.out.drew _).text (HC.out.drew _).pos (by decide)).mono ?_; rintro e w' ⟨he, n, rfl⟩; subst he))
  go_ret
  exact ⟨rfl, _, rfl⟩

end Tk
end Go.Proofs.YtmphkifhnjfkmaaGreatDoor

namespace Go.Proofs.YtmphkifhnjfkmaaGreatDoor
open Go.ChangeShapes Go.WideShapes Go.ChangeAt Go.RowKit Go.WideMaps Go.Maps
namespace Tk

theorem pow10_at : Tryz.prog.globalNamed "internal/strconv.uint64pow10" = some 8 := by kernel_rfl

theorem tabIs_grown {w w' : World} {name : String} {k : IntKind} {zs : List Int} {g : Nat} {row : Option Nat} (hn : Tryz.prog.globalNamed name = some g) (h : Lib.TabIs Tryz.prog w name k zs) (hg : w.grownBy w' row) (hr : some g ≠ row) : Lib.TabIs Tryz.prog w' name k zs := by
  unfold Lib.TabIs at h ⊢
  unfold World.var? at h ⊢
  rw [hn] at h ⊢
  simp only [Option.bind_some] at h ⊢
  have hlt : g < w.heap.size := by
    rcases Nat.lt_or_ge g w.heap.size with h1 | h1
    · exact h1
    · rw [Array.getElem?_eq_none h1] at h
      cases h
  rw [hg.block g hlt hr]
  exact h

abbrev Pow10 (w : World) : Prop := Lib.TabIs Tryz.prog w "internal/strconv.uint64pow10" .u64 Lib.pow10Tab

def zx : ByteArray := ⟨#[48, 120]⟩
def zb : ByteArray := ⟨#[48, 98]⟩

/-- What is left of a block of a result when its cells are stored. -/
theorem grown_res {w w1 : World} {c : Nat} (hg : w.grownBy w1 (some c)) (v0 v1 v2 v3 : Value) :
    w.grownBy ((((w1.setCell ⟨w.heap.size, 0, none⟩ v0).setCell ⟨w.heap.size, 1, none⟩ v1).setCell ⟨w.heap.size, 2, none⟩ v2).setCell ⟨w.heap.size, 3, none⟩ v3) (some c) :=
  grown_new (grown_new (grown_new (grown_new hg (Nat.le_refl _) _) (Nat.le_refl _) _) (Nat.le_refl _) _) (Nat.le_refl _) _

theorem cur_res {w1 : World} {c B : Nat} {s : ByteArray} {st a m : Nat} (h : Cur w1 c s st a m) (hB : B ≠ c) (v0 v1 v2 v3 : Value) :
    Cur ((((w1.setCell ⟨B, 0, none⟩ v0).setCell ⟨B, 1, none⟩ v1).setCell ⟨B, 2, none⟩ v2).setCell ⟨B, 3, none⟩ v3) c s st a m :=
  (((h.other hB _).other hB _).other hB _).other hB _

set_option maxHeartbeats 2000000 in
theorem number_hex (w : World) (c : Nat) (s : ByteArray) (st a m N : Nat) (hc : Cur w c s st a m) (hs : s.size ≤ 20000) (h0 : Lib.hasPrefix (s.extract a s.size).data.toList zx.data.toList = true) (hR : Run s (a + 2) N 16) (hN : 1 ≤ N) (hv : ∀ k, k ≤ N → numV s (a + 2) 16 k < 100000000000000) (h1 : 1 ≤ numV s (a + 2) 16 N) (ht : Pow10 w) (hcg : c ≠ 8) :
    Calls Tryz.prog 31 #[.pointer (some ⟨c, 0, none⟩)] w fun e w' => e = .returned (.agg #[.int .i64 3, .string ⟨(Lib.decDigits (numV s (a + 2) 16 N)).toArray⟩, .int .i64 0, .bool false]) ∧ Cur w' c s st (a + 2 + N) m ∧ w.grownBy w' (some c) := by
  have hlt := hc.lt
  have hsz := hR.size
  obtain ⟨wx, hwx⟩ : ∃ wx, wx = w.alloc (.cells #[.int .i64 0, .string ⟨#[]⟩, .int .i64 0, .bool false] 31) := ⟨_, rfl⟩
  have HGx : Hid (w.grownBy wx (some c)) := by rw [hwx]; exact World.grownBy_alloc w _ _
  have HCx : Hid (Cur wx c s st a m) := by rw [hwx]; exact hc.kept (World.grownBy_alloc w _ none) (by simp)
  have HRx : Hid (Res wx w.heap.size) := by rw [hwx]; exact Res.new w
  have HTx : Hid (Pow10 wx) := by rw [hwx]; exact tabIs_grown pow10_at ht (World.grownBy_alloc w _ none) (by simp)
  have HWx := Lib.hid hwx
  have HR := Lib.hid hR
  have HV := Lib.hid hv
  have H0 := Lib.hid h0
  have hu64 : numV s (a + 2) 16 N < 18446744073709551616 := by have := hv N (Nat.le_refl _); omega
  obtain ⟨u, hu⟩ : ∃ u, u = numV s (a + 2) 16 N := ⟨_, rfl⟩
  rw [← hu] at h1 hu64
  have HU := Lib.hid hu
  clear hc hwx hR hv h0 ht hu
  have c2 := HCx.out.pos
  have f2 := HCx.out.free 2
  have e1 : IntKind.i64.wrap ((a : Int) + 2) = (a : Int) + 2 := IntWalk.i64_in _ (by omega)
  go_enter Tryz.func31, Tryz.ntmps31
  go_upto_region 2 with (fail)
  rw [← HWx.out]
  go_wp2_with (first | (go_at_call 20; refine (has_any s zx c a _ (by omega) HCx.out.text HCx.out.pos).mono ?_; rintro e w' ⟨he, n, rfl⟩; rw [H0.out] at he; subst he) | (go_at_call 57; refine (some_any _ s st (a + 2) m c N 16 hs (by omega) HR.out hN HV.out ((HCx.out.drew n).move (a + 2) _ (by omega))).mono ?_; rintro e w1 ⟨rfl, hC1, hg1⟩; rw [← HU.out]))
  have HG2 : Hid (wx.grownBy (w1.alloc (.cells #[.int .u64 0, .int .u64 u] 74)) (some c)) := (((grown_drewN wx n _).trans (grown_set _ ⟨c, 2, none⟩ _)).trans hg1).trans (World.grownBy_alloc _ _ _)
  refine (wideText_any u h1 hu64 _ (tabIs_grown pow10_at HTx.out HG2.out (by intro e; exact hcg (Option.some.inj e).symm))).mono ?_
  rintro e w2 ⟨rfl, hg2⟩
  have HG3 : Hid (wx.grownBy w2 (some c)) := HG2.out.trans (grown_row hg2 c)
  have HR2 : Hid (Res w2 w.heap.size) := HRx.out.kept HG3.out (by intro e; have := Option.some.inj e; omega)
  have HC2 : Hid (Cur w2 c s st (a + 2 + N) m) := (hC1.kept (World.grownBy_alloc w1 _ none) (by simp)).kept hg2 (by simp)
  clear hg2 hg1 hC1 c2 f2
  have r0 := HR2.out.c0
  have r1 := HR2.out.c1
  have r2 := HR2.out.c2
  have r3 := HR2.out.c3
  have g0 := HR2.out.free 0
  have g1 := HR2.out.free 1
  have g2 := HR2.out.free 2
  have g3 := HR2.out.free 3
  go_wp2_with fail
  refine bodyPost_ret (v := .agg #[.int .i64 3, .string ⟨(Lib.decDigits u).toArray⟩, .int .i64 0, .bool false]) (by simp [results, Tryz.results31, go_sem, r0, r1, r2, r3]) rfl ⟨?_, ?_, ?_⟩
  · rw [← HU.out]
  · exact cur_res HC2.out (by omega) _ _ _ _
  · exact grown_res (HGx.out.trans HG3.out) _ _ _ _

set_option maxHeartbeats 2000000 in
theorem number_dec (w : World) (c : Nat) (s : ByteArray) (st a m N : Nat) (hc : Cur w c s st a m) (hs : s.size ≤ 20000) (h0 : Lib.hasPrefix (s.extract a s.size).data.toList zx.data.toList = false) (hb : Lib.hasPrefix (s.extract a s.size).data.toList zb.data.toList = false) (hR : Run s a N 10) (hN : 1 ≤ N) (hv : ∀ k, k ≤ N → numV s a 10 k < 100000000000000) (h1 : 1 ≤ numV s a 10 N) (hp : byteAt s (a + N) = 46) (hp1 : digB (byteAt s (a + N + 1)) = false) (ht : Pow10 w) (hcg : c ≠ 8) :
    Calls Tryz.prog 31 #[.pointer (some ⟨c, 0, none⟩)] w fun e w' => e = .returned (.agg #[.int .i64 3, .string ⟨(Lib.decDigits (numV s a 10 N)).toArray⟩, .int .i64 0, .bool false]) ∧ Cur w' c s st (a + N) m ∧ w.grownBy w' (some c) := by
  have hlt := hc.lt
  have hsz := hR.size
  obtain ⟨wx, hwx⟩ : ∃ wx, wx = w.alloc (.cells #[.int .i64 0, .string ⟨#[]⟩, .int .i64 0, .bool false] 31) := ⟨_, rfl⟩
  have HGx : Hid (w.grownBy wx (some c)) := by rw [hwx]; exact World.grownBy_alloc w _ _
  have HCx : Hid (Cur wx c s st a m) := by rw [hwx]; exact hc.kept (World.grownBy_alloc w _ none) (by simp)
  have HRx : Hid (Res wx w.heap.size) := by rw [hwx]; exact Res.new w
  have HTx : Hid (Pow10 wx) := by rw [hwx]; exact tabIs_grown pow10_at ht (World.grownBy_alloc w _ none) (by simp)
  have HWx := Lib.hid hwx
  have HR := Lib.hid hR
  have HV := Lib.hid hv
  have H0 := Lib.hid h0
  have HBn := Lib.hid hb
  have HP := Lib.hid hp
  have HP1 := Lib.hid hp1
  have hu64 : numV s a 10 N < 18446744073709551616 := by have := hv N (Nat.le_refl _); omega
  obtain ⟨u, hu⟩ : ∃ u, u = numV s a 10 N := ⟨_, rfl⟩
  rw [← hu] at h1 hu64
  have HU := Lib.hid hu
  clear hc hwx hR hv h0 ht hu hb hp hp1
  go_enter Tryz.func31, Tryz.ntmps31
  go_upto_region 2 with (fail)
  rw [← HWx.out]
  go_upto_region 4 with (go_at_call 20; refine (has_any s zx c a _ (by omega) HCx.out.text HCx.out.pos).mono ?_; rintro e w' ⟨he, n, rfl⟩; rw [H0.out] at he; subst he)
  go_upto_region 6 with (go_at_call 20; refine (has_any s zb c a _ (by omega) (HCx.out.drew n).text (HCx.out.drew n).pos).mono ?_; rintro e w' ⟨he, n', rfl⟩; rw [HBn.out] at he; subst he)
  go_wp2_with (go_at_call 57; refine (some_any _ s st a m c N 10 hs (by omega) HR.out hN HV.out (HCx.out.drew _)).mono ?_; rintro e w1 ⟨rfl, hC1, hg1⟩; rw [← HU.out])
  refine (fraction_none _ c s st (a + N) m (hC1.kept (World.grownBy_alloc w1 _ none) (by simp)) hs (by omega) HP.out HP1.out).mono ?_
  rintro e w' ⟨rfl, n4, rfl⟩
  have HG2 : Hid (wx.grownBy ((w1.alloc (.cells #[.int .u64 0, .int .u64 u] 74)).drewN n4) (some c)) := (((grown_drewN wx _ _).trans hg1).trans (World.grownBy_alloc _ _ _)).trans (grown_drewN _ _ _)
  go_wp2_with fail
  refine (wideText_any u h1 hu64 _ (tabIs_grown pow10_at HTx.out HG2.out (by intro e; exact hcg (Option.some.inj e).symm))).mono ?_
  rintro e w2 ⟨rfl, hg2⟩
  have HG3 : Hid (wx.grownBy w2 (some c)) := HG2.out.trans (grown_row hg2 c)
  have HR2 : Hid (Res w2 w.heap.size) := HRx.out.kept HG3.out (by intro e; have := Option.some.inj e; omega)
  have HC2 : Hid (Cur w2 c s st (a + N) m) := ((hC1.kept (World.grownBy_alloc w1 _ none) (by simp)).drew n4).kept hg2 (by simp)
  clear hg2 hg1 hC1
  have r0 := HR2.out.c0
  have r1 := HR2.out.c1
  have r2 := HR2.out.c2
  have r3 := HR2.out.c3
  have g0 := HR2.out.free 0
  have g1 := HR2.out.free 1
  have g2 := HR2.out.free 2
  have g3 := HR2.out.free 3
  go_wp2_with fail
  refine bodyPost_ret (v := .agg #[.int .i64 3, .string ⟨(Lib.decDigits u).toArray⟩, .int .i64 0, .bool false]) (by simp [results, Tryz.results31, go_sem, r0, r1, r2, r3]) rfl ⟨?_, ?_, ?_⟩
  · rw [← HU.out]
  · exact cur_res HC2.out (by omega) _ _ _ _
  · exact grown_res (HGx.out.trans HG3.out) _ _ _ _

end Tk
end Go.Proofs.YtmphkifhnjfkmaaGreatDoor

namespace Go.Proofs.YtmphkifhnjfkmaaGreatDoor
open Go.ChangeShapes Go.WideShapes Go.ChangeAt Go.RowKit Go.Shelf
namespace Tk

theorem infoByte : (Tryz.prog.info? 5).map (fun i => (i.zero, i.size, i.bytes)) = some (some (.int .u8 0), 1, 1) := by kernel_rfl
theorem neByte : (46 : TypeId) ≠ 5 := by decide
theorem infoBuilder : (Tryz.prog.info? 46).map (·.size) = some 2 := by kernel_rfl
theorem liesBuilder : liesAt Tryz.prog Tryz.prog.depth 46 (2 / Tryz.prog.cellsOf 46) 0 46 1 = true := by kernel_rfl

set_option maxRecDepth 100000 in
theorem check_used (b : Nat) (w : World) (h0 : w.cell? ⟨b, 0, none⟩ = some (.pointer (some ⟨b, 0, none⟩))) :
    Calls Tryz.prog 46 #[.pointer (some ⟨b, 0, none⟩)] w fun e w' => e = .returned (.tuple #[]) ∧ w' = w := by
  obtain ⟨j, hj, _⟩ := Option.map_eq_some_iff.1 infoBuilder
  go_enter Tryz.func46, Tryz.ntmps46
  go_wp2
  rw [Lib.run_neq_ptr_same w _ Tryz.underlying43 hj]
  go_wp2
  go_end0
  exact ⟨rfl, rfl⟩

set_option maxHeartbeats 1000000 in
set_option maxRecDepth 100000 in
theorem check_fresh (b : Nat) (w : World) (h0 : w.cell? ⟨b, 0, none⟩ = some (.pointer none)) (hsh : w.shape? b = some (46, 2)) (hfz : w.frozen? ⟨b, 0, none⟩ = false) :
    Calls Tryz.prog 46 #[.pointer (some ⟨b, 0, none⟩)] w fun e w' => e = .returned (.tuple #[]) ∧ w' = w.setCell ⟨b, 0, none⟩ (.pointer (some ⟨b, 0, none⟩)) := by
  obtain ⟨j, hj, hjs⟩ := Option.map_eq_some_iff.1 infoBuilder
  go_enter Tryz.func46, Tryz.ntmps46
  go_wp2
  rw [Lib.run_to_unsafe w ⟨b, 0, none⟩ Tryz.underlying43 Tryz.underlying87 hj (by rw [hjs]; decide) hsh (Nat.zero_lt_succ 1)]
  simp only [Result.andThen]
  rw [Oper.upon_value]
  go_wp2
  rw [run_callFunc_extern Tryz.func69 (by kernel_rfl) (by kernel_rfl) (by kernel_rfl) (e := Extern.AbiNoEscape.same) (by kernel_rfl)]
  rw [Lib.run_noEscape]
  simp only [Result.andThen]
  rw [Oper.upon_value]
  go_wp2
  rw [Lib.run_from_unsafe w ⟨b, 0, none⟩ Tryz.underlying87 Tryz.underlying43 hj hsh liesBuilder]
  simp only [Result.andThen]
  rw [Oper.upon_value]
  go_wp2
  go_end0
  exact ⟨rfl, rfl⟩

theorem check_any (B b : Nat) (bs : List Value) (w : World) (h : Lib.IsBuilderF 46 5 B b bs w) :
    Calls Tryz.prog 46 #[.pointer (some ⟨b, 0, none⟩)] w fun e w' => e = .returned (.tuple #[]) ∧ (Lib.BuilderAtF 46 5 B b (.pointer (some ⟨b, 0, none⟩)) bs w' ∧ Below B w w' ∧ Lib.OthersKept 5 (some b) w w') := by
  rcases h with h | h
  · refine (check_fresh b w h.cell0 h.shape h.frozen0).mono ?_
    rintro e w' ⟨rfl, rfl⟩
    exact ⟨rfl, h.used _, (Below.refl B w).setCell (p := ⟨b, 0, none⟩) h.1 _, (Lib.OthersKept.refl _ _ w).setCell ⟨b, 0, none⟩ rfl _⟩
  · refine (check_used b w h.cell0).mono ?_
    rintro e w' ⟨rfl, rfl⟩
    exact ⟨rfl, h, Below.refl B _, Lib.OthersKept.refl _ _ _⟩

set_option maxHeartbeats 2000000 in
set_option maxRecDepth 100000 in
theorem writeByte_any (B b : Nat) (bs : List Value) (c : Int) (w : World) (h : Lib.IsBuilderF 46 5 B b bs w) (hlen : bs.length + 1 ≤ 140737488355328) (hBw : B ≤ w.heap.size) :
    Calls Tryz.prog 67 #[.pointer (some ⟨b, 0, none⟩), .int .u8 c] w fun e w' => e = .returned .nilIface ∧ (Lib.BuilderAtF 46 5 B b (.pointer (some ⟨b, 0, none⟩)) (bs ++ [.int .u8 c]) w' ∧ Below B w w' ∧ Lib.OthersKept 5 (some b) w w') := by
  obtain ⟨i0, hi, hz0, hz1, hz2⟩ := info_parts infoByte
  go_enter Tryz.func67, Tryz.ntmps67
  go_wp2_with (go_at_call 46; refine (check_any B b bs _ h).mono ?_)
  rintro e w1 ⟨rfl, h1, hb1, hk1⟩
  obtain ⟨hB, v, hbk, hown, hne⟩ := h1
  have c0 : w1.cell? ⟨b, 0, none⟩ = some (.pointer (some ⟨b, 0, none⟩)) := by rw [Lib.cell_of_heap hbk]; rfl
  have c1 : w1.cell? ⟨b, 1, none⟩ = some v := by rw [Lib.cell_of_heap hbk]; rfl
  go_wp2_with (at_builtin; refine wpList_append_ownF _ rfl _ _ 44 rfl B 5 i0 (.int .u8 0) 1 1 Tryz.underlying44 hi hz0 hz1 hz2 rfl (by decide) _ _ _ rfl (hown.alloc _) ⟨w1.heap.size, 0, none⟩ 1 1 [.int .u8 c] rfl rfl ?c1 ?c2 ?c3 ?c4 ?c5 ?_)
  case c1 =>
    intro j u hj
    match j, hj with
    | 0, hj => simp at hj; subst hj; simp [Addr.add]
  case c2 => intro u hu; simp at hu; subst hu; rfl
  case c3 => unfold maxLen; omega
  case c4 => omega
  case c5 => have := hb1.size; simp; omega
  intro v' w2 hown' hgrow _
  have hlt : b < w1.heap.size := by
    rcases Nat.lt_or_ge b w1.heap.size with h' | h'
    · exact h'
    · simp [Array.getElem?_eq_none h'] at hbk
  have hb2 : w2.heap[b]? = some (.cells #[.pointer (some ⟨b, 0, none⟩), v] 46 (0, 0)) := by
    rw [hgrow.block b (by simp; omega) (fun e => hne e.symm), Lib.alloc_old w1 _ b hlt]
    exact hbk
  have d0 : w2.cell? ⟨b, 0, none⟩ = some (.pointer (some ⟨b, 0, none⟩)) := by rw [Lib.cell_of_heap hb2]; rfl
  have d1 : w2.cell? ⟨b, 1, none⟩ = some v := by rw [Lib.cell_of_heap hb2]; rfl
  have f1 : w2.frozen? ⟨b, 1, none⟩ = false := Lib.frozen_of_heap hb2 1
  obtain ⟨g, cap, rfl⟩ : ∃ g cap, v' = .slice (some ⟨g, 0, none⟩) (bs.length + 1) cap := by
    rcases hown'.2 with ⟨_, h0⟩ | ⟨g, cap, cur, fz, hv, _⟩
    · omega
    · exact ⟨g, cap, hv⟩
  go_wp2
  go_ret
  refine ⟨rfl, ?_, ?_, ((hk1.alloc _).grown hgrow (Lib.ownsRowF_kind (hown.alloc _))).setCell ⟨b, 1, none⟩ rfl _⟩
  · exact Lib.BuilderAtF.put (T := 46) (e := 5) hB hb2 (bs' := bs ++ [.int .u8 c]) (by simpa using hown') neByte
  · exact ((hb1.alloc (by have := hb1.size; omega) _).grown hgrow (by have := hb1.size; simp; omega) (fun k hk => (hown.lt k hk).1)).setCell (p := ⟨b, 1, none⟩) hB _

set_option maxHeartbeats 2000000 in
set_option maxRecDepth 100000 in
theorem writeString_any (B b : Nat) (bs : List Value) (s : ByteArray) (w : World) (h : Lib.IsBuilderF 46 5 B b bs w) (hlen : bs.length + s.size ≤ 140737488355328) (hBw : B ≤ w.heap.size) :
    Calls Tryz.prog 13 #[.pointer (some ⟨b, 0, none⟩), .string s] w fun e w' => e = .returned (.tuple #[.int .i64 s.size, .nilIface]) ∧ (Lib.BuilderAtF 46 5 B b (.pointer (some ⟨b, 0, none⟩)) (bs ++ Lib.strCells s) w' ∧ Below B w w' ∧ Lib.OthersKept 5 (some b) w w') := by
  obtain ⟨i0, hi, hz0, hz1, hz2⟩ := info_parts infoByte
  go_enter Tryz.func13, Tryz.ntmps13
  go_wp2_with (go_at_call 46; refine (check_any B b bs _ h).mono ?_)
  rintro e w1 ⟨rfl, h1, hb1, hk1⟩
  obtain ⟨hB, v, hbk, hown, hne⟩ := h1
  have c0 : w1.cell? ⟨b, 0, none⟩ = some (.pointer (some ⟨b, 0, none⟩)) := by rw [Lib.cell_of_heap hbk]; rfl
  have c1 : w1.cell? ⟨b, 1, none⟩ = some v := by rw [Lib.cell_of_heap hbk]; rfl
  go_wp2_with (at_builtin; refine Lib.wpList_append_own_stringF _ rfl _ _ 44 9 rfl B 5 i0 Tryz.underlying44 Tryz.underlying9 hi hz0 hz1 hz2 _ _ _ rfl hown s rfl ?c3 ?c4 ?c5 ?_)
  case c3 => unfold maxLen; omega
  case c4 => omega
  case c5 => have := hb1.size; omega
  intro v' w2 hown' hgrow _
  have hlt : b < w1.heap.size := by
    rcases Nat.lt_or_ge b w1.heap.size with h' | h'
    · exact h'
    · simp [Array.getElem?_eq_none h'] at hbk
  have hb2 : w2.heap[b]? = some (.cells #[.pointer (some ⟨b, 0, none⟩), v] 46 (0, 0)) := by
    rw [hgrow.block b hlt (fun e => hne e.symm)]
    exact hbk
  have d0 : w2.cell? ⟨b, 0, none⟩ = some (.pointer (some ⟨b, 0, none⟩)) := by rw [Lib.cell_of_heap hb2]; rfl
  have d1 : w2.cell? ⟨b, 1, none⟩ = some v := by rw [Lib.cell_of_heap hb2]; rfl
  have f1 : w2.frozen? ⟨b, 1, none⟩ = false := Lib.frozen_of_heap hb2 1
  obtain ⟨ao, n', cap, rfl⟩ : ∃ ao n' cap, v' = .slice ao n' cap := by
    rcases hown'.2 with ⟨hv, _⟩ | ⟨g, cap, cur, fz, hv, _⟩
    · exact ⟨_, _, _, hv⟩
    · exact ⟨_, _, _, hv⟩
  go_wp2
  go_ret2
  refine ⟨rfl, ?_, ?_, (hk1.grown hgrow (Lib.ownsRowF_kind hown)).setCell ⟨b, 1, none⟩ rfl _⟩
  · exact Lib.BuilderAtF.put (T := 46) (e := 5) hB hb2 (bs' := bs ++ Lib.strCells s) (by simpa [Lib.strCells_length] using hown') neByte
  · exact (hb1.grown hgrow (by have := hb1.size; omega) (fun k hk => (hown.lt k hk).1)).setCell (p := ⟨b, 1, none⟩) hB _

set_option maxHeartbeats 4000000 in
set_option maxRecDepth 100000 in
theorem writeRune_any (B b : Nat) (bs : List Value) (r : Int) (hr0 : -2147483648 ≤ r) (hr1 : r ≤ 2147483647) (w : World) (h : Lib.IsBuilderF 46 5 B b bs w) (hlen : bs.length + 4 ≤ 140737488355328) (hBw : B ≤ w.heap.size) :
    Calls Tryz.prog 63 #[.pointer (some ⟨b, 0, none⟩), .int .i32 r] w fun e w' => e = .returned (.tuple #[.int .i64 (Lib.runeCells r).length, .nilIface]) ∧ (Lib.BuilderAtF 46 5 B b (.pointer (some ⟨b, 0, none⟩)) (bs ++ Lib.runeCells r) w' ∧ Below B w w' ∧ Lib.OthersKept 5 (some b) w w') := by
  have hk4 := Lib.runeCells_le r
  go_enter Tryz.func63, Tryz.ntmps63
  go_wp2_with (go_at_call 46; refine (check_any B b bs _ h).mono ?_)
  rintro e w1 ⟨rfl, h1, hb1, hk1⟩
  obtain ⟨hB, v, hbk, hown, hne⟩ := h1
  obtain ⟨ao, cap, rfl⟩ : ∃ ao cap, v = .slice ao bs.length cap := by
    rcases hown.2 with ⟨hv, h0⟩ | ⟨g, cap, cur, fz, hv, _⟩
    · exact ⟨none, 0, by rw [hv, h0]⟩
    · exact ⟨_, _, hv⟩
  have c0 : w1.cell? ⟨b, 0, none⟩ = some (.pointer (some ⟨b, 0, none⟩)) := by rw [Lib.cell_of_heap hbk]; rfl
  have c1 : w1.cell? ⟨b, 1, none⟩ = some (.slice ao bs.length cap) := by rw [Lib.cell_of_heap hbk]; rfl
  go_wp2_with (go_at_call 82; refine (Tryz.utf8_AppendRune_row B _ bs.length bs r hr0 hr1 _ hown hlen (by have := hb1.size; omega)).mono ?_)
  rintro e w2 ⟨v', rfl, hown', o, hgrow⟩
  have hlt : b < w1.heap.size := by
    rcases Nat.lt_or_ge b w1.heap.size with h' | h'
    · exact h'
    · simp [Array.getElem?_eq_none h'] at hbk
  have hb2 : w2.heap[b]? = some (.cells #[.pointer (some ⟨b, 0, none⟩), .slice ao bs.length cap] 46 (0, 0)) := by
    rw [hgrow.block b (by simp; omega) (fun e => hne e.symm), Lib.alloc_old w1 _ b hlt]
    exact hbk
  have d0 : w2.cell? ⟨b, 0, none⟩ = some (.pointer (some ⟨b, 0, none⟩)) := by rw [Lib.cell_of_heap hb2]; rfl
  have d1 : w2.cell? ⟨b, 1, none⟩ = some (.slice ao bs.length cap) := by rw [Lib.cell_of_heap hb2]; rfl
  have f1 : w2.frozen? ⟨b, 1, none⟩ = false := Lib.frozen_of_heap hb2 1
  obtain ⟨g, cap', rfl⟩ : ∃ g cap', v' = .slice (some ⟨g, 0, none⟩) (bs.length + (Lib.runeCells r).length) cap' := by
    rcases hown'.2 with ⟨_, h0⟩ | ⟨g, cap', cur, fz, hv, _⟩
    · omega
    · exact ⟨g, cap', hv⟩
  go_wp2
  go_ret2
  refine ⟨?_, ?_, ?_, ((hk1.alloc _).grown hgrow (Lib.ownsRowF_kind (hown.alloc _))).setCell ⟨b, 1, none⟩ rfl _⟩
  · have e : ((bs.length : Int) + ((Lib.runeCells r).length : Int) - (bs.length : Int)) = ((Lib.runeCells r).length : Int) := by omega
    simp [e]
  · exact Lib.BuilderAtF.put (T := 46) (e := 5) hB hb2 (bs' := bs ++ Lib.runeCells r) (by simpa using hown') neByte
  · exact ((hb1.alloc (by have := hb1.size; omega) _).grown hgrow (by have := hb1.size; simp; omega) (fun k hk => (hown.lt k hk).1)).setCell (p := ⟨b, 1, none⟩) hB _

/-- A builder stands what is done to another block. -/
theorem builder_kept {T e : TypeId} {B b : Nat} {bs : List Value} {w w' : World} {c : Nat} (h : Lib.IsBuilderF T e B b bs w) (hg : w.grownBy w' (some c)) (hc : c < B) : Lib.IsBuilderF T e B b bs w' := by
  have one : ∀ p, Lib.BuilderAtF T e B b p bs w → Lib.BuilderAtF T e B b p bs w' := by
    rintro p ⟨hB, v, hb, hown, hne⟩
    have hlt : b < w.heap.size := (Array.getElem?_eq_some_iff.1 hb).1
    refine ⟨hB, v, (hg.block b hlt (by intro e; have := Option.some.inj e; omega)).trans hb, hown.kept hg ?_, hne⟩
    cases ho : v.ownBlock with
    | none => exact .inl rfl
    | some k =>
      right
      have := (hown.lt k ho).1
      intro e
      have := Option.some.inj e
      omega
  exact h.elim (fun x => .inl (one _ x)) (fun x => .inr (one _ x))

end Tk
end Go.Proofs.YtmphkifhnjfkmaaGreatDoor

namespace Go.Proofs.YtmphkifhnjfkmaaGreatDoor
open Go.ChangeShapes Go.WideShapes Go.ChangeAt Go.RowKit Go.WideMaps Go.Maps
namespace Tk

set_option maxHeartbeats 1000000 in
theorem escape_x (w : World) (c : Nat) (s : ByteArray) (st a m : Nat) (hc : Cur w c s st a m) (hs : s.size ≤ 20000) (hx : byteAt s (a + 1) = 120) (h0 : digitV (byteAt s (a + 2)) 16 < 8) (h1 : digitV (byteAt s (a + 2 + 1)) 16 < 16) (hz : a + 4 ≤ s.size) :
    Calls Tryz.prog 79 #[.pointer (some ⟨c, 0, none⟩)] w fun e w' => e = .returned (.int .i32 (hexV s (a + 2) 2)) ∧ Cur w' c s st (a + 4) m ∧ w.grownBy w' (some c) := by
  have HC := Lib.hid hc
  have HX := Lib.hid hx
  clear hc hx
  go_enter Tryz.func79, Tryz.ntmps79
  go_upto_region 2 with (go_at_call 55; refine (peek_any s a 1 c _ hs (by omega) (by omega) HC.out.text HC.out.pos).mono ?_; rintro e w' ⟨he, n, rfl⟩; rw [HX.out] at he; subst he)
  obtain ⟨wo, hwo⟩ : ∃ wo, wo = w.drewN n := ⟨_, rfl⟩
  have HCo : Hid (Cur wo c s st a m) := by rw [hwo]; exact HC.out.drew n
  have HGo : Hid (w.grownBy wo (some c)) := by rw [hwo]; exact grown_drewN _ _ _
  rw [← hwo]
  clear hwo
  have c2 := HCo.out.pos
  have f2 := HCo.out.free 2
  have e1 : IntKind.i64.wrap ((a : Int) + 2) = (a : Int) + 2 := IntWalk.i64_in _ (by omega)
  have hC1 : Hid (Cur (wo.setCell ⟨c, 2, none⟩ (.int .i64 ((a : Int) + 2))) c s st (a + 2) m) := HCo.out.move (a + 2) _ (by omega)
  go_wp2_with (go_at_call 101; refine (hex_two _ c s st (a + 2) m hC1.out hs h0 h1 (by omega)).mono ?_; rintro e w' ⟨rfl, hcw, hgw⟩)
  go_ret
  exact ⟨rfl, hcw, (HGo.out.trans (grown_set _ ⟨c, 2, none⟩ _)).trans hgw⟩

end Tk
end Go.Proofs.YtmphkifhnjfkmaaGreatDoor

namespace Go.Proofs.YtmphkifhnjfkmaaGreatDoor
open Go.ChangeShapes Go.WideShapes Go.ChangeAt Go.RowKit Go.WideMaps Go.Maps
namespace Tk

def back1 : ByteArray := ⟨#[92]⟩

set_option maxHeartbeats 1000000 in
theorem char_x (w : World) (c : Nat) (s : ByteArray) (st a m : Nat) (hc : Cur w c s st a m) (hs : s.size ≤ 20000) (hb : Lib.hasPrefix (s.extract a s.size).data.toList back1.data.toList = true) (hx : byteAt s (a + 1) = 120) (h0 : digitV (byteAt s (a + 2)) 16 < 8) (h1 : digitV (byteAt s (a + 2 + 1)) 16 < 16) (hz : a + 4 ≤ s.size) :
    Calls Tryz.prog 61 #[.pointer (some ⟨c, 0, none⟩)] w fun e w' => e = .returned (.int .i32 (hexV s (a + 2) 2)) ∧ Cur w' c s st (a + 4) m ∧ w.grownBy w' (some c) := by
  have HC := Lib.hid hc
  have HB := Lib.hid hb
  clear hc hb
  go_enter Tryz.func61, Tryz.ntmps61
  go_wp2_with (first | (go_at_call 20; refine (has_any s back1 c a _ (by omega) HC.out.text HC.out.pos).mono ?_; rintro e w' ⟨he, n, rfl⟩; rw [HB.out] at he; subst he) | (go_at_call 79; refine (escape_x _ c s st a m (HC.out.drew _) hs hx h0 h1 hz).mono ?_; rintro e w' ⟨rfl, hcw, hgw⟩))
  go_ret
  exact ⟨rfl, hcw, World.grownBy.trans (grown_drewN _ _ _) hgw⟩

set_option maxHeartbeats 1000000 in
theorem char_ascii (w : World) (c : Nat) (s : ByteArray) (st a m : Nat) (x : UInt8) (hc : Cur w c s st a m) (hs : s.size ≤ 20000) (ha : a < s.size) (hb : Lib.hasPrefix (s.extract a s.size).data.toList back1.data.toList = false) (hx : (s.extract a s.size).data.toList[0]? = some x) (h1 : x.toNat < 128) (h2 : x.toNat ≠ 10) :
    Calls Tryz.prog 61 #[.pointer (some ⟨c, 0, none⟩)] w fun e w' => e = .returned (.int .i32 x.toNat) ∧ Cur w' c s st (a + 1) m ∧ w.grownBy w' (some c) := by
  have HC := Lib.hid hc
  have HB := Lib.hid hb
  have HX := Lib.hid hx
  clear hc hb hx
  go_enter Tryz.func61, Tryz.ntmps61
  go_upto_region 3 with (go_at_call 20; refine (has_any s back1 c a _ (by omega) HC.out.text HC.out.pos).mono ?_; rintro e w' ⟨he, n, rfl⟩; rw [HB.out] at he; subst he)
  obtain ⟨wo, hwo⟩ : ∃ wo, wo = w.drewN n := ⟨_, rfl⟩
  have HCo : Hid (Cur wo c s st a m) := by rw [hwo]; exact HC.out.drew n
  have HGo : Hid (w.grownBy wo (some c)) := by rw [hwo]; exact grown_drewN _ _ _
  rw [← hwo]
  clear hwo
  have c0 := HCo.out.text
  have c2 := HCo.out.pos
  have f2 := HCo.out.free 2
  have i1 : (a : Int) ≤ s.size := by omega
  have i2 : (0 : Int) ≤ a := by omega
  go_quiet ((go_at_call 80; exact Calls.quiet_of_same (Tryz.utf8_DecodeRuneInString_ascii _ x _ HX.out h1)))
  have k1 : ¬ (x.toNat : Int) = 10 := by omega
  have k2 : ¬ (x.toNat : Int) = 65533 := by omega
  have k3 : ((x.toNat : Int) == 10) = false := by simpa using k1
  have k4 : ((x.toNat : Int) == 65533) = false := by simpa using k2
  have e1 : IntKind.i64.wrap ((a : Int) + 1) = (a : Int) + 1 := IntWalk.i64_in _ (by omega)
  go_wp2_with fail
  go_ret
  exact ⟨rfl, (HCo.out.drew _).move (a + 1) _ (by omega), (HGo.out.trans (grown_drewN _ _ _)).trans (grown_set _ ⟨c, 2, none⟩ _)⟩

end Tk
end Go.Proofs.YtmphkifhnjfkmaaGreatDoor

namespace Go.Proofs.YtmphkifhnjfkmaaGreatDoor
open Go.ChangeShapes Go.WideShapes Go.ChangeAt Go.RowKit Go.WideMaps Go.Maps
namespace Tk

/-- The second byte of an escape, and the character that it stands for. -/
def escs : List (Int × Int) := [(110, 10), (116, 9), (114, 13), (48, 0), (34, 34), (92, 92)]

set_option maxHeartbeats 2000000 in
theorem escape_two (w : World) (c : Nat) (s : ByteArray) (st a m : Nat) (b r : Int) (hb : (b, r) ∈ escs) (hc : Cur w c s st a m) (hs : s.size ≤ 20000) (hx : byteAt s (a + 1) = b) (hz : a + 2 ≤ s.size) :
    Calls Tryz.prog 79 #[.pointer (some ⟨c, 0, none⟩)] w fun e w' => e = .returned (.int .i32 r) ∧ Cur w' c s st (a + 2) m ∧ w.grownBy w' (some c) := by
  have HC := Lib.hid hc
  have HX := Lib.hid hx
  clear hc hx
  simp only [escs, List.mem_cons, Prod.mk.injEq, List.not_mem_nil, or_false] at hb
  rcases hb with ⟨rfl, rfl⟩ | ⟨rfl, rfl⟩ | ⟨rfl, rfl⟩ | ⟨rfl, rfl⟩ | ⟨rfl, rfl⟩ | ⟨rfl, rfl⟩
  all_goals
    go_enter Tryz.func79, Tryz.ntmps79
    go_upto_region 2 with (go_at_call 55; refine (peek_any s a 1 c _ hs (by omega) (by omega) HC.out.text HC.out.pos).mono ?_; rintro e w' ⟨he, n, rfl⟩; rw [HX.out] at he; subst he)
    obtain ⟨wo, hwo⟩ : ∃ wo, wo = w.drewN n := ⟨_, rfl⟩
    have HCo : Hid (Cur wo c s st a m) := by rw [hwo]; exact HC.out.drew n
    have HGo : Hid (w.grownBy wo (some c)) := by rw [hwo]; exact grown_drewN _ _ _
    rw [← hwo]
    clear hwo
    have c2 := HCo.out.pos
    have f2 := HCo.out.free 2
    have e1 : IntKind.i64.wrap ((a : Int) + 2) = (a : Int) + 2 := IntWalk.i64_in _ (by omega)
    go_wp2_with fail
    go_ret
    exact ⟨rfl, HCo.out.move (a + 2) _ (by omega), HGo.out.trans (grown_set _ ⟨c, 2, none⟩ _)⟩

set_option maxHeartbeats 1000000 in
theorem char_two (w : World) (c : Nat) (s : ByteArray) (st a m : Nat) (b r : Int) (he : (b, r) ∈ escs) (hc : Cur w c s st a m) (hs : s.size ≤ 20000) (hb : Lib.hasPrefix (s.extract a s.size).data.toList back1.data.toList = true) (hx : byteAt s (a + 1) = b) (hz : a + 2 ≤ s.size) :
    Calls Tryz.prog 61 #[.pointer (some ⟨c, 0, none⟩)] w fun e w' => e = .returned (.int .i32 r) ∧ Cur w' c s st (a + 2) m ∧ w.grownBy w' (some c) := by
  have HC := Lib.hid hc
  have HB := Lib.hid hb
  have HX := Lib.hid hx
  have HE := Lib.hid he
  clear hc hb hx he
  go_enter Tryz.func61, Tryz.ntmps61
  go_wp2_with (first | (go_at_call 20; refine (has_any s back1 c a _ (by omega) HC.out.text HC.out.pos).mono ?_; rintro e w' ⟨he, n, rfl⟩; rw [HB.out] at he; subst he) | (go_at_call 79; refine (escape_two _ c s st a m b r HE.out (HC.out.drew _) hs HX.out hz).mono ?_; rintro e w' ⟨rfl, hcw, hgw⟩))
  go_ret
  exact ⟨rfl, hcw, World.grownBy.trans (grown_drewN _ _ _) hgw⟩

end Tk
end Go.Proofs.YtmphkifhnjfkmaaGreatDoor

namespace Go.Proofs.YtmphkifhnjfkmaaGreatDoor
open Go.ChangeShapes Go.WideShapes Go.ChangeAt Go.RowKit Go.WideMaps Go.Maps
namespace Tk

/-- The tables by which a text of UTF-8 is read. -/
abbrev Utf8T (w : World) : Prop := Lib.Utf8Tabs 3 4 w

theorem utf8_below {w w' : World} (h : Utf8T w) (hb : Below w.heap.size w w') : Utf8T w' := by
  have one : ∀ (p : Addr) (v : Value), w.cell? p = some v → w'.cell? p = some v := fun p v hp => (World.cell?_of_block (hb.block p.block (lt_cell hp))).trans hp
  exact ⟨fun c hc => one _ _ (h.1 c hc), fun i hi => ⟨one _ _ (h.2 i hi).1, one _ _ (h.2 i hi).2⟩⟩

theorem utf8_grown {w w' : World} {row : Option Nat} (h : Utf8T w) (hg : w.grownBy w' row) (h1 : some 3 ≠ row) (h2 : some 4 ≠ row) : Utf8T w' :=
  ⟨fun c hc => cell_grown (h.1 c hc) hg h1, fun i hi => ⟨cell_grown (h.2 i hi).1 hg h2, cell_grown (h.2 i hi).2 hg h2⟩⟩

theorem utf8_lt {w : World} (h : Utf8T w) : 3 < w.heap.size ∧ 4 < w.heap.size :=
  ⟨lt_cell (h.1 0 (by decide)), lt_cell (h.2 0 (by decide)).1⟩

theorem grown_below {w U V : World} {c : Nat} (h : w.grownBy U (some c)) (hb : Below w.heap.size U V) : w.grownBy V (some c) :=
  ⟨hb.os.trans h.os, hb.tape.trans h.tape, hb.output.trans h.output, Nat.le_trans h.size hb.size, fun k hk hc => (hb.block k hk).trans (h.block k hk hc)⟩

theorem Cur.below {U V : World} {c B : Nat} {s : ByteArray} {st a m : Nat} (h : Cur U c s st a m) (hb : Below B U V) (hc : c < B) : Cur V c s st a m := by
  have hblk : V.heap[c]? = U.heap[c]? := hb.block c hc
  have hx : ∀ j, V.cell? ⟨c, j, none⟩ = U.cell? ⟨c, j, none⟩ := fun j => World.cell?_of_block (w := U) hblk
  exact ⟨(hx 0).trans h.text, (hx 1).trans h.start, (hx 2).trans h.pos, (hx 3).trans h.words, fun j => (World.frozen?_of_block (w := U) hblk).trans (h.free j)⟩

set_option maxHeartbeats 2000000 in
set_option maxRecDepth 100000 in
theorem char_utf (w : World) (c : Nat) (s : ByteArray) (st a m R K : Nat) (hc : Cur w c s st a m) (hs : s.size ≤ 20000) (hu : Utf8T w) (hb : Lib.hasPrefix (s.extract a s.size).data.toList back1.data.toList = false) (hd : Lib.decodeGo (s.extract a s.size) = (R, K)) (hR : 128 ≤ R) (hK : 2 ≤ K) (hle : a + K ≤ s.size) :
    Calls Tryz.prog 61 #[.pointer (some ⟨c, 0, none⟩)] w fun e w' => e = .returned (.int .i32 R) ∧ Cur w' c s st (a + K) m ∧ w.grownBy w' (some c) := by
  have HC := Lib.hid hc
  have HB := Lib.hid hb
  have HU := Lib.hid hu
  have HD := Lib.hid hd
  clear hc hb hu hd
  go_enter Tryz.func61, Tryz.ntmps61
  go_upto_region 3 with (go_at_call 20; refine (has_any s back1 c a _ (by omega) HC.out.text HC.out.pos).mono ?_; rintro e w' ⟨he, n, rfl⟩; rw [HB.out] at he; subst he)
  obtain ⟨wo, hwo⟩ : ∃ wo, wo = w.drewN n := ⟨_, rfl⟩
  have HCo : Hid (Cur wo c s st a m) := by rw [hwo]; exact HC.out.drew n
  have HGo : Hid (w.grownBy wo (some c)) := by rw [hwo]; exact grown_drewN _ _ _
  have HUo : Hid (Utf8T wo) := by rw [hwo]; exact HU.out
  have HZo : Hid (wo.heap.size = w.heap.size) := by rw [hwo]; exact rfl
  rw [← hwo]
  clear hwo
  have c0 := HCo.out.text
  have c2 := HCo.out.pos
  have f2 := HCo.out.free 2
  have i1 : (a : Int) ≤ s.size := by omega
  have i2 : (0 : Int) ≤ a := by omega
  have hlt := HCo.out.lt
  have n10 : ((R : Int) == 10) = false := by simp; omega
  have l2 : decide ((K : Int) < 2) = false := by simp; omega
  have l2' : ¬ (K : Int) < 2 := by omega
  have e1 : IntKind.i64.wrap ((a : Int) + K) = (a : Int) + K := IntWalk.i64_in _ (by omega)
  go_region_held3 (fun w' => w'.cell? ⟨c, 0, none⟩ = some (.string s) ∧ w'.cell? ⟨c, 2, none⟩ = some (.int .i64 a)) (first | exact ⟨c0, c2⟩ | exact ⟨c4, c3⟩)
    (first | (go_at_call 80; refine (Tryz.utf8_DecodeRuneInString _ _ ?_).mono ?_; exact HUo.out; rintro e w3 ⟨he, hb3⟩; rw [HD.out] at he; subst he; have HC3 := Lib.hid (Cur.below (HCo.out.drew 1) hb3 hlt); have HB3 := Lib.hid hb3; have c4 := HC3.out.text; have c3 := HC3.out.pos; have f3 := HC3.out.free 2; clear hb3; go_simp))
  have HBo : Hid (Below w.heap.size wo w3) := by
    show Below _ _ _
    rw [← HZo.out]
    exact ⟨HB3.out.os, HB3.out.tape, HB3.out.output, HB3.out.size, HB3.out.block⟩
  by_cases hq : R = 65533
  · subst hq
    go_wp2_with fail
    go_ret
    exact ⟨rfl, HC3.out.move (a + K) _ (by omega), (grown_below HGo.out HBo.out).trans (grown_set _ ⟨c, 2, none⟩ _)⟩
  · have n3 : ((R : Int) == 65533) = false := by simp; omega
    go_wp2_with fail
    go_ret
    exact ⟨rfl, HC3.out.move (a + K) _ (by omega), (grown_below HGo.out HBo.out).trans (grown_set _ ⟨c, 2, none⟩ _)⟩

end Tk
end Go.Proofs.YtmphkifhnjfkmaaGreatDoor
