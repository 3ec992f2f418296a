/- A symbol, where none stands. A character of a literal, whatever stands there. An escape and a character, whatever stands there. A string on one line, whatever stands there. A character between primes, whatever stands there. ValidString of any text; a world that only drew. A comment: passed over, or the panic of the cursor. A string between three quotes, whatever stands there. The closures that read a token, with what fails. Which closure reads the token at the cursor: the ways that the examples do not take. The deferred closure of Scan where the cursor has panicked. -/
import Derived.Test.YtmphkifhnjfkmaaGreatDoorM2
import Derived.Lib.MapLaws
import Derived.Lib.ValidAsc
import Derived.Test.YtmphkifhnjfkmaaGreatDoorSv
import Derived.Lib.Index
namespace Go.Proofs.YtmphkifhnjfkmaaGreatDoor
open Go.ChangeShapes Go.WideShapes Go.ChangeAt Go.RowKit Go.WideMaps Go.Maps
namespace Tk

set_option maxHeartbeats 1000000 in
theorem symbol_none (w : World) (c : Nat) (s : ByteArray) (st a m : Nat) (hc : Cur w c s st a m) (hs : s.size ≤ 20000) (ha : a ≤ s.size) (hS : Syms w) (hc0 : c ≠ 1) (hne : (bestN s a 43).size = 0) :
    Calls Tryz.prog 39 #[.pointer (some ⟨c, 0, none⟩)] w fun e w' => e = .panicked (faultC st 30) ∧ w.grownBy w' (some c) := by
  obtain ⟨tt, fr, hblk⟩ := hS.block
  have HC := Lib.hid hc
  have HNE := Lib.hid hne
  have h0w : 1 < w.heap.size := by
    rcases Nat.lt_or_ge 1 w.heap.size with h1 | h1
    · exact h1
    · rw [Array.getElem?_eq_none h1] at hblk; cases hblk
  have G : Hid ((w.alloc (.cells #[.int .i64 0, .string ⟨#[]⟩, .int .i64 0, .bool false] 31)).heap[1]? = some (.cells symCells tt fr)) := by
    show _ = _
    rw [heap_alloc_old _ _ h0w]
    exact hblk
  obtain ⟨V, hV⟩ : ∃ V, V = symCells := ⟨_, rfl⟩
  have hidx : ∀ (k : Nat), k < 43 → ∀ (w : World), (Instr.index 81 (.agg V) (.int .i64 k)).run Tryz.prog w = .ok (.string (symB.getD k ⟨#[]⟩)) w := by rw [hV]; exact sym_idx
  have HIdx := Lib.hid hidx
  have hVs : (Tryz.prog.info? 81).map (·.size) = some V.size := by rw [hV]; kernel_rfl
  rw [← hV] at G
  have HV := Lib.hid hVs
  clear hidx hV hVs
  have hlc : c < w.heap.size := HC.out.lt
  have hcB' : w.heap.size ≠ c := by omega
  have hcB : some w.heap.size ≠ some c := by intro h; cases h; omega
  obtain ⟨w0, hw0⟩ : ∃ w0, w0 = w.alloc (.cells #[.int .i64 0, .string ⟨#[]⟩, .int .i64 0, .bool false] 31) := ⟨_, rfl⟩
  have HC0 : Hid (Cur w0 c s st a m) := by rw [hw0]; exact HC.out.kept (World.grownBy_alloc w _ none) (by simp)
  have HG0 : Hid (w.grownBy w0 (some c)) := by rw [hw0]; exact World.grownBy_alloc w _ _
  have HB0 : Hid (Res w0 w.heap.size) := by rw [hw0]; exact Res.new w
  have HW := Lib.hid hw0
  clear hc hS hne hblk hw0
  go_enter Tryz.func39, Tryz.ntmps39
  go_wp2_with (refine wpList_load_row rfl 81 (.global 1) rfl 1 rfl _ _ _ _ G.out Tryz.underlying81 rfl HV.out ?_)
  go_loopw [3, 8] (fun best i wr => ∃ k : Nat, k ≤ 43 ∧ i = .int .i64 k ∧ best = .string (bestN s a k) ∧ ∃ n, wr = w0.drewN n) (fun _ i _ => 43 - (intOf i).toNat)
  case atStart => exact ⟨0, by omega, rfl, rfl, 0, HW.out ▸ rfl⟩
  case round =>
    obtain ⟨k, hk, rfl, rfl, n, rfl⟩ := hrel
    by_cases hlt : k < 43
    · have hi := HIdx.out k hlt
      obtain ⟨hx1, hx2⟩ := sym_size k hlt
      have hnext : bestN s a (k + 1) = if decide ((bestN s a k).size < (symB.getD k ⟨#[]⟩).size) && hasB s a (symB.getD k ⟨#[]⟩) && wholeB s a (symB.getD k ⟨#[]⟩) then symB.getD k ⟨#[]⟩ else bestN s a k := rfl
      have hbs := best_size s a k hk
      have HN := Lib.hid hnext
      clear hnext
      generalize symB.getD k ⟨#[]⟩ = x at hi hx1 hx2 HN
      have HN0 : ∃ b, b = bestN s a k := ⟨_, rfl⟩
      obtain ⟨b, hb⟩ := HN0
      rw [← hb] at hbs HN ⊢
      have HB := Lib.hid hb
      clear hb
      have z1 : IntKind.i64.wrap ((x.size : Int) - 1) = (x.size : Int) - 1 := IntWalk.i64_in _ (by omega)
      have z2 : (1 : Int) ≤ (x.size : Int) := by omega
      have z3 : (x.size : Int) - 1 < x.size := by omega
      have z4 : ((x.size : Int) - 1).toNat = x.size - 1 := by omega
      have z5 : x.size - 1 < x.size := by omega
      have HBT : Hid (byteAt x (x.size - 1) = (x[x.size - 1]'z5).toNat) := by show _ = _; simp [byteAt, z5]
      have l43 : (k : Int) < 43 := by omega
      cases hL : letB ((x[x.size - 1]'z5).toNat : Int)
      · have HWh : Hid (wholeB s a x = true) := by show _ = _; unfold wholeB; rw [HBT.out, hL]; rfl
        by_cases hS : b.size < x.size
        · have i1 : (b.size : Int) < x.size := by omega
          cases hH : Lib.hasPrefix (s.extract a s.size).data.toList x.data.toList
          · have hh : hasB s a x = false := hH
            have HE : Hid (bestN s a (k + 1) = b) := by show _ = _; rw [HN.out, hh]; simp
            have HHp := Lib.hid hH
            clear hh hS hH
            go_wp2_with (first | (go_at_call 55; refine (peek_any s a x.size c _ hs (by omega) (by omega) (HC0.out.drew _).text (HC0.out.drew _).pos).mono ?_; rintro e w' ⟨rfl, n1, rfl⟩) | (go_at_call 54; refine (isPart_any _ _).mono ?_; rintro e w' ⟨rfl, rfl⟩) | (go_at_call 25; refine (isLetter_any _ _).mono ?_; rintro e w' ⟨rfl, rfl⟩) | (go_at_call 20; refine (has_any s x c a _ ha (HC0.out.drew _).text (HC0.out.drew _).pos).mono ?_; rintro e w' ⟨he, n2, rfl⟩; rw [HHp.out] at he; subst he))
            exact ⟨⟨k + 1, by omega, by go_num, by rw [HE.out], _, rfl⟩, by simp [intOf]; omega⟩
          · have hh : hasB s a x = true := hH
            have HE : Hid (bestN s a (k + 1) = x) := by show _ = _; rw [HN.out, hh, HWh.out, decide_eq_true hS]; rfl
            have HHp := Lib.hid hH
            clear hh hS hH
            go_wp2_with (first | (go_at_call 55; refine (peek_any s a x.size c _ hs (by omega) (by omega) (HC0.out.drew _).text (HC0.out.drew _).pos).mono ?_; rintro e w' ⟨rfl, n1, rfl⟩) | (go_at_call 54; refine (isPart_any _ _).mono ?_; rintro e w' ⟨rfl, rfl⟩) | (go_at_call 25; refine (isLetter_any _ _).mono ?_; rintro e w' ⟨rfl, rfl⟩) | (go_at_call 20; refine (has_any s x c a _ ha (HC0.out.drew _).text (HC0.out.drew _).pos).mono ?_; rintro e w' ⟨he, n2, rfl⟩; rw [HHp.out] at he; subst he))
            exact ⟨⟨k + 1, by omega, by go_num, by rw [HE.out], _, rfl⟩, by simp [intOf]; omega⟩
        · have i1 : ¬ (b.size : Int) < x.size := by omega
          have i2 : decide ((b.size : Int) < x.size) = false := decide_eq_false i1
          have HE : Hid (bestN s a (k + 1) = b) := by show _ = _; rw [HN.out, decide_eq_false hS]; rfl
          have i4 : (x.size : Int) ≤ b.size := by omega
          go_wp2_with (first | (go_at_call 55; refine (peek_any s a x.size c _ hs (by omega) (by omega) (HC0.out.drew _).text (HC0.out.drew _).pos).mono ?_; rintro e w' ⟨rfl, n1, rfl⟩) | (go_at_call 54; refine (isPart_any _ _).mono ?_; rintro e w' ⟨rfl, rfl⟩) | (go_at_call 25; refine (isLetter_any _ _).mono ?_; rintro e w' ⟨rfl, rfl⟩))
          exact ⟨⟨k + 1, by omega, by go_num, by rw [HE.out], _, rfl⟩, by simp [intOf]; omega⟩
      · cases hP : partB (byteAt s (a + x.size))
        · have HWh : Hid (wholeB s a x = true) := by show _ = _; unfold wholeB; rw [HBT.out, hL, hP]; rfl
          by_cases hS : b.size < x.size
          · have i1 : (b.size : Int) < x.size := by omega
            cases hH : Lib.hasPrefix (s.extract a s.size).data.toList x.data.toList
            · have hh : hasB s a x = false := hH
              have HE : Hid (bestN s a (k + 1) = b) := by show _ = _; rw [HN.out, hh]; simp
              have HHp := Lib.hid hH
              clear hh hS hH
              go_wp2_with (first | (go_at_call 55; refine (peek_any s a x.size c _ hs (by omega) (by omega) (HC0.out.drew _).text (HC0.out.drew _).pos).mono ?_; rintro e w' ⟨rfl, n1, rfl⟩) | (go_at_call 54; refine (isPart_any _ _).mono ?_; rintro e w' ⟨rfl, rfl⟩) | (go_at_call 25; refine (isLetter_any _ _).mono ?_; rintro e w' ⟨rfl, rfl⟩) | (go_at_call 20; refine (has_any s x c a _ ha (HC0.out.drew _).text (HC0.out.drew _).pos).mono ?_; rintro e w' ⟨he, n2, rfl⟩; rw [HHp.out] at he; subst he))
              exact ⟨⟨k + 1, by omega, by go_num, by rw [HE.out], _, rfl⟩, by simp [intOf]; omega⟩
            · have hh : hasB s a x = true := hH
              have HE : Hid (bestN s a (k + 1) = x) := by show _ = _; rw [HN.out, hh, HWh.out, decide_eq_true hS]; rfl
              have HHp := Lib.hid hH
              clear hh hS hH
              go_wp2_with (first | (go_at_call 55; refine (peek_any s a x.size c _ hs (by omega) (by omega) (HC0.out.drew _).text (HC0.out.drew _).pos).mono ?_; rintro e w' ⟨rfl, n1, rfl⟩) | (go_at_call 54; refine (isPart_any _ _).mono ?_; rintro e w' ⟨rfl, rfl⟩) | (go_at_call 25; refine (isLetter_any _ _).mono ?_; rintro e w' ⟨rfl, rfl⟩) | (go_at_call 20; refine (has_any s x c a _ ha (HC0.out.drew _).text (HC0.out.drew _).pos).mono ?_; rintro e w' ⟨he, n2, rfl⟩; rw [HHp.out] at he; subst he))
              exact ⟨⟨k + 1, by omega, by go_num, by rw [HE.out], _, rfl⟩, by simp [intOf]; omega⟩
          · have i1 : ¬ (b.size : Int) < x.size := by omega
            have i2 : decide ((b.size : Int) < x.size) = false := decide_eq_false i1
            have HE : Hid (bestN s a (k + 1) = b) := by show _ = _; rw [HN.out, decide_eq_false hS]; rfl
            have i4 : (x.size : Int) ≤ b.size := by omega
            go_wp2_with (first | (go_at_call 55; refine (peek_any s a x.size c _ hs (by omega) (by omega) (HC0.out.drew _).text (HC0.out.drew _).pos).mono ?_; rintro e w' ⟨rfl, n1, rfl⟩) | (go_at_call 54; refine (isPart_any _ _).mono ?_; rintro e w' ⟨rfl, rfl⟩) | (go_at_call 25; refine (isLetter_any _ _).mono ?_; rintro e w' ⟨rfl, rfl⟩))
            exact ⟨⟨k + 1, by omega, by go_num, by rw [HE.out], _, rfl⟩, by simp [intOf]; omega⟩
        · have HWh : Hid (wholeB s a x = false) := by show _ = _; unfold wholeB; rw [HBT.out, hL, hP]; rfl
          by_cases hS : b.size < x.size
          · have i1 : (b.size : Int) < x.size := by omega
            cases hH : Lib.hasPrefix (s.extract a s.size).data.toList x.data.toList
            · have hh : hasB s a x = false := hH
              have HE : Hid (bestN s a (k + 1) = b) := by show _ = _; rw [HN.out, hh]; simp
              have HHp := Lib.hid hH
              clear hh hS hH
              go_wp2_with (first | (go_at_call 55; refine (peek_any s a x.size c _ hs (by omega) (by omega) (HC0.out.drew _).text (HC0.out.drew _).pos).mono ?_; rintro e w' ⟨rfl, n1, rfl⟩) | (go_at_call 54; refine (isPart_any _ _).mono ?_; rintro e w' ⟨rfl, rfl⟩) | (go_at_call 25; refine (isLetter_any _ _).mono ?_; rintro e w' ⟨rfl, rfl⟩) | (go_at_call 20; refine (has_any s x c a _ ha (HC0.out.drew _).text (HC0.out.drew _).pos).mono ?_; rintro e w' ⟨he, n2, rfl⟩; rw [HHp.out] at he; subst he))
              exact ⟨⟨k + 1, by omega, by go_num, by rw [HE.out], _, rfl⟩, by simp [intOf]; omega⟩
            · have HE : Hid (bestN s a (k + 1) = b) := by show _ = _; rw [HN.out, HWh.out]; simp
              have HHp := Lib.hid hH
              clear hS hH
              go_wp2_with (first | (go_at_call 55; refine (peek_any s a x.size c _ hs (by omega) (by omega) (HC0.out.drew _).text (HC0.out.drew _).pos).mono ?_; rintro e w' ⟨rfl, n1, rfl⟩) | (go_at_call 54; refine (isPart_any _ _).mono ?_; rintro e w' ⟨rfl, rfl⟩) | (go_at_call 25; refine (isLetter_any _ _).mono ?_; rintro e w' ⟨rfl, rfl⟩) | (go_at_call 20; refine (has_any s x c a _ ha (HC0.out.drew _).text (HC0.out.drew _).pos).mono ?_; rintro e w' ⟨he, n2, rfl⟩; rw [HHp.out] at he; subst he))
              exact ⟨⟨k + 1, by omega, by go_num, by rw [HE.out], _, rfl⟩, by simp [intOf]; omega⟩
          · have i1 : ¬ (b.size : Int) < x.size := by omega
            have i2 : decide ((b.size : Int) < x.size) = false := decide_eq_false i1
            have HE : Hid (bestN s a (k + 1) = b) := by show _ = _; rw [HN.out, decide_eq_false hS]; rfl
            have i4 : (x.size : Int) ≤ b.size := by omega
            go_wp2_with (first | (go_at_call 55; refine (peek_any s a x.size c _ hs (by omega) (by omega) (HC0.out.drew _).text (HC0.out.drew _).pos).mono ?_; rintro e w' ⟨rfl, n1, rfl⟩) | (go_at_call 54; refine (isPart_any _ _).mono ?_; rintro e w' ⟨rfl, rfl⟩) | (go_at_call 25; refine (isLetter_any _ _).mono ?_; rintro e w' ⟨rfl, rfl⟩))
            exact ⟨⟨k + 1, by omega, by go_num, by rw [HE.out], _, rfl⟩, by simp [intOf]; omega⟩
    · obtain rfl : k = 43 := by omega
      have hne := HNE.out
      have hbs := best_size s a 43 hk
      obtain ⟨y, hy⟩ : ∃ y, y = bestN s a 43 := ⟨_, rfl⟩
      rw [← hy] at hne hbs ⊢
      have HY := Lib.hid hy
      clear hy
      obtain rfl : y = ⟨#[]⟩ := by
        obtain ⟨⟨l⟩⟩ := y
        have hl : l.length = 0 := hne
        rw [List.eq_nil_of_length_eq_zero hl]
      obtain ⟨wr, hwr⟩ : ∃ wr, wr = w0.drewN n := ⟨_, rfl⟩
      have HCr : Hid (Cur wr c s st a m) := by rw [hwr]; exact HC0.out.drew n
      have HGr : Hid (w.grownBy wr (some c)) := by rw [hwr]; exact HG0.out.trans (grown_drewN _ _ _)
      rw [← hwr]
      clear hwr
      go_wp2_with (go_at_call 52; refine (fail_any _ c s st a m 30 HCr.out).mono ?_; rintro e w' ⟨rfl, rfl⟩)
      exact ⟨rfl, rfl, HGr.out⟩

end Tk
end Go.Proofs.YtmphkifhnjfkmaaGreatDoor

namespace Go.Proofs.YtmphkifhnjfkmaaGreatDoor
open Go.ChangeShapes Go.WideShapes Go.ChangeAt Go.RowKit Go.WideMaps Go.Maps
namespace Tk

def hexOk (s : ByteArray) (a : Nat) : Nat → Bool
  | 0 => true
  | k + 1 => hexOk s a k && decide (digitV (byteAt s (a + k)) 16 < 16)

theorem hexOk_all {s : ByteArray} {a : Nat} : ∀ {n : Nat}, hexOk s a n = true → ∀ j, j < n → digitV (byteAt s (a + j)) 16 < 16
  | 0, _, j, hj => by omega
  | n + 1, h, j, hj => by
    unfold hexOk at h
    rw [Bool.and_eq_true, decide_eq_true_eq] at h
    by_cases hjn : j = n
    · rw [hjn]; exact h.2
    · exact hexOk_all h.1 j (by omega)

theorem hexOk_mono {s : ByteArray} {a : Nat} : ∀ (n k : Nat), k ≤ n → hexOk s a n = true → hexOk s a k = true
  | 0, k, hk, h => by obtain rfl : k = 0 := by omega
                      exact h
  | n + 1, k, hk, h => by
    by_cases hkn : k = n + 1
    · rw [hkn]; exact h
    · unfold hexOk at h
      rw [Bool.and_eq_true] at h
      exact hexOk_mono n k (by omega) h.1

/-- What the digits of an escape mean. -/
def hexM (s : ByteArray) (a n : Nat) (most : Int) : Option Int :=
  if hexOk s a n = true then (if hexV s a n ≤ most then (if Lib.validRune (hexV s a n) = true then some (hexV s a n) else none) else none) else none

theorem pow16 (k : Nat) (h : k ≤ 6) : (16 : Int) ^ k ≤ 16777216 := by
  rcases (by omega : k = 0 ∨ k = 1 ∨ k = 2 ∨ k = 3 ∨ k = 4 ∨ k = 5 ∨ k = 6) with rfl | rfl | rfl | rfl | rfl | rfl | rfl <;> decide
theorem pow16' (k : Nat) (h : k < 6) : (16 : Int) ^ k ≤ 1048576 := by
  rcases (by omega : k = 0 ∨ k = 1 ∨ k = 2 ∨ k = 3 ∨ k = 4 ∨ k = 5) with rfl | rfl | rfl | rfl | rfl | rfl <;> decide

set_option maxHeartbeats 4000000 in
theorem hex_total (w : World) (c : Nat) (s : ByteArray) (st a m n : Nat) (most : Int) (hc : Cur w c s st a m) (hs : s.size ≤ 20000) (ha : a ≤ 20010) (hn : n ≤ 6) :
    Calls Tryz.prog 101 #[.pointer (some ⟨c, 0, none⟩), .int .i64 n, .int .i32 most] w fun e w' =>
      ((∃ r, hexM s a n most = some r ∧ e = .returned (.int .i32 r) ∧ Cur w' c s st (a + n) m) ∨ (hexM s a n most = none ∧ e = .panicked (faultC st 31))) ∧ w.grownBy w' (some c) := by
  have HC := Lib.hid hc
  obtain ⟨R, hR⟩ : ∃ R, R = hexM s a n most := ⟨_, rfl⟩
  rw [← hR]
  have HR := Lib.hid hR
  clear hc hR
  go_enter Tryz.func101, Tryz.ntmps101
  go_wp2_with fail
  go_loopw [7, 11] (fun r i wr => ∃ k : Nat, k ≤ n ∧ i = .int .i64 k ∧ r = .int .i32 (hexV s a k) ∧ hexOk s a k = true ∧ Cur wr c s st (a + k) m ∧ w.grownBy wr (some c)) (fun _ i _ => n - (intOf i).toNat)
  case atStart => exact ⟨0, by omega, rfl, rfl, rfl, HC.out, World.grownBy.refl _ _⟩
  case round =>
    obtain ⟨k, hk, rfl, rfl, hok, hcr, hg⟩ := hrel
    have HCR := Lib.hid hcr
    have HG := Lib.hid hg
    have HOK := Lib.hid hok
    have hr := hexV_range s a k (by omega) (fun j hj => hexOk_all hok j hj)
    have hp6 := pow16 k (by omega)
    clear hcr hg hok
    by_cases hlt : k < n
    · have hp := pow16' k (by omega)
      have l2 : (k : Int) < n := by omega
      have hbr := byteAt_range s (a + k)
      by_cases hd : digitV (byteAt s (a + k)) 16 < 16
      · have hd0 := digitV_range _ hd (byteAt_range s (a + k)).1
        have HV : Hid (hexV s a (k + 1) = hexV s a k * 16 + digitV (byteAt s (a + k)) 16) := rfl
        have HO : Hid (hexOk s a (k + 1) = true) := by
          show _ = _
          unfold hexOk
          rw [HOK.out, decide_eq_true hd]
          rfl
        generalize hexV s a k = r at hr HV ⊢
        have e1 : IntKind.i32.wrap (r * 16) = r * 16 := i32_in _ (by omega)
        obtain ⟨d, hdd⟩ : ∃ d, d = digitV (byteAt s (a + k)) 16 := ⟨_, rfl⟩
        rw [← hdd] at hd hd0 HV
        have HD := Lib.hid hdd
        clear hdd
        have e2 : IntKind.i32.wrap d = d := i32_in _ (by omega)
        have e3 : IntKind.i32.wrap (r * 16 + d) = r * 16 + d := i32_in _ (by omega)
        have c2 := HCR.out.pos
        have f2 := HCR.out.free 2
        have e4 : IntKind.i64.wrap (((a + k : Nat) : Int) + 1) = ((a + k : Nat) : Int) + 1 := IntWalk.i64_in _ (by omega)
        go_wp2_with (first | (go_at_call 55; refine (peek_any s (a + k) 0 c _ hs (by omega) (by omega) HCR.out.text HCR.out.pos).mono ?_; rintro e w' ⟨rfl, n, rfl⟩) | (go_at_call 96; refine (digit_any _ 16 _ hbr.1 hbr.2).mono ?_; rintro e w' ⟨he, rfl⟩; rw [← HD.out, decide_eq_true hd] at he; subst he))
        exact ⟨⟨k + 1, by omega, by go_num, by rw [HV.out], HO.out, (HCR.out.drew _).move (a + (k + 1)) _ (by omega), (HG.out.trans (grown_drewN _ _ _)).trans (grown_set _ ⟨c, 2, none⟩ _)⟩, by simp [intOf]; omega⟩
      · have HN : Hid (R = none) := by
          show _ = _
          rw [HR.out]
          unfold hexM
          rw [if_neg]
          intro h
          exact hd (hexOk_all h k hlt)
        obtain ⟨d, hdd⟩ : ∃ d, d = digitV (byteAt s (a + k)) 16 := ⟨_, rfl⟩
        rw [← hdd] at hd
        have HD := Lib.hid hdd
        have hdf : decide (d < 16) = false := decide_eq_false hd
        clear hdd
        go_wp2_with (first | (go_at_call 55; refine (peek_any s (a + k) 0 c _ hs (by omega) (by omega) HCR.out.text HCR.out.pos).mono ?_; rintro e w' ⟨rfl, n, rfl⟩) | (go_at_call 96; refine (digit_any _ 16 _ hbr.1 hbr.2).mono ?_; rintro e w' ⟨he, rfl⟩; rw [← HD.out, hdf] at he; subst he) | (go_at_call 52; refine (fail_any _ c s st (a + k) m 31 (HCR.out.drew _)).mono ?_; rintro e w' ⟨rfl, rfl⟩))
        exact ⟨rfl, .inr ⟨HN.out, rfl⟩, HG.out.trans (grown_drewN _ _ _)⟩
    · obtain rfl : k = n := by omega
      have l2 : ¬ (k : Int) < k := by omega
      have hR := HR.out
      unfold hexM at hR
      rw [if_pos HOK.out] at hR
      obtain ⟨r, hrr⟩ : ∃ r, r = hexV s a k := ⟨_, rfl⟩
      rw [← hrr] at hR hr ⊢
      clear hrr HR
      by_cases hm : r ≤ most
      · rw [if_pos hm] at hR
        have m1 : ¬ most < r := by omega
        have m2 : decide (most < r) = false := decide_eq_false m1
        cases hv : Lib.validRune r
        · rw [hv, if_neg (by decide)] at hR
          have HN := Lib.hid hR
          have HVR := Lib.hid hv
          clear hR hv
          go_wp2_with (first | (go_at_call 120; refine (Tryz.utf8_ValidRune _ _).mono ?_; rintro e w' ⟨he, rfl⟩; rw [HVR.out] at he; subst he) | (go_at_call 52; refine (fail_any _ c s st (a + k) m 31 HCR.out).mono ?_; rintro e w' ⟨rfl, rfl⟩))
          exact ⟨rfl, .inr ⟨HN.out, rfl⟩, HG.out⟩
        · rw [hv, if_pos rfl] at hR
          have HN := Lib.hid hR
          have HVR := Lib.hid hv
          clear hR hv
          go_wp2_with (go_at_call 120; refine (Tryz.utf8_ValidRune _ _).mono ?_; rintro e w' ⟨he, rfl⟩; rw [HVR.out] at he; subst he)
          go_ret
          exact ⟨.inl ⟨r, HN.out, rfl, HCR.out⟩, HG.out⟩
      · rw [if_neg hm] at hR
        have HN := Lib.hid hR
        have m1 : most < r := by omega
        clear hR hm
        go_wp2_with (go_at_call 52; refine (fail_any _ c s st (a + k) m 31 HCR.out).mono ?_; rintro e w' ⟨rfl, rfl⟩)
        exact ⟨rfl, .inr ⟨HN.out, rfl⟩, HG.out⟩

/-- What an escape means, and where it ends. -/
def escM (s : ByteArray) (a : Nat) : Option (Int × Nat) :=
  if byteAt s (a + 1) = 110 then some (10, a + 2)
  else if byteAt s (a + 1) = 116 then some (9, a + 2)
  else if byteAt s (a + 1) = 114 then some (13, a + 2)
  else if byteAt s (a + 1) = 48 then some (0, a + 2)
  else if byteAt s (a + 1) = 92 then some (92, a + 2)
  else if byteAt s (a + 1) = 34 then some (34, a + 2)
  else if byteAt s (a + 1) = 39 then some (39, a + 2)
  else if byteAt s (a + 1) = 120 then (hexM s (a + 2) 2 127).map fun r => (r, a + 2 + 2)
  else if byteAt s (a + 1) = 117 then (hexM s (a + 2) 4 1114111).map fun r => (r, a + 2 + 4)
  else if byteAt s (a + 1) = 85 then (hexM s (a + 2) 6 1114111).map fun r => (r, a + 2 + 6)
  else none

end Tk
end Go.Proofs.YtmphkifhnjfkmaaGreatDoor

namespace Go.Proofs.YtmphkifhnjfkmaaGreatDoor
open Go.ChangeShapes Go.WideShapes Go.ChangeAt Go.RowKit Go.WideMaps Go.Maps
namespace Tk

set_option maxHeartbeats 8000000 in
theorem escape_total (w : World) (c : Nat) (s : ByteArray) (st a m : Nat) (hc : Cur w c s st a m) (hs : s.size ≤ 20000) (ha : a ≤ s.size) :
    Calls Tryz.prog 79 #[.pointer (some ⟨c, 0, none⟩)] w fun e w' =>
      ((∃ r q, escM s a = some (r, q) ∧ e = .returned (.int .i32 r) ∧ Cur w' c s st q m) ∨ (escM s a = none ∧ e = .panicked (faultC st 31))) ∧ w.grownBy w' (some c) := by
  have HC := Lib.hid hc
  obtain ⟨R, hR⟩ : ∃ R, R = escM s a := ⟨_, rfl⟩
  rw [← hR]
  obtain ⟨b, hb⟩ : ∃ b, b = byteAt s (a + 1) := ⟨_, rfl⟩
  unfold escM at hR
  rw [← hb] at hR
  have HX := Lib.hid hb
  have e1 : IntKind.i64.wrap ((a : Int) + 2) = (a : Int) + 2 := IntWalk.i64_in _ (by omega)
  have hbr : 0 ≤ b ∧ b ≤ 255 := by rw [hb]; exact byteAt_range s (a + 1)
  clear hc hb
  by_cases h110 : b = 110
  · subst h110
    have HF : Hid (R = some (10, a + 2)) := hR
    clear hR
    go_enter Tryz.func79, Tryz.ntmps79
    go_upto_region 2 with (go_at_call 55; refine (peek_any s a 1 c _ hs (by omega) (by omega) HC.out.text HC.out.pos).mono ?_; rintro e w' ⟨he, n, rfl⟩; rw [← HX.out] at he; subst he)
    obtain ⟨wo, hwo⟩ : ∃ wo, wo = w.drewN n := ⟨_, rfl⟩
    have HCo : Hid (Cur wo c s st a m) := by rw [hwo]; exact HC.out.drew n
    have HGo : Hid (w.grownBy wo (some c)) := by rw [hwo]; exact grown_drewN _ _ _
    rw [← hwo]
    clear hwo
    have c2 := HCo.out.pos
    have f2 := HCo.out.free 2
    go_wp2_with fail
    go_ret
    exact ⟨.inl ⟨10, a + 2, HF.out, rfl, HCo.out.move (a + 2) _ (by omega)⟩, HGo.out.trans (grown_set _ ⟨c, 2, none⟩ _)⟩
  rw [if_neg h110] at hR
  have k110 : (b == 110) = false := by simpa using h110
  by_cases h116 : b = 116
  · subst h116
    have HF : Hid (R = some (9, a + 2)) := hR
    clear hR
    go_enter Tryz.func79, Tryz.ntmps79
    go_upto_region 2 with (go_at_call 55; refine (peek_any s a 1 c _ hs (by omega) (by omega) HC.out.text HC.out.pos).mono ?_; rintro e w' ⟨he, n, rfl⟩; rw [← HX.out] at he; subst he)
    obtain ⟨wo, hwo⟩ : ∃ wo, wo = w.drewN n := ⟨_, rfl⟩
    have HCo : Hid (Cur wo c s st a m) := by rw [hwo]; exact HC.out.drew n
    have HGo : Hid (w.grownBy wo (some c)) := by rw [hwo]; exact grown_drewN _ _ _
    rw [← hwo]
    clear hwo
    have c2 := HCo.out.pos
    have f2 := HCo.out.free 2
    go_wp2_with fail
    go_ret
    exact ⟨.inl ⟨9, a + 2, HF.out, rfl, HCo.out.move (a + 2) _ (by omega)⟩, HGo.out.trans (grown_set _ ⟨c, 2, none⟩ _)⟩
  rw [if_neg h116] at hR
  have k116 : (b == 116) = false := by simpa using h116
  by_cases h114 : b = 114
  · subst h114
    have HF : Hid (R = some (13, a + 2)) := hR
    clear hR
    go_enter Tryz.func79, Tryz.ntmps79
    go_upto_region 2 with (go_at_call 55; refine (peek_any s a 1 c _ hs (by omega) (by omega) HC.out.text HC.out.pos).mono ?_; rintro e w' ⟨he, n, rfl⟩; rw [← HX.out] at he; subst he)
    obtain ⟨wo, hwo⟩ : ∃ wo, wo = w.drewN n := ⟨_, rfl⟩
    have HCo : Hid (Cur wo c s st a m) := by rw [hwo]; exact HC.out.drew n
    have HGo : Hid (w.grownBy wo (some c)) := by rw [hwo]; exact grown_drewN _ _ _
    rw [← hwo]
    clear hwo
    have c2 := HCo.out.pos
    have f2 := HCo.out.free 2
    go_wp2_with fail
    go_ret
    exact ⟨.inl ⟨13, a + 2, HF.out, rfl, HCo.out.move (a + 2) _ (by omega)⟩, HGo.out.trans (grown_set _ ⟨c, 2, none⟩ _)⟩
  rw [if_neg h114] at hR
  have k114 : (b == 114) = false := by simpa using h114
  by_cases h48 : b = 48
  · subst h48
    have HF : Hid (R = some (0, a + 2)) := hR
    clear hR
    go_enter Tryz.func79, Tryz.ntmps79
    go_upto_region 2 with (go_at_call 55; refine (peek_any s a 1 c _ hs (by omega) (by omega) HC.out.text HC.out.pos).mono ?_; rintro e w' ⟨he, n, rfl⟩; rw [← HX.out] at he; subst he)
    obtain ⟨wo, hwo⟩ : ∃ wo, wo = w.drewN n := ⟨_, rfl⟩
    have HCo : Hid (Cur wo c s st a m) := by rw [hwo]; exact HC.out.drew n
    have HGo : Hid (w.grownBy wo (some c)) := by rw [hwo]; exact grown_drewN _ _ _
    rw [← hwo]
    clear hwo
    have c2 := HCo.out.pos
    have f2 := HCo.out.free 2
    go_wp2_with fail
    go_ret
    exact ⟨.inl ⟨0, a + 2, HF.out, rfl, HCo.out.move (a + 2) _ (by omega)⟩, HGo.out.trans (grown_set _ ⟨c, 2, none⟩ _)⟩
  rw [if_neg h48] at hR
  have k48 : (b == 48) = false := by simpa using h48
  by_cases h92 : b = 92
  · subst h92
    have HF : Hid (R = some (92, a + 2)) := hR
    clear hR
    go_enter Tryz.func79, Tryz.ntmps79
    go_upto_region 2 with (go_at_call 55; refine (peek_any s a 1 c _ hs (by omega) (by omega) HC.out.text HC.out.pos).mono ?_; rintro e w' ⟨he, n, rfl⟩; rw [← HX.out] at he; subst he)
    obtain ⟨wo, hwo⟩ : ∃ wo, wo = w.drewN n := ⟨_, rfl⟩
    have HCo : Hid (Cur wo c s st a m) := by rw [hwo]; exact HC.out.drew n
    have HGo : Hid (w.grownBy wo (some c)) := by rw [hwo]; exact grown_drewN _ _ _
    rw [← hwo]
    clear hwo
    have c2 := HCo.out.pos
    have f2 := HCo.out.free 2
    go_wp2_with fail
    go_ret
    exact ⟨.inl ⟨92, a + 2, HF.out, rfl, HCo.out.move (a + 2) _ (by omega)⟩, HGo.out.trans (grown_set _ ⟨c, 2, none⟩ _)⟩
  rw [if_neg h92] at hR
  have k92 : (b == 92) = false := by simpa using h92
  by_cases h34 : b = 34
  · subst h34
    have HF : Hid (R = some (34, a + 2)) := hR
    clear hR
    go_enter Tryz.func79, Tryz.ntmps79
    go_upto_region 2 with (go_at_call 55; refine (peek_any s a 1 c _ hs (by omega) (by omega) HC.out.text HC.out.pos).mono ?_; rintro e w' ⟨he, n, rfl⟩; rw [← HX.out] at he; subst he)
    obtain ⟨wo, hwo⟩ : ∃ wo, wo = w.drewN n := ⟨_, rfl⟩
    have HCo : Hid (Cur wo c s st a m) := by rw [hwo]; exact HC.out.drew n
    have HGo : Hid (w.grownBy wo (some c)) := by rw [hwo]; exact grown_drewN _ _ _
    rw [← hwo]
    clear hwo
    have c2 := HCo.out.pos
    have f2 := HCo.out.free 2
    go_wp2_with fail
    go_ret
    exact ⟨.inl ⟨34, a + 2, HF.out, rfl, HCo.out.move (a + 2) _ (by omega)⟩, HGo.out.trans (grown_set _ ⟨c, 2, none⟩ _)⟩
  rw [if_neg h34] at hR
  have k34 : (b == 34) = false := by simpa using h34
  by_cases h39 : b = 39
  · subst h39
    have HF : Hid (R = some (39, a + 2)) := hR
    clear hR
    go_enter Tryz.func79, Tryz.ntmps79
    go_upto_region 2 with (go_at_call 55; refine (peek_any s a 1 c _ hs (by omega) (by omega) HC.out.text HC.out.pos).mono ?_; rintro e w' ⟨he, n, rfl⟩; rw [← HX.out] at he; subst he)
    obtain ⟨wo, hwo⟩ : ∃ wo, wo = w.drewN n := ⟨_, rfl⟩
    have HCo : Hid (Cur wo c s st a m) := by rw [hwo]; exact HC.out.drew n
    have HGo : Hid (w.grownBy wo (some c)) := by rw [hwo]; exact grown_drewN _ _ _
    rw [← hwo]
    clear hwo
    have c2 := HCo.out.pos
    have f2 := HCo.out.free 2
    go_wp2_with fail
    go_ret
    exact ⟨.inl ⟨39, a + 2, HF.out, rfl, HCo.out.move (a + 2) _ (by omega)⟩, HGo.out.trans (grown_set _ ⟨c, 2, none⟩ _)⟩
  rw [if_neg h39] at hR
  have k39 : (b == 39) = false := by simpa using h39
  by_cases h120 : b = 120
  · subst h120
    have hF : R = (hexM s (a + 2) 2 127).map fun r => (r, a + 2 + 2) := hR
    have HF := Lib.hid hF
    clear hR hF
    go_enter Tryz.func79, Tryz.ntmps79
    go_upto_region 2 with (go_at_call 55; refine (peek_any s a 1 c _ hs (by omega) (by omega) HC.out.text HC.out.pos).mono ?_; rintro e w' ⟨he, n, rfl⟩; rw [← HX.out] at he; subst he)
    obtain ⟨wo, hwo⟩ : ∃ wo, wo = w.drewN n := ⟨_, rfl⟩
    have HCo : Hid (Cur wo c s st a m) := by rw [hwo]; exact HC.out.drew n
    have HGo : Hid (w.grownBy wo (some c)) := by rw [hwo]; exact grown_drewN _ _ _
    rw [← hwo]
    clear hwo
    have c2 := HCo.out.pos
    have f2 := HCo.out.free 2
    have hC1 : Hid (Cur (wo.setCell ⟨c, 2, none⟩ (.int .i64 ((a : Int) + 2))) c s st (a + 2) m) := HCo.out.move (a + 2) _ (by omega)
    have hex := hex_total _ c s st (a + 2) m 2 127 hC1.out hs (by omega) (by omega)
    cases hm : hexM s (a + 2) 2 127 with
    | none =>
      have HN : Hid (R = none) := by show _ = _; rw [HF.out, hm]; rfl
      have HH : Hid (Calls Tryz.prog 101 #[.pointer (some ⟨c, 0, none⟩), .int .i64 2, .int .i32 127] (wo.setCell ⟨c, 2, none⟩ (.int .i64 ((a : Int) + 2))) fun e w' => e = .panicked (faultC st 31) ∧ (wo.setCell ⟨c, 2, none⟩ (.int .i64 ((a : Int) + 2))).grownBy w' (some c)) := hex.mono fun e w' h => by
        rcases h with ⟨⟨r, hr, _⟩ | ⟨_, he⟩, hg⟩
        · rw [hm] at hr; cases hr
        · exact ⟨he, hg⟩
      clear hex hm
      go_wp2_with (go_at_call 101; refine HH.out.mono ?_; rintro e w' ⟨rfl, hgw⟩)
      exact ⟨rfl, .inr ⟨HN.out, rfl⟩, (HGo.out.trans (grown_set _ ⟨c, 2, none⟩ _)).trans hgw⟩
    | some r =>
      have HN : Hid (R = some (r, a + 2 + 2)) := by show _ = _; rw [HF.out, hm]; rfl
      have HH : Hid (Calls Tryz.prog 101 #[.pointer (some ⟨c, 0, none⟩), .int .i64 2, .int .i32 127] (wo.setCell ⟨c, 2, none⟩ (.int .i64 ((a : Int) + 2))) fun e w' => e = .returned (.int .i32 r) ∧ Cur w' c s st (a + 2 + 2) m ∧ (wo.setCell ⟨c, 2, none⟩ (.int .i64 ((a : Int) + 2))).grownBy w' (some c)) := hex.mono fun e w' h => by
        rcases h with ⟨⟨r', hr, he, hcu⟩ | ⟨hr, _⟩, hg⟩
        · rw [hm] at hr; cases hr; exact ⟨he, hcu, hg⟩
        · rw [hm] at hr; cases hr
      clear hex hm
      go_wp2_with (go_at_call 101; refine HH.out.mono ?_; rintro e w' ⟨rfl, hcw, hgw⟩)
      go_ret
      exact ⟨.inl ⟨r, a + 2 + 2, HN.out, rfl, hcw⟩, (HGo.out.trans (grown_set _ ⟨c, 2, none⟩ _)).trans hgw⟩
  rw [if_neg h120] at hR
  have k120 : (b == 120) = false := by simpa using h120
  by_cases h117 : b = 117
  · subst h117
    have hF : R = (hexM s (a + 2) 4 1114111).map fun r => (r, a + 2 + 4) := hR
    have HF := Lib.hid hF
    clear hR hF
    go_enter Tryz.func79, Tryz.ntmps79
    go_upto_region 2 with (go_at_call 55; refine (peek_any s a 1 c _ hs (by omega) (by omega) HC.out.text HC.out.pos).mono ?_; rintro e w' ⟨he, n, rfl⟩; rw [← HX.out] at he; subst he)
    obtain ⟨wo, hwo⟩ : ∃ wo, wo = w.drewN n := ⟨_, rfl⟩
    have HCo : Hid (Cur wo c s st a m) := by rw [hwo]; exact HC.out.drew n
    have HGo : Hid (w.grownBy wo (some c)) := by rw [hwo]; exact grown_drewN _ _ _
    rw [← hwo]
    clear hwo
    have c2 := HCo.out.pos
    have f2 := HCo.out.free 2
    have hC1 : Hid (Cur (wo.setCell ⟨c, 2, none⟩ (.int .i64 ((a : Int) + 2))) c s st (a + 2) m) := HCo.out.move (a + 2) _ (by omega)
    have hex := hex_total _ c s st (a + 2) m 4 1114111 hC1.out hs (by omega) (by omega)
    cases hm : hexM s (a + 2) 4 1114111 with
    | none =>
      have HN : Hid (R = none) := by show _ = _; rw [HF.out, hm]; rfl
      have HH : Hid (Calls Tryz.prog 101 #[.pointer (some ⟨c, 0, none⟩), .int .i64 4, .int .i32 1114111] (wo.setCell ⟨c, 2, none⟩ (.int .i64 ((a : Int) + 2))) fun e w' => e = .panicked (faultC st 31) ∧ (wo.setCell ⟨c, 2, none⟩ (.int .i64 ((a : Int) + 2))).grownBy w' (some c)) := hex.mono fun e w' h => by
        rcases h with ⟨⟨r, hr, _⟩ | ⟨_, he⟩, hg⟩
        · rw [hm] at hr; cases hr
        · exact ⟨he, hg⟩
      clear hex hm
      go_wp2_with (go_at_call 101; refine HH.out.mono ?_; rintro e w' ⟨rfl, hgw⟩)
      exact ⟨rfl, .inr ⟨HN.out, rfl⟩, (HGo.out.trans (grown_set _ ⟨c, 2, none⟩ _)).trans hgw⟩
    | some r =>
      have HN : Hid (R = some (r, a + 2 + 4)) := by show _ = _; rw [HF.out, hm]; rfl
      have HH : Hid (Calls Tryz.prog 101 #[.pointer (some ⟨c, 0, none⟩), .int .i64 4, .int .i32 1114111] (wo.setCell ⟨c, 2, none⟩ (.int .i64 ((a : Int) + 2))) fun e w' => e = .returned (.int .i32 r) ∧ Cur w' c s st (a + 2 + 4) m ∧ (wo.setCell ⟨c, 2, none⟩ (.int .i64 ((a : Int) + 2))).grownBy w' (some c)) := hex.mono fun e w' h => by
        rcases h with ⟨⟨r', hr, he, hcu⟩ | ⟨hr, _⟩, hg⟩
        · rw [hm] at hr; cases hr; exact ⟨he, hcu, hg⟩
        · rw [hm] at hr; cases hr
      clear hex hm
      go_wp2_with (go_at_call 101; refine HH.out.mono ?_; rintro e w' ⟨rfl, hcw, hgw⟩)
      go_ret
      exact ⟨.inl ⟨r, a + 2 + 4, HN.out, rfl, hcw⟩, (HGo.out.trans (grown_set _ ⟨c, 2, none⟩ _)).trans hgw⟩
  rw [if_neg h117] at hR
  have k117 : (b == 117) = false := by simpa using h117
  by_cases h85 : b = 85
  · subst h85
    have hF : R = (hexM s (a + 2) 6 1114111).map fun r => (r, a + 2 + 6) := hR
    have HF := Lib.hid hF
    clear hR hF
    go_enter Tryz.func79, Tryz.ntmps79
    go_upto_region 2 with (go_at_call 55; refine (peek_any s a 1 c _ hs (by omega) (by omega) HC.out.text HC.out.pos).mono ?_; rintro e w' ⟨he, n, rfl⟩; rw [← HX.out] at he; subst he)
    obtain ⟨wo, hwo⟩ : ∃ wo, wo = w.drewN n := ⟨_, rfl⟩
    have HCo : Hid (Cur wo c s st a m) := by rw [hwo]; exact HC.out.drew n
    have HGo : Hid (w.grownBy wo (some c)) := by rw [hwo]; exact grown_drewN _ _ _
    rw [← hwo]
    clear hwo
    have c2 := HCo.out.pos
    have f2 := HCo.out.free 2
    have hC1 : Hid (Cur (wo.setCell ⟨c, 2, none⟩ (.int .i64 ((a : Int) + 2))) c s st (a + 2) m) := HCo.out.move (a + 2) _ (by omega)
    have hex := hex_total _ c s st (a + 2) m 6 1114111 hC1.out hs (by omega) (by omega)
    cases hm : hexM s (a + 2) 6 1114111 with
    | none =>
      have HN : Hid (R = none) := by show _ = _; rw [HF.out, hm]; rfl
      have HH : Hid (Calls Tryz.prog 101 #[.pointer (some ⟨c, 0, none⟩), .int .i64 6, .int .i32 1114111] (wo.setCell ⟨c, 2, none⟩ (.int .i64 ((a : Int) + 2))) fun e w' => e = .panicked (faultC st 31) ∧ (wo.setCell ⟨c, 2, none⟩ (.int .i64 ((a : Int) + 2))).grownBy w' (some c)) := hex.mono fun e w' h => by
        rcases h with ⟨⟨r, hr, _⟩ | ⟨_, he⟩, hg⟩
        · rw [hm] at hr; cases hr
        · exact ⟨he, hg⟩
      clear hex hm
      go_wp2_with (go_at_call 101; refine HH.out.mono ?_; rintro e w' ⟨rfl, hgw⟩)
      exact ⟨rfl, .inr ⟨HN.out, rfl⟩, (HGo.out.trans (grown_set _ ⟨c, 2, none⟩ _)).trans hgw⟩
    | some r =>
      have HN : Hid (R = some (r, a + 2 + 6)) := by show _ = _; rw [HF.out, hm]; rfl
      have HH : Hid (Calls Tryz.prog 101 #[.pointer (some ⟨c, 0, none⟩), .int .i64 6, .int .i32 1114111] (wo.setCell ⟨c, 2, none⟩ (.int .i64 ((a : Int) + 2))) fun e w' => e = .returned (.int .i32 r) ∧ Cur w' c s st (a + 2 + 6) m ∧ (wo.setCell ⟨c, 2, none⟩ (.int .i64 ((a : Int) + 2))).grownBy w' (some c)) := hex.mono fun e w' h => by
        rcases h with ⟨⟨r', hr, he, hcu⟩ | ⟨hr, _⟩, hg⟩
        · rw [hm] at hr; cases hr; exact ⟨he, hcu, hg⟩
        · rw [hm] at hr; cases hr
      clear hex hm
      go_wp2_with (go_at_call 101; refine HH.out.mono ?_; rintro e w' ⟨rfl, hcw, hgw⟩)
      go_ret
      exact ⟨.inl ⟨r, a + 2 + 6, HN.out, rfl, hcw⟩, (HGo.out.trans (grown_set _ ⟨c, 2, none⟩ _)).trans hgw⟩
  rw [if_neg h85] at hR
  have k85 : (b == 85) = false := by simpa using h85
  have HF := Lib.hid hR
  clear hR h110 h116 h114 h48 h92 h34 h39 h120 h117 h85
  go_enter Tryz.func79, Tryz.ntmps79
  go_upto_region 2 with (go_at_call 55; refine (peek_any s a 1 c _ hs (by omega) (by omega) HC.out.text HC.out.pos).mono ?_; rintro e w' ⟨he, n, rfl⟩; rw [← HX.out] at he; subst he)
  obtain ⟨wo, hwo⟩ : ∃ wo, wo = w.drewN n := ⟨_, rfl⟩
  have HCo : Hid (Cur wo c s st a m) := by rw [hwo]; exact HC.out.drew n
  have HGo : Hid (w.grownBy wo (some c)) := by rw [hwo]; exact grown_drewN _ _ _
  rw [← hwo]
  clear hwo
  have c2 := HCo.out.pos
  have f2 := HCo.out.free 2
  have hC1 : Hid (Cur (wo.setCell ⟨c, 2, none⟩ (.int .i64 ((a : Int) + 2))) c s st (a + 2) m) := HCo.out.move (a + 2) _ (by omega)
  go_wp2_with (go_at_call 52; refine (fail_any _ c s st (a + 2) m 31 hC1.out).mono ?_; rintro e w' ⟨rfl, rfl⟩)
  exact ⟨rfl, .inr ⟨HF.out, rfl⟩, HGo.out.trans (grown_set _ ⟨c, 2, none⟩ _)⟩

/-- What a character of a literal is, and where it ends. -/
def charM (s : ByteArray) (a : Nat) : Option (Int × Nat) :=
  if hasB s a back1 = true then escM s a
  else if (Lib.decodeGo (s.extract a s.size)).1 = 10 ∨ ((Lib.decodeGo (s.extract a s.size)).1 = 65533 ∧ (Lib.decodeGo (s.extract a s.size)).2 < 2) then none
  else some ((Lib.decodeGo (s.extract a s.size)).1, a + (Lib.decodeGo (s.extract a s.size)).2)

theorem decodeGo_le (s : ByteArray) (a : Nat) (ha : a ≤ s.size) : a + (Lib.decodeGo (s.extract a s.size)).2 ≤ s.size := by
  unfold Lib.decodeGo
  split
  · exact ha
  · rename_i h
    rw [Lib.ext_size] at h
    have hne : s.data.toList.drop a ≠ [] := by
      intro e
      have := congrArg List.length e
      rw [List.length_drop, Array.length_toList] at this
      have h2 : s.data.size = s.size := rfl
      simp at this
      omega
    have e1 : Utf8.decode (s.extract a s.size) 0 = Lib.decodeL (s.data.toList.drop a) := by
      rw [← Lib.ext_list]
      rfl
    rw [e1]
    have := Lib.decodeL_le _ hne
    rw [List.length_drop, Array.length_toList] at this
    have h2 : s.data.size = s.size := rfl
    omega

set_option maxHeartbeats 4000000 in
set_option maxRecDepth 100000 in
theorem char_total (w : World) (c : Nat) (s : ByteArray) (st a m : Nat) (hc : Cur w c s st a m) (hs : s.size ≤ 20000) (ha : a ≤ s.size) (hu : Utf8T w) :
    Calls Tryz.prog 61 #[.pointer (some ⟨c, 0, none⟩)] w fun e w' =>
      ((∃ r q, charM s a = some (r, q) ∧ e = .returned (.int .i32 r) ∧ Cur w' c s st q m) ∨ (charM s a = none ∧ e = .panicked (faultC st 31))) ∧ w.grownBy w' (some c) := by
  have HC := Lib.hid hc
  have HU := Lib.hid hu
  obtain ⟨R, hR⟩ : ∃ R, R = charM s a := ⟨_, rfl⟩
  rw [← hR]
  unfold charM at hR
  clear hc hu
  cases hb : hasB s a back1
  · rw [hb, if_neg (by decide)] at hR
    have HB : Hid (Lib.hasPrefix (s.extract a s.size).data.toList back1.data.toList = false) := hb
    have hle := decodeGo_le s a ha
    obtain ⟨X, K, hd⟩ : ∃ X K, Lib.decodeGo (s.extract a s.size) = (X, K) := ⟨_, _, rfl⟩
    rw [hd] at hR hle
    dsimp only at hR hle
    have HD := Lib.hid hd
    clear hb hd
    have tail : ∀ (R' : Bool), (R' = true ↔ (X = 10 ∨ (X = 65533 ∧ K < 2))) → Calls Tryz.prog 61 #[.pointer (some ⟨c, 0, none⟩)] w fun e w' =>
        ((R' = false ∧ e = .returned (.int .i32 X) ∧ Cur w' c s st (a + K) m) ∨ (R' = true ∧ e = .panicked (faultC st 31))) ∧ w.grownBy w' (some c) := by
      intro R' hR'
      have HR' := Lib.hid hR'
      clear hR' hR
      go_enter Tryz.func61, Tryz.ntmps61
      go_upto_region 3 with (go_at_call 20; refine (has_any s back1 c a _ (by omega) HC.out.text HC.out.pos).mono ?_; rintro e w' ⟨he, n, rfl⟩; rw [HB.out] at he; subst he)
      obtain ⟨wo, hwo⟩ : ∃ wo, wo = w.drewN n := ⟨_, rfl⟩
      have HCo : Hid (Cur wo c s st a m) := by rw [hwo]; exact HC.out.drew n
      have HGo : Hid (w.grownBy wo (some c)) := by rw [hwo]; exact grown_drewN _ _ _
      have HUo : Hid (Utf8T wo) := by rw [hwo]; exact HU.out
      have HZo : Hid (wo.heap.size = w.heap.size) := by rw [hwo]; exact rfl
      rw [← hwo]
      clear hwo
      have c0 := HCo.out.text
      have c2 := HCo.out.pos
      have f2 := HCo.out.free 2
      have i1 : (a : Int) ≤ s.size := by omega
      have i2 : (0 : Int) ≤ a := by omega
      have hlt := HCo.out.lt
      have e1 : IntKind.i64.wrap ((a : Int) + K) = (a : Int) + K := IntWalk.i64_in _ (by omega)
      go_region_held3 (fun w' => w'.cell? ⟨c, 0, none⟩ = some (.string s) ∧ w'.cell? ⟨c, 2, none⟩ = some (.int .i64 a)) (first | exact ⟨c0, c2⟩ | exact ⟨c4, c3⟩)
        (first | (go_at_call 80; refine (Tryz.utf8_DecodeRuneInString _ _ ?_).mono ?_; exact HUo.out; rintro e w3 ⟨he, hb3⟩; rw [HD.out] at he; subst he; have HC3 := Lib.hid (Cur.below (HCo.out.drew 1) hb3 hlt); have HB3 := Lib.hid hb3; have c4 := HC3.out.text; have c3 := HC3.out.pos; have f3 := HC3.out.free 2; clear hb3; go_simp))
      have HBo : Hid (Below w.heap.size wo w3) := by
        show Below _ _ _
        rw [← HZo.out]
        exact ⟨HB3.out.os, HB3.out.tape, HB3.out.output, HB3.out.size, HB3.out.block⟩
      have HG3 : Hid (w.grownBy w3 (some c)) := grown_below HGo.out HBo.out
      by_cases h10 : X = 10
      · subst h10
        go_wp2_with (go_at_call 52; refine (fail_any _ c s st a m 31 HC3.out).mono ?_; rintro e w' ⟨rfl, rfl⟩)
        exact ⟨rfl, .inr ⟨HR'.out.2 (by first | exact .inl rfl | simp), rfl⟩, HG3.out⟩
      · have n10 : ((X : Int) == 10) = false := by simp; omega
        by_cases hq : X = 65533
        · subst hq
          by_cases hk : K < 2
          · have l2 : (K : Int) < 2 := by omega
            go_wp2_with (go_at_call 52; refine (fail_any _ c s st a m 31 HC3.out).mono ?_; rintro e w' ⟨rfl, rfl⟩)
            exact ⟨rfl, .inr ⟨HR'.out.2 (by first | exact .inr ⟨rfl, hk⟩ | (simp; omega)), rfl⟩, HG3.out⟩
          · have l2 : ¬ (K : Int) < 2 := by omega
            have l3 : decide ((K : Int) < 2) = false := decide_eq_false l2
            go_wp2_with fail
            go_ret
            refine ⟨.inl ⟨?_, rfl, HC3.out.move (a + K) _ (by omega)⟩, HG3.out.trans (grown_set _ ⟨c, 2, none⟩ _)⟩
            cases hh : R'
            · rfl
            · rcases HR'.out.1 hh with h | h
              · omega
              · omega
        · have n3 : ((X : Int) == 65533) = false := by simp; omega
          go_wp2_with fail
          go_ret
          refine ⟨.inl ⟨?_, rfl, HC3.out.move (a + K) _ (by omega)⟩, HG3.out.trans (grown_set _ ⟨c, 2, none⟩ _)⟩
          cases hh : R'
          · rfl
          · rcases HR'.out.1 hh with h | h
            · omega
            · omega
    by_cases hbad : X = 10 ∨ (X = 65533 ∧ K < 2)
    · rw [if_pos hbad] at hR
      refine (tail true ⟨fun _ => hbad, fun _ => rfl⟩).mono ?_
      rintro e w' ⟨⟨h, _⟩ | ⟨_, he⟩, hg⟩
      · cases h
      · exact ⟨.inr ⟨hR, he⟩, hg⟩
    · rw [if_neg hbad] at hR
      refine (tail false ⟨fun h => by (cases h), fun h => absurd h hbad⟩).mono ?_
      rintro e w' ⟨⟨_, he, hcu⟩ | ⟨h, _⟩, hg⟩
      · exact ⟨.inl ⟨X, a + K, hR, he, hcu⟩, hg⟩
      · cases h
  · rw [hb, if_pos rfl] at hR
    have HB : Hid (Lib.hasPrefix (s.extract a s.size).data.toList back1.data.toList = true) := hb
    have HF := Lib.hid hR
    clear hb hR
    cases hm : escM s a with
    | none =>
      have HH : ∀ n, Hid (Calls Tryz.prog 79 #[.pointer (some ⟨c, 0, none⟩)] (w.drewN n) fun e w' => e = .panicked (faultC st 31) ∧ (w.drewN n).grownBy w' (some c)) := fun n => (escape_total _ c s st a m (HC.out.drew n) hs ha).mono fun e w' h => by
        rcases h with ⟨⟨r, q, hr, _⟩ | ⟨_, he⟩, hg⟩
        · rw [hm] at hr; cases hr
        · exact ⟨he, hg⟩
      have HN : Hid (R = none) := by show _ = _; rw [HF.out, hm]
      clear hm
      go_enter Tryz.func61, Tryz.ntmps61
      go_wp2_with (first | (go_at_call 20; refine (has_any s back1 c a _ (by omega) HC.out.text HC.out.pos).mono ?_; rintro e w' ⟨he, n, rfl⟩; rw [HB.out] at he; subst he) | (go_at_call 79; refine ((HH _).out).mono ?_; rintro e w' ⟨rfl, hgw⟩))
      exact ⟨rfl, .inr ⟨HN.out, rfl⟩, World.grownBy.trans (grown_drewN _ _ _) hgw⟩
    | some y =>
      obtain ⟨r, q⟩ := y
      have HH : ∀ n, Hid (Calls Tryz.prog 79 #[.pointer (some ⟨c, 0, none⟩)] (w.drewN n) fun e w' => e = .returned (.int .i32 r) ∧ Cur w' c s st q m ∧ (w.drewN n).grownBy w' (some c)) := fun n => (escape_total _ c s st a m (HC.out.drew n) hs ha).mono fun e w' h => by
        rcases h with ⟨⟨r', q', hr, he, hcu⟩ | ⟨hr, _⟩, hg⟩
        · rw [hm] at hr; cases hr; exact ⟨he, hcu, hg⟩
        · rw [hm] at hr; cases hr
      have HN : Hid (R = some (r, q)) := by show _ = _; rw [HF.out, hm]
      clear hm
      go_enter Tryz.func61, Tryz.ntmps61
      go_wp2_with (first | (go_at_call 20; refine (has_any s back1 c a _ (by omega) HC.out.text HC.out.pos).mono ?_; rintro e w' ⟨he, n, rfl⟩; rw [HB.out] at he; subst he) | (go_at_call 79; refine ((HH _).out).mono ?_; rintro e w' ⟨rfl, hcw, hgw⟩))
      go_ret
      exact ⟨.inl ⟨r, q, HN.out, rfl, hcw⟩, World.grownBy.trans (grown_drewN _ _ _) hgw⟩

end Tk
end Go.Proofs.YtmphkifhnjfkmaaGreatDoor

namespace Go.Proofs.YtmphkifhnjfkmaaGreatDoor
open Go.ChangeShapes Go.WideShapes Go.ChangeAt Go.RowKit Go.WideMaps Go.Maps
namespace Tk

theorem hexOk_in {s : ByteArray} {a n : Nat} (h : hexOk s a n = true) (h1 : 1 ≤ n) : a + n ≤ s.size := by
  have h2 := hexOk_all h (n - 1) (by omega)
  rcases Nat.lt_or_ge (a + (n - 1)) s.size with h3 | h3
  · omega
  · rw [byteAt_out h3] at h2
    exact absurd h2 (by decide)

theorem hexM_range {s : ByteArray} {a n : Nat} {most r : Int} (hn : n ≤ 6) (h1 : 1 ≤ n) (hm : most ≤ 1114111) (h : hexM s a n most = some r) : 0 ≤ r ∧ r ≤ 1114111 ∧ a + n ≤ s.size := by
  unfold hexM at h
  split at h
  · rename_i hok
    have hr := hexV_range s a n hn (fun j hj => hexOk_all hok j hj)
    split at h
    · split at h
      · cases h
        exact ⟨hr.1, by omega, hexOk_in hok h1⟩
      · cases h
    · cases h
  · cases h

theorem byteAt_lt {s : ByteArray} {a : Nat} {b : Int} (h : byteAt s a = b) (hb : b ≠ 0) : a < s.size := by
  rcases Nat.lt_or_ge a s.size with h1 | h1
  · exact h1
  · rw [byteAt_out h1] at h
    exact absurd h.symm hb

theorem escM_range {s : ByteArray} {a q : Nat} {r : Int} (h : escM s a = some (r, q)) : a < q ∧ q ≤ s.size ∧ 0 ≤ r ∧ r ≤ 1114111 := by
  unfold escM at h
  have lit : ∀ {b k : Int} {o : Option (Int × Nat)}, b ≠ 0 → 0 ≤ k → k ≤ 1114111 → byteAt s (a + 1) = b → some (k, a + 2) = some (r, q) → a < q ∧ q ≤ s.size ∧ 0 ≤ r ∧ r ≤ 1114111 := by
    intro b k _ hb h0 h1 hbb he
    cases he
    have := byteAt_lt hbb hb
    exact ⟨by omega, by omega, h0, h1⟩
  have hx : ∀ {n : Nat} {most : Int}, n ≤ 6 → 1 ≤ n → most ≤ 1114111 → (hexM s (a + 2) n most).map (fun r => (r, a + 2 + n)) = some (r, q) → a < q ∧ q ≤ s.size ∧ 0 ≤ r ∧ r ≤ 1114111 := by
    intro n most hn h1 hm he
    cases hh : hexM s (a + 2) n most with
    | none => rw [hh] at he; cases he
    | some z =>
      rw [hh] at he
      cases he
      obtain ⟨g1, g2, g3⟩ := hexM_range hn h1 hm hh
      exact ⟨by omega, g3, g1, g2⟩
  split at h
  · exact lit (o := none) (b := 110) (by decide) (by decide) (by decide) ‹_› h
  split at h
  · exact lit (o := none) (b := 116) (by decide) (by decide) (by decide) ‹_› h
  split at h
  · exact lit (o := none) (b := 114) (by decide) (by decide) (by decide) ‹_› h
  split at h
  · exact lit (o := none) (b := 48) (by decide) (by decide) (by decide) ‹_› h
  split at h
  · exact lit (o := none) (b := 92) (by decide) (by decide) (by decide) ‹_› h
  split at h
  · exact lit (o := none) (b := 34) (by decide) (by decide) (by decide) ‹_› h
  split at h
  · exact lit (o := none) (b := 39) (by decide) (by decide) (by decide) ‹_› h
  split at h
  · exact hx (by decide) (by decide) (by decide) h
  split at h
  · exact hx (by decide) (by decide) (by decide) h
  split at h
  · exact hx (by decide) (by decide) (by decide) h
  · cases h

theorem charM_range {s : ByteArray} {a q : Nat} {r : Int} (ha : a ≤ s.size) (h : charM s a = some (r, q)) : a < q ∧ q ≤ s.size ∧ 0 ≤ r ∧ r ≤ 1114111 := by
  unfold charM at h
  split at h
  · exact escM_range h
  · split at h
    · cases h
    · rename_i hbad
      cases h
      have hle := decodeGo_le s a ha
      have hz : (s.extract a s.size).size ≠ 0 := by
        intro e
        apply hbad
        unfold Lib.decodeGo
        rw [if_pos e]
        exact .inr ⟨rfl, by decide⟩
      have e1 : Lib.decodeGo (s.extract a s.size) = Lib.decodeL (s.data.toList.drop a) := by
        unfold Lib.decodeGo
        rw [if_neg hz, ← Lib.ext_list]
        rfl
      have hw := Lib.decodeL_width (s.data.toList.drop a)
      have hr := Lib.decodeL_rune (s.data.toList.drop a)
      rw [e1] at hle ⊢
      exact ⟨by omega, hle, by omega, by omega⟩

/-- The characters up to a quote, and where it stands. -/
def litF (s : ByteArray) : Nat → Nat → Option (List Int × Nat)
  | 0, _ => none
  | n + 1, p => if byteAt s p = 34 then some ([], p) else
    match charM s p with
    | none => none
    | some (r, p2) => (litF s n p2).map fun x => (r :: x.1, x.2)

theorem char_at {s : ByteArray} {p p2 : Nat} {r : Int} (hs : s.size ≤ 20000) (hp : p ≤ s.size) (h : charM s p = some (r, p2)) : CharAt s p r p2 := by
  intro w c st m hc hu _ _
  refine (char_total w c s st p m hc hs hp hu).mono ?_
  rintro e w' ⟨⟨r', q', hr, he, hcu⟩ | ⟨hr, _⟩, hg⟩
  · rw [h] at hr
    cases hr
    exact ⟨he, hcu, hg⟩
  · rw [h] at hr
    cases hr

theorem litF_ok {s : ByteArray} (hs : s.size ≤ 20000) : ∀ (n p : Nat) (rs : List Int) (q : Nat), p ≤ s.size → litF s n p = some (rs, q) → Lit s p rs q
  | 0, _, _, _, _, h => by cases h
  | n + 1, p, rs, q, hp, h => by
    unfold litF at h
    split at h
    · rename_i hb
      cases h
      exact .done p hb
    · rename_i hb
      split at h
      · cases h
      · rename_i r p2 hch
        obtain ⟨g1, g2, g3, g4⟩ := charM_range hp hch
        cases hl : litF s n p2 with
        | none => rw [hl] at h; cases h
        | some x =>
          rw [hl] at h
          cases h
          exact .step p r p2 x.1 x.2 hb (char_at hs hp hch) g1 g2 g3 g4 (litF_ok hs n p2 x.1 x.2 g2 hl)

/-- Characters up to one that is none. -/
inductive LitBad (s : ByteArray) : Nat → Prop
  | here (p : Nat) (h : byteAt s p ≠ 34) (hc : charM s p = none) : LitBad s p
  | step (p : Nat) (r : Int) (p2 : Nat) (h : byteAt s p ≠ 34) (hc : CharAt s p r p2) (hlt : p < p2) (hle : p2 ≤ s.size) (h0 : 0 ≤ r) (h1 : r ≤ 1114111) (hn : LitBad s p2) : LitBad s p

theorem litF_bad {s : ByteArray} (hs : s.size ≤ 20000) : ∀ (n p : Nat), p ≤ s.size → s.size < n + p → litF s n p = none → LitBad s p
  | 0, _, _, _, _ => by omega
  | n + 1, p, hp, hn, h => by
    unfold litF at h
    split at h
    · cases h
    · rename_i hb
      split at h
      · rename_i hch
        exact .here p hb hch
      · rename_i r p2 hch
        obtain ⟨g1, g2, g3, g4⟩ := charM_range hp hch
        refine .step p r p2 hb (char_at hs hp hch) g1 g2 g3 g4 (litF_bad hs n p2 g2 (by omega) ?_)
        cases hl : litF s n p2 with
        | none => rfl
        | some x => rw [hl] at h; cases h

set_option maxHeartbeats 4000000 in
theorem line_bad (w : World) (c : Nat) (s : ByteArray) (st a m : Nat) (hc : Cur w c s st a m) (hs : s.size ≤ 20000) (ha : a < s.size) (hL : LitBad s (a + 1)) (hu : Utf8T w) (h1c : 3 ≠ c) (h2c : 4 ≠ c) :
    Calls Tryz.prog 37 #[.pointer (some ⟨c, 0, none⟩)] w fun e w' => e = .panicked (faultC st 31) ∧ w.grownBy w' (some c) := by
  have hlt := hc.lt
  obtain ⟨wx, hwx⟩ : ∃ wx, wx = w.alloc (.cells #[.pointer none, .slice none 0 0] 46) := ⟨_, rfl⟩
  have hsx : wx.heap.size = w.heap.size + 1 := by rw [hwx]; simp
  have HGx : Hid (w.grownBy wx (some c)) := by rw [hwx]; exact World.grownBy_alloc w _ _
  have HCx : Hid (Cur wx c s st a m) := by rw [hwx]; exact hc.kept (World.grownBy_alloc w _ none) (by simp)
  have HBx : Hid (Lib.IsBuilderF 46 5 w.heap.size w.heap.size (Lib.byteCells []) wx) := by
    rw [hwx]
    exact .inl ⟨Nat.le_refl _, .slice none 0 0, World.alloc_heap_new w _, World.ownsRowF_nil _ _ _ _, by simp [Value.ownBlock]⟩
  have HWx := Lib.hid hwx
  have HL := Lib.hid hL
  have HU := Lib.hid hu
  have H1c := Lib.hid h1c
  have H2c := Lib.hid h2c
  clear hc hwx hL hu h1c h2c
  have c2 := HCx.out.pos
  have f2 := HCx.out.free 2
  have e1 : IntKind.i64.wrap ((a : Int) + 1) = (a : Int) + 1 := IntWalk.i64_in _ (by omega)
  go_enter Tryz.func37, Tryz.ntmps37
  go_upto_region 2 with (fail)
  rw [← HWx.out]
  go_wp2_with fail
  obtain ⟨wy, hwy⟩ : ∃ wy, wy = wx.setCell ⟨c, 2, none⟩ (.int .i64 ((a : Int) + 1)) := ⟨_, rfl⟩
  have HCy : Hid (Cur wy c s st (a + 1) m) := by rw [hwy]; exact HCx.out.move (a + 1) _ (by omega)
  have HGy : Hid (wx.grownBy wy (some c)) := by rw [hwy]; exact grown_set _ ⟨c, 2, none⟩ _
  have HBy := Lib.hid (builder_kept HBx.out HGy.out hlt)
  rw [← hwy]
  clear hwy c2 f2 e1
  go_loopw [] (fun wr => ∃ (p : Nat) (bs : List UInt8), p ≤ s.size ∧ Cur wr c s st p m ∧ LitBad s p ∧ Lib.IsBuilderF 46 5 w.heap.size w.heap.size (Lib.byteCells bs) wr ∧ bs.length ≤ 4 * p ∧ w.grownBy wr (some c)) (fun wr => s.size - posOf wr c)
  case atStart => exact ⟨a + 1, [], by omega, HCy.out, HL.out, HBy.out, by simp, HGx.out.trans HGy.out⟩
  case round =>
    obtain ⟨p, bs, hps, hcp, hlp, hbp, hln, hg⟩ := hrel
    have HCP := Lib.hid hcp
    have HBP := Lib.hid hbp
    have HG := Lib.hid hg
    clear hcp hbp hg HCy HGy HBy
    have hgs := HG.out.size
    have HU2 : ∀ n, Hid (Utf8T (wr.drewN n)) := fun n => utf8_grown HU.out (HG.out.trans (grown_drewN wr n _)) (fun e => H1c.out (Option.some.inj e)) (fun e => H2c.out (Option.some.inj e))
    cases hlp with
    | here _ h hch =>
      have hB : (byteAt s p == 34) = false := by simpa using h
      have HH : ∀ n, Hid (Calls Tryz.prog 61 #[.pointer (some ⟨c, 0, none⟩)] (wr.drewN n) fun e w' => e = .panicked (faultC st 31) ∧ (wr.drewN n).grownBy w' (some c)) := fun n => (char_total _ c s st p m (HCP.out.drew n) hs hps (HU2 n).out).mono fun e w' h => by
        rcases h with ⟨⟨r, q, hr, _⟩ | ⟨_, he⟩, hg⟩
        · rw [hch] at hr; cases hr
        · exact ⟨he, hg⟩
      clear h hch
      go_wp2_with (first | (go_at_call 55; refine (peek0 s p c _ hs (by omega) HCP.out.text HCP.out.pos).mono ?_; rintro e w' ⟨rfl, n, rfl⟩) | (go_at_call 61; refine ((HH _).out).mono ?_; rintro e w' ⟨rfl, hgw⟩))
      exact ⟨rfl, rfl, (HG.out.trans (grown_drewN _ _ _)).trans hgw⟩
    | step _ r p2 h hch hlt2 hle h0 h1 hn =>
      have hB : (byteAt s p == 34) = false := by simpa using h
      have HCh := Lib.hid hch
      have HN := Lib.hid hn
      clear h hch hn
      go_wp2_with (go_at_call 55; refine (peek0 s p c _ hs (by omega) HCP.out.text HCP.out.pos).mono ?_; rintro e w' ⟨rfl, n, rfl⟩)
      refine (HCh.out _ c st m (HCP.out.drew n) (HU2 n).out H1c.out H2c.out).mono ?_
      rintro e w2 ⟨rfl, hC2, hg2⟩
      have hgm : wr.grownBy w2 (some c) := (grown_drewN wr n _).trans hg2
      have HBB := Lib.hid (builder_kept HBP.out hgm hlt)
      have HC2 := Lib.hid hC2
      have HG2 := Lib.hid hgm
      have hz2 := hgm.size
      clear hC2 hg2 hgm
      have hr4 := Lib.runeCells_le r
      rw [Lib.runeCells_length] at hr4
      go_wp2_with fail
      refine (writeRune_any w.heap.size w.heap.size (Lib.byteCells bs) r (by omega) (by omega) _ HBB.out (by rw [Lib.byteCells_length]; omega) (by omega)).mono ?_
      rintro e w3 ⟨rfl, hb3, hbl, _⟩
      have hC3 := HC2.out.below hbl hlt
      go_wp2_with fail
      refine ⟨⟨p2, bs ++ Lib.encodeRune r, hle, hC3, HN.out, .inr ?_, ?_, ?_⟩, ?_⟩
      · rw [Lib.byteCells_append, Lib.byteCells_encodeRune]
        exact hb3
      · rw [List.length_append]
        omega
      · exact grown_below (HG.out.trans HG2.out) hbl
      · rw [hC3.posOf, HCP.out.posOf]
        omega

end Tk
end Go.Proofs.YtmphkifhnjfkmaaGreatDoor

namespace Go.Proofs.YtmphkifhnjfkmaaGreatDoor
open Go.ChangeShapes Go.WideShapes Go.ChangeAt Go.RowKit Go.WideMaps Go.Maps
namespace Tk

/-- The number of a character between primes, and where it ends. -/
def chrM (s : ByteArray) (a : Nat) : Option (Int × Nat) :=
  if byteAt s (a + 1) = 39 then none else
  match charM s (a + 1) with
  | none => none
  | some (r, q) => if byteAt s q = 39 then some (r, q + 1) else none

set_option maxHeartbeats 4000000 in
theorem character_total (w : World) (c : Nat) (s : ByteArray) (st a m : Nat) (hc : Cur w c s st a m) (hs : s.size ≤ 20000) (ha : a < s.size) (hu : Utf8T w) (h1c : 3 ≠ c) (h2c : 4 ≠ c) (hp : Pow10 w) (h8 : c ≠ 8) :
    Calls Tryz.prog 33 #[.pointer (some ⟨c, 0, none⟩)] w fun e w' =>
      ((∃ r q, chrM s a = some (r, q) ∧ e = .returned (.string ⟨(Lib.itoa r).toArray⟩) ∧ Cur w' c s st q m) ∨ (chrM s a = none ∧ e = .panicked (faultC st 31))) ∧ w.grownBy w' (some c) := by
  have hlt := hc.lt
  have HC := Lib.hid hc
  have HU := Lib.hid hu
  have H1c := Lib.hid h1c
  have H2c := Lib.hid h2c
  have HP := Lib.hid hp
  obtain ⟨R, hR⟩ : ∃ R, R = chrM s a := ⟨_, rfl⟩
  rw [← hR]
  unfold chrM at hR
  have c2 := HC.out.pos
  have f2 := HC.out.free 2
  have e1 : IntKind.i64.wrap ((a : Int) + 1) = (a : Int) + 1 := IntWalk.i64_in _ (by omega)
  clear hc hu h1c h2c hp
  obtain ⟨wy, hwy⟩ : ∃ wy, wy = w.setCell ⟨c, 2, none⟩ (.int .i64 ((a : Int) + 1)) := ⟨_, rfl⟩
  have HCy : Hid (Cur wy c s st (a + 1) m) := by rw [hwy]; exact HC.out.move (a + 1) _ (by omega)
  have HGy : Hid (w.grownBy wy (some c)) := by rw [hwy]; exact grown_set _ ⟨c, 2, none⟩ _
  have HUy : Hid (Utf8T wy) := utf8_grown HU.out HGy.out (fun e => H1c.out (Option.some.inj e)) (fun e => H2c.out (Option.some.inj e))
  have HWy := Lib.hid hwy
  clear hwy
  by_cases h39 : byteAt s (a + 1) = 39
  · rw [if_pos h39] at hR
    have HN := Lib.hid hR
    have HB := Lib.hid h39
    clear hR h39
    go_enter Tryz.func33, Tryz.ntmps33
    go_upto_region 2 with (fail)
    rw [← HWy.out]
    clear c2 f2
    go_wp2_with (first | (go_at_call 55; refine (peek0 s (a + 1) c _ hs (by omega) HCy.out.text HCy.out.pos).mono ?_; rintro e w' ⟨he, n, rfl⟩; rw [HB.out] at he; subst he) | (go_at_call 52; refine (fail_any _ c s st (a + 1) m 31 (HCy.out.drew _)).mono ?_; rintro e w' ⟨rfl, rfl⟩))
    exact ⟨rfl, .inr ⟨HN.out, rfl⟩, HGy.out.trans (grown_drewN _ _ _)⟩
  · rw [if_neg h39] at hR
    have n39 : (byteAt s (a + 1) == 39) = false := by simpa using h39
    have N39 := Lib.hid n39
    clear h39
    cases hm : charM s (a + 1) with
    | none =>
      rw [hm] at hR
      have HN : Hid (R = none) := hR
      have HH : ∀ n, Hid (Calls Tryz.prog 61 #[.pointer (some ⟨c, 0, none⟩)] (wy.drewN n) fun e w' => e = .panicked (faultC st 31) ∧ (wy.drewN n).grownBy w' (some c)) := fun n => (char_total _ c s st (a + 1) m (HCy.out.drew n) hs (by omega) HUy.out).mono fun e w' h => by
        rcases h with ⟨⟨r, q, hr, _⟩ | ⟨_, he⟩, hg⟩
        · rw [hm] at hr; cases hr
        · exact ⟨he, hg⟩
      clear hR hm
      go_enter Tryz.func33, Tryz.ntmps33
      go_upto_region 2 with (fail)
      rw [← HWy.out]
      clear c2 f2
      go_wp2_with (first | (go_at_call 55; refine (peek0 s (a + 1) c _ hs (by omega) HCy.out.text HCy.out.pos).mono ?_; rintro e w' ⟨rfl, n, rfl⟩) | (go_at_call 61; refine ((HH _).out).mono ?_; rintro e w' ⟨rfl, hgw⟩))
      exact ⟨rfl, .inr ⟨HN.out, rfl⟩, (HGy.out.trans (grown_drewN _ _ _)).trans hgw⟩
    | some y =>
      obtain ⟨r, q⟩ := y
      obtain ⟨g1, g2, g3, g4⟩ := charM_range (by omega) hm
      rw [hm] at hR
      dsimp only at hR
      have HH : ∀ n, Hid (Calls Tryz.prog 61 #[.pointer (some ⟨c, 0, none⟩)] (wy.drewN n) fun e w' => e = .returned (.int .i32 r) ∧ Cur w' c s st q m ∧ (wy.drewN n).grownBy w' (some c)) := fun n => (char_total _ c s st (a + 1) m (HCy.out.drew n) hs (by omega) HUy.out).mono fun e w' h => by
        rcases h with ⟨⟨r', q', hr, he, hcu⟩ | ⟨hr, _⟩, hg⟩
        · rw [hm] at hr; cases hr; exact ⟨he, hcu, hg⟩
        · rw [hm] at hr; cases hr
      clear hm
      have e2 : IntKind.i64.wrap ((q : Int) + 1) = (q : Int) + 1 := IntWalk.i64_in _ (by omega)
      have e3 : IntKind.i64.wrap r = r := IntWalk.i64_in _ (by omega)
      go_enter Tryz.func33, Tryz.ntmps33
      go_upto_region 2 with (fail)
      rw [← HWy.out]
      clear c2 f2
      go_upto_region 4 with (go_at_call 55; refine (peek0 s (a + 1) c _ hs (by omega) HCy.out.text HCy.out.pos).mono ?_; rintro e w' ⟨he, n, rfl⟩; subst he)
      go_upto_region 5 with (go_at_call 61; refine ((HH _).out).mono ?_; rintro e w2 ⟨rfl, hcw, hgw⟩)
      have HC2 := Lib.hid hcw
      have HG2 : Hid (w.grownBy w2 (some c)) := (HGy.out.trans (grown_drewN _ _ _)).trans hgw
      clear hcw hgw
      by_cases hq : byteAt s q = 39
      · rw [if_pos hq] at hR
        have HN := Lib.hid hR
        have HB := Lib.hid hq
        clear hR hq
        go_upto_region 7 with (go_at_call 55; refine (peek0 s q c _ hs (by omega) HC2.out.text HC2.out.pos).mono ?_; rintro e w' ⟨he, n2, rfl⟩; rw [HB.out] at he; subst he)
        obtain ⟨w3, hw3⟩ : ∃ w3, w3 = w2.drewN n2 := ⟨_, rfl⟩
        have HC3 : Hid (Cur w3 c s st q m) := by rw [hw3]; exact HC2.out.drew n2
        have HG3 : Hid (w.grownBy w3 (some c)) := by rw [hw3]; exact HG2.out.trans (grown_drewN _ _ _)
        rw [← hw3]
        clear hw3
        have c2 := HC3.out.pos
        have f2 := HC3.out.free 2
        have HG4 : Hid (w.grownBy (w3.setCell ⟨c, 2, none⟩ (.int .i64 ((q : Int) + 1))) (some c)) := HG3.out.trans (grown_set _ ⟨c, 2, none⟩ _)
        have HP4 : Hid (Pow10 (w3.setCell ⟨c, 2, none⟩ (.int .i64 ((q : Int) + 1)))) := tabIs_grown pow10_at HP.out HG4.out (fun e => h8 (Option.some.inj e).symm)
        have HC4 : Hid (Cur (w3.setCell ⟨c, 2, none⟩ (.int .i64 ((q : Int) + 1))) c s st (q + 1) m) := HC3.out.move (q + 1) _ (by omega)
        go_wp2_with (go_at_call 62; refine (Tryz.strconv_Itoa _ (by omega) (by omega) _ HP4.out).mono ?_; rintro e w' ⟨rfl, k, os, rfl⟩)
        go_ret
        refine ⟨.inl ⟨r, q + 1, HN.out, rfl, ?_⟩, ?_⟩
        · exact HC4.out.kept (grown_grow _ k os) (by simp)
        · exact HG4.out.trans (grown_row (grown_grow _ k os) c)
      · rw [if_neg hq] at hR
        have HN := Lib.hid hR
        have nq : (byteAt s q == 39) = false := by simpa using hq
        clear hR hq
        go_wp2_with (first | (go_at_call 55; refine (peek0 s q c _ hs (by omega) HC2.out.text HC2.out.pos).mono ?_; rintro e w' ⟨he, n2, rfl⟩; subst he) | (go_at_call 52; refine (fail_any _ c s st q m 31 (HC2.out.drew _)).mono ?_; rintro e w' ⟨rfl, rfl⟩))
        exact ⟨rfl, .inr ⟨HN.out, rfl⟩, HG2.out.trans (grown_drewN _ _ _)⟩

end Tk
end Go.Proofs.YtmphkifhnjfkmaaGreatDoor

namespace Go.Proofs.YtmphkifhnjfkmaaGreatDoor
open Go.ChangeShapes Go.WideShapes Go.ChangeAt Go.RowKit
namespace Tk

theorem valid_any (s : ByteArray) (w : World) (hs : s.size ≤ 2000000) (hT : Utf8T w) :
    Calls Tryz.prog 51 #[.string s] w fun e w' => e = .returned (.bool (Lib.validD s.data.toList)) ∧ Below w.heap.size w w' :=
  Any.utf8_ValidString Tryz.lays196 s w (by omega) hT

theorem below_drewN (B : Nat) (w : World) (n : Nat) : Below B w (w.drewN n) := ⟨rfl, rfl, rfl, Nat.le_refl _, fun _ _ => rfl⟩

end Tk
end Go.Proofs.YtmphkifhnjfkmaaGreatDoor

namespace Go.Proofs.YtmphkifhnjfkmaaGreatDoor
open Go.ChangeShapes Go.WideShapes Go.ChangeAt Go.RowKit Go.WideMaps Go.Maps
namespace Tk

set_option maxHeartbeats 1000000 in
set_option maxRecDepth 100000 in
theorem comment_none (w : World) (c : Nat) (s : ByteArray) (st a m : Nat) (hc : Cur w c s st a m) (_ : s.size ≤ 20000) :
    Calls Tryz.prog 21 #[.pointer (some ⟨c, 0, none⟩), .int .i64 (-1)] w fun e w' => e = .panicked (faultC a 32) ∧ w.grownBy w' (some c) := by
  have HC := Lib.hid hc
  clear hc
  have c1 := HC.out.start
  have c2 := HC.out.pos
  have f1 := HC.out.free 1
  go_enter Tryz.func21, Tryz.ntmps21
  go_upto_region 1 with (fail)
  obtain ⟨wx, hwx⟩ : ∃ wx, wx = w.setCell ⟨c, 1, none⟩ (.int .i64 a) := ⟨_, rfl⟩
  have HCx : Hid (Cur wx c s a a m) := by rw [hwx]; exact HC.out.begin a
  have HGx : Hid (w.grownBy wx (some c)) := by rw [hwx]; exact grown_set _ ⟨c, 1, none⟩ _
  rw [← hwx]
  clear hwx c1 c2 f1 HC
  have c0 := HCx.out.text
  have c2 := HCx.out.pos
  go_quiet (fail)
  go_wp2_with (go_at_call 52; refine (fail_any _ c s a a m 32 (HCx.out.drew _)).mono ?_; rintro e w' ⟨rfl, rfl⟩)
  exact ⟨rfl, rfl, HGx.out.trans (grown_drewN _ _ _)⟩

set_option maxHeartbeats 2000000 in
set_option maxRecDepth 100000 in
theorem comment_ok (w : World) (c : Nat) (s : ByteArray) (st a b m : Nat) (hc : Cur w c s st a m) (hs : s.size ≤ 20000) (hu : Utf8T w) (h1 : 3 ≠ c) (h2 : 4 ≠ c) (hab : a ≤ b) (hb : b ≤ s.size) (hv : Lib.validD (s.extract a b).data.toList = true) :
    Calls Tryz.prog 21 #[.pointer (some ⟨c, 0, none⟩), .int .i64 b] w fun e w' => e = .returned (.tuple #[]) ∧ Cur w' c s a b m ∧ w.grownBy w' (some c) := by
  have HC := Lib.hid hc
  have HU := Lib.hid hu
  have HV := Lib.hid hv
  have hz : (s.extract a b).size ≤ 2000000 := by rw [ByteArray.size_extract]; omega
  have HZ := Lib.hid hz
  have H1 := Lib.hid h1
  have H2 := Lib.hid h2
  clear hc hu hv hz h1 h2
  have c1 := HC.out.start
  have c2 := HC.out.pos
  have f1 := HC.out.free 1
  go_enter Tryz.func21, Tryz.ntmps21
  go_upto_region 1 with (fail)
  obtain ⟨wx, hwx⟩ : ∃ wx, wx = w.setCell ⟨c, 1, none⟩ (.int .i64 a) := ⟨_, rfl⟩
  have HCx : Hid (Cur wx c s a a m) := by rw [hwx]; exact HC.out.begin a
  have HGx : Hid (w.grownBy wx (some c)) := by rw [hwx]; exact grown_set _ ⟨c, 1, none⟩ _
  have HUx : Hid (Utf8T wx) := utf8_grown HU.out HGx.out (fun e => H1.out (Option.some.inj e)) (fun e => H2.out (Option.some.inj e))
  rw [← hwx]
  clear hwx c1 c2 f1 HC
  have c0 := HCx.out.text
  have c2 := HCx.out.pos
  have hlt := HCx.out.lt
  have i0 : (0 : Int) ≤ b := by omega
  have i1 : (a : Int) ≤ b := by omega
  have i2 : (b : Int) ≤ s.size := by omega
  have i3 : (0 : Int) ≤ a := by omega
  have i4 : ¬ (b : Int) < 0 := by omega
  have i5 : decide ((b : Int) < 0) = false := decide_eq_false i4
  go_region_held3 (fun w' => w'.cell? ⟨c, 0, none⟩ = some (.string s) ∧ w'.cell? ⟨c, 2, none⟩ = some (.int .i64 a)) (first | exact ⟨c0, c2⟩ | exact ⟨c4, c3⟩)
    (first | (go_at_call 51; refine (valid_any _ _ HZ.out ?_).mono ?_; exact HUx.out; rintro e w3 ⟨he, hb3⟩; rw [HV.out] at he; subst he; have HC3 := Lib.hid (Cur.below (HCx.out.drew 1) hb3 hlt); have HB3 := Lib.hid hb3; have c4 := HC3.out.text; have c3 := HC3.out.pos; have f3 := HC3.out.free 2; clear hb3; go_simp))
  have HBo : Hid (Below wx.heap.size wx w3) := ⟨HB3.out.os, HB3.out.tape, HB3.out.output, HB3.out.size, HB3.out.block⟩
  have hgz := HGx.out.size
  have HGo : Hid (w.grownBy w3 (some c)) := grown_below HGx.out (HBo.out.mono hgz)
  go_wp2_with fail
  refine bodyPost_end (v := .tuple #[]) (by simp [results, Tryz.results21]) rfl ?_
  exact ⟨rfl, HC3.out.move b _ rfl, HGo.out.trans (grown_set _ ⟨c, 2, none⟩ _)⟩

set_option maxHeartbeats 2000000 in
set_option maxRecDepth 100000 in
theorem comment_bad (w : World) (c : Nat) (s : ByteArray) (st a b m : Nat) (hc : Cur w c s st a m) (hs : s.size ≤ 20000) (hu : Utf8T w) (h1 : 3 ≠ c) (h2 : 4 ≠ c) (hab : a ≤ b) (hb : b ≤ s.size) (hv : Lib.validD (s.extract a b).data.toList = false) :
    Calls Tryz.prog 21 #[.pointer (some ⟨c, 0, none⟩), .int .i64 b] w fun e w' => e = .panicked (faultC a 32) ∧ w.grownBy w' (some c) := by
  have HC := Lib.hid hc
  have HU := Lib.hid hu
  have HV := Lib.hid hv
  have hz : (s.extract a b).size ≤ 2000000 := by rw [ByteArray.size_extract]; omega
  have HZ := Lib.hid hz
  have H1 := Lib.hid h1
  have H2 := Lib.hid h2
  clear hc hu hv hz h1 h2
  have c1 := HC.out.start
  have c2 := HC.out.pos
  have f1 := HC.out.free 1
  go_enter Tryz.func21, Tryz.ntmps21
  go_upto_region 1 with (fail)
  obtain ⟨wx, hwx⟩ : ∃ wx, wx = w.setCell ⟨c, 1, none⟩ (.int .i64 a) := ⟨_, rfl⟩
  have HCx : Hid (Cur wx c s a a m) := by rw [hwx]; exact HC.out.begin a
  have HGx : Hid (w.grownBy wx (some c)) := by rw [hwx]; exact grown_set _ ⟨c, 1, none⟩ _
  have HUx : Hid (Utf8T wx) := utf8_grown HU.out HGx.out (fun e => H1.out (Option.some.inj e)) (fun e => H2.out (Option.some.inj e))
  rw [← hwx]
  clear hwx c1 c2 f1 HC
  have c0 := HCx.out.text
  have c2 := HCx.out.pos
  have hlt := HCx.out.lt
  have i0 : (0 : Int) ≤ b := by omega
  have i1 : (a : Int) ≤ b := by omega
  have i2 : (b : Int) ≤ s.size := by omega
  have i3 : (0 : Int) ≤ a := by omega
  have i4 : ¬ (b : Int) < 0 := by omega
  have i5 : decide ((b : Int) < 0) = false := decide_eq_false i4
  go_region_held3 (fun w' => w'.cell? ⟨c, 0, none⟩ = some (.string s) ∧ w'.cell? ⟨c, 2, none⟩ = some (.int .i64 a)) (first | exact ⟨c0, c2⟩ | exact ⟨c4, c3⟩)
    (first | (go_at_call 51; refine (valid_any _ _ HZ.out ?_).mono ?_; exact HUx.out; rintro e w3 ⟨he, hb3⟩; rw [HV.out] at he; subst he; have HC3 := Lib.hid (Cur.below (HCx.out.drew 1) hb3 hlt); have HB3 := Lib.hid hb3; have c4 := HC3.out.text; have c3 := HC3.out.pos; have f3 := HC3.out.free 2; clear hb3; go_simp))
  have HBo : Hid (Below wx.heap.size wx w3) := ⟨HB3.out.os, HB3.out.tape, HB3.out.output, HB3.out.size, HB3.out.block⟩
  have hgz := HGx.out.size
  have HGo : Hid (w.grownBy w3 (some c)) := grown_below HGx.out (HBo.out.mono hgz)
  go_wp2_with (go_at_call 52; refine (fail_any _ c s a a m 32 HC3.out).mono ?_; rintro e w' ⟨rfl, rfl⟩)
  exact ⟨rfl, rfl, HGo.out⟩

end Tk
end Go.Proofs.YtmphkifhnjfkmaaGreatDoor

namespace Go.Proofs.YtmphkifhnjfkmaaGreatDoor
open Go.ChangeShapes Go.WideShapes Go.ChangeAt Go.RowKit Go.WideMaps Go.Maps
namespace Tk

theorem index_bound (s sub : List UInt8) : Lib.index s sub = -1 ∨ (0 ≤ Lib.index s sub ∧ Lib.index s sub + sub.length ≤ s.length) := by
  induction s with
  | nil =>
    unfold Lib.index
    split
    · rename_i h
      right
      have : sub = [] := by simpa using h
      subst this
      exact ⟨by decide, by decide⟩
    · exact .inl rfl
  | cons b l ih =>
    unfold Lib.index
    split
    · rename_i h
      right
      have := (List.isPrefixOf_iff_prefix.1 h).length_le
      exact ⟨by decide, by omega⟩
    · split
      · exact .inl rfl
      · rename_i h
        right
        rcases ih with h1 | ⟨h1, h2⟩
        · rw [h1] at h
          exact absurd rfl h
        · rw [List.length_cons]
          exact ⟨by omega, by omega⟩

def findQ (s : ByteArray) (p : Nat) : Int := Lib.index (s.extract p s.size).data.toList quote3.data.toList

theorem findQ_range (s : ByteArray) (p : Nat) (hp : p ≤ s.size) : findQ s p = -1 ∨ (0 ≤ findQ s p ∧ findQ s p + 3 ≤ s.size - p) := by
  have h := index_bound (s.extract p s.size).data.toList quote3.data.toList
  unfold findQ
  rcases h with h | ⟨h1, h2⟩
  · exact .inl h
  · right
    rw [ext_len, Nat.min_self] at h2
    have h3 : (quote3.data.toList.length : Int) = 3 := rfl
    exact ⟨h1, by omega⟩

/-- Where the text between three quotes ends. -/
def blkM (s : ByteArray) (a : Nat) : Option Nat :=
  if findQ s (a + 3) = -1 then none
  else if Lib.validD (s.extract (a + 3) (a + 3 + (findQ s (a + 3)).toNat)).data.toList = true then some (a + 3 + (findQ s (a + 3)).toNat) else none

set_option maxHeartbeats 4000000 in
set_option maxRecDepth 100000 in
theorem block_total (w : World) (c : Nat) (s : ByteArray) (st a m : Nat) (mm : Int) (hc : Cur w c s st a m) (hs : s.size ≤ 20000) (ha : a + 3 ≤ s.size) (hu : Utf8T w) (h1c : 3 ≠ c) (h2c : 4 ≠ c) (hml : w.cell? ⟨5, 0, none⟩ = some (.int .i64 mm)) (h5c : 5 ≠ c) :
    Calls Tryz.prog 35 #[.pointer (some ⟨c, 0, none⟩)] w fun e w' =>
      ((∃ q, blkM s a = some q ∧ e = .returned (.string (s.extract (a + 3) q)) ∧ Cur w' c s st (q + 3) m) ∨ (blkM s a = none ∧ e = .panicked (faultC st 31))) ∧ w.grownBy w' (some c) := by
  have hlt := hc.lt
  have HC := Lib.hid hc
  have HU := Lib.hid hu
  have H1c := Lib.hid h1c
  have H2c := Lib.hid h2c
  obtain ⟨R, hR⟩ : ∃ R, R = blkM s a := ⟨_, rfl⟩
  rw [← hR]
  unfold blkM at hR
  have c2 := HC.out.pos
  have f2 := HC.out.free 2
  have e1 : IntKind.i64.wrap ((a : Int) + 3) = (a : Int) + 3 := IntWalk.i64_in _ (by omega)
  clear hc hu h1c h2c
  obtain ⟨wy, hwy⟩ : ∃ wy, wy = w.setCell ⟨c, 2, none⟩ (.int .i64 ((a : Int) + 3)) := ⟨_, rfl⟩
  have HCy : Hid (Cur wy c s st (a + 3) m) := by rw [hwy]; exact HC.out.move (a + 3) _ (by omega)
  have HGy : Hid (w.grownBy wy (some c)) := by rw [hwy]; exact grown_set _ ⟨c, 2, none⟩ _
  have HUy : Hid (Utf8T wy) := utf8_grown HU.out HGy.out (fun e => H1c.out (Option.some.inj e)) (fun e => H2c.out (Option.some.inj e))
  have HMy : Hid (wy.cell? ⟨5, 0, none⟩ = some (.int .i64 mm)) := cell_grown hml HGy.out (fun e => h5c (Option.some.inj e))
  have HWy := Lib.hid hwy
  clear hwy hml h5c
  obtain ⟨z, hz⟩ : ∃ z, z = findQ s (a + 3) := ⟨_, rfl⟩
  have hzr := findQ_range s (a + 3) ha
  rw [← hz] at hR hzr
  have hIX : ∀ n, Calls Tryz.prog 53 #[.string (s.extract (a + 3) s.size), .string quote3] (wy.drewN n) fun e w' => e = .returned (.int .i64 z) ∧ w' = wy.drewN n := fun n => by
    have hsz : (s.extract (a + 3) s.size).size < 4294967281 := by rw [Lib.ext_size]; omega
    have h := Tryz.strings_Index (s.extract (a + 3) s.size) quote3 mm (wy.drewN n) hsz HMy.out
    rw [hz]
    exact h
  have HIX := Lib.hid hIX
  clear hz hIX
  have i1 : (a : Int) + 3 ≤ s.size := by omega
  have i2 : (0 : Int) ≤ (a : Int) + 3 := by omega
  have t1 : ((a : Int) + 3).toNat = a + 3 := by omega
  have c2' : Hid (wy.cell? ⟨c, 2, none⟩ = some (.int .i64 ((a : Int) + 3))) := by
    show _ = _
    rw [HCy.out.pos]
    simp
  go_enter Tryz.func35, Tryz.ntmps35
  go_upto_region 2 with (fail)
  rw [← HWy.out]
  clear c2 f2
  have c0 := HCy.out.text
  have c2 := c2'.out
  have f2 := HCy.out.free 2
  go_quiet ((go_at_call 53; exact Calls.quiet_of_same (HIX.out _)))
  obtain ⟨wo, hwo⟩ : ∃ wo, wo = wy.drewN nq := ⟨_, rfl⟩
  have HCo : Hid (Cur wo c s st (a + 3) m) := by rw [hwo]; exact HCy.out.drew nq
  have HGo : Hid (w.grownBy wo (some c)) := by rw [hwo]; exact HGy.out.trans (grown_drewN _ _ _)
  have HUo : Hid (Utf8T wo) := by rw [hwo]; exact HUy.out
  have c2o : Hid (wo.cell? ⟨c, 2, none⟩ = some (.int .i64 ((a : Int) + 3))) := by rw [hwo]; exact c2'.out
  rw [← hwo]
  clear hwo c0 c2 f2
  have c0 := HCo.out.text
  have c2 := c2o.out
  have f2 := HCo.out.free 2
  have hlto := HCo.out.lt
  by_cases hz1 : z = -1
  · rw [if_pos hz1] at hR
    have HN := Lib.hid hR
    subst hz1
    clear hR
    go_upto_region 3 with (fail)
    go_quiet (fail)
    go_wp2_with (go_at_call 52; refine (fail_any _ c s st (a + 3) m 31 (HCo.out.drew _)).mono ?_; rintro e w' ⟨rfl, rfl⟩)
    exact ⟨rfl, .inr ⟨HN.out, rfl⟩, HGo.out.trans (grown_drewN _ _ _)⟩
  · rw [if_neg hz1] at hR
    obtain ⟨k, rfl⟩ : ∃ k : Nat, z = k := ⟨z.toNat, by omega⟩
    have hk : a + 3 + k + 3 ≤ s.size := by omega
    have ek : (k : Int).toNat = k := by omega
    rw [ek] at hR
    clear ek hz1 hzr
    have z0 : ¬ (k : Int) < 0 := by omega
    have z1 : decide ((k : Int) < 0) = false := decide_eq_false z0
    have e2 : IntKind.i64.wrap ((a : Int) + 3 + k) = (a : Int) + 3 + k := IntWalk.i64_in _ (by omega)
    have e3 : IntKind.i64.wrap ((k : Int) + 3) = (k : Int) + 3 := IntWalk.i64_in _ (by omega)
    have e4 : IntKind.i64.wrap ((a : Int) + 3 + ((k : Int) + 3)) = (a : Int) + 3 + ((k : Int) + 3) := IntWalk.i64_in _ (by omega)
    have j1 : (a : Int) + 3 ≤ (a : Int) + 3 + k := by omega
    have j2 : (a : Int) + 3 + k ≤ s.size := by omega
    have t2 : ((a : Int) + 3 + k).toNat = a + 3 + k := by omega
    have hx : s.extract ((a : Int) + 3).toNat ((a : Int) + 3 + k).toNat = s.extract (a + 3) (a + 3 + k) := by rw [t1, t2]
    have hzz : (s.extract (a + 3) (a + 3 + k)).size ≤ 2000000 := by rw [ByteArray.size_extract]; omega
    have HZ := Lib.hid hzz
    clear hzz
    cases hv : Lib.validD (s.extract (a + 3) (a + 3 + k)).data.toList
    · rw [hv, if_neg (by decide)] at hR
      have HN := Lib.hid hR
      have HV := Lib.hid hv
      clear hR hv
      go_upto_region 3 with (fail)
      go_region_held3 (fun w' => w'.cell? ⟨c, 0, none⟩ = some (.string s) ∧ w'.cell? ⟨c, 2, none⟩ = some (.int .i64 ((a : Int) + 3))) (first | exact ⟨c0, c2⟩ | exact ⟨c4, c3⟩)
        (first | (go_at_call 51; refine (valid_any _ _ HZ.out ?_).mono ?_; exact HUo.out; rintro e w3 ⟨he, hb3⟩; rw [HV.out] at he; subst he; have HC3 := Lib.hid (Cur.below (HCo.out.drew 1) hb3 hlto); have HB3 := Lib.hid hb3; have c4 := HC3.out.text; have c3 : w3.cell? ⟨c, 2, none⟩ = some (.int .i64 ((a : Int) + 3)) := HC3.out.pos; have f3 := HC3.out.free 2; clear hb3; go_simp))
      have HBo : Hid (Below wo.heap.size wo w3) := ⟨HB3.out.os, HB3.out.tape, HB3.out.output, HB3.out.size, HB3.out.block⟩
      have hgz := HGo.out.size
      have HG3 : Hid (w.grownBy w3 (some c)) := grown_below HGo.out (HBo.out.mono hgz)
      go_wp2_with (go_at_call 52; refine (fail_any _ c s st (a + 3) m 31 HC3.out).mono ?_; rintro e w' ⟨rfl, rfl⟩)
      exact ⟨rfl, .inr ⟨HN.out, rfl⟩, HG3.out⟩
    · rw [hv, if_pos rfl] at hR
      have HN := Lib.hid hR
      have HV := Lib.hid hv
      clear hR hv
      go_upto_region 3 with (fail)
      go_region_held3 (fun w' => w'.cell? ⟨c, 0, none⟩ = some (.string s) ∧ w'.cell? ⟨c, 2, none⟩ = some (.int .i64 ((a : Int) + 3))) (first | exact ⟨c0, c2⟩ | exact ⟨c4, c3⟩)
        (first | (go_at_call 51; refine (valid_any _ _ HZ.out ?_).mono ?_; exact HUo.out; rintro e w3 ⟨he, hb3⟩; rw [HV.out] at he; subst he; have HC3 := Lib.hid (Cur.below (HCo.out.drew 1) hb3 hlto); have HB3 := Lib.hid hb3; have c4 := HC3.out.text; have c3 : w3.cell? ⟨c, 2, none⟩ = some (.int .i64 ((a : Int) + 3)) := HC3.out.pos; have f3 := HC3.out.free 2; clear hb3; go_simp))
      have HBo : Hid (Below wo.heap.size wo w3) := ⟨HB3.out.os, HB3.out.tape, HB3.out.output, HB3.out.size, HB3.out.block⟩
      have hgz := HGo.out.size
      have HG3 : Hid (w.grownBy w3 (some c)) := grown_below HGo.out (HBo.out.mono hgz)
      clear c0 c2 f2
      go_upto_region 5 with (fail)
      go_quiet (fail)
      go_wp2_with fail
      go_ret
      refine ⟨.inl ⟨a + 3 + k, HN.out, rfl, (HC3.out.drew _).move (a + 3 + k + 3) _ (by omega)⟩, (HG3.out.trans (grown_drewN _ _ _)).trans (grown_set _ ⟨c, 2, none⟩ _)⟩

end Tk
end Go.Proofs.YtmphkifhnjfkmaaGreatDoor

namespace Go.Proofs.YtmphkifhnjfkmaaGreatDoor
open Go.ChangeShapes Go.WideShapes Go.ChangeAt Go.RowKit Go.WideMaps Go.Maps
namespace Tk

set_option maxHeartbeats 1000000 in
theorem closure3 (w : World) (bc c : Nat) (s : ByteArray) (st a m q : Nat) (tx : ByteArray) (hb : w.cell? ⟨bc, 0, none⟩ = some (.pointer (some ⟨c, 0, none⟩))) (hc : Cur w c s st a m)
    (hcall : ∀ w1 : World, w.grownBy w1 none → Cur w1 c s st a m → Calls Tryz.prog 33 #[.pointer (some ⟨c, 0, none⟩)] w1 fun e w' => e = .returned (.string tx) ∧ Cur w' c s st q m ∧ w1.grownBy w' (some c)) :
    Calls Tryz.prog 32 #[.pointer (some ⟨bc, 0, none⟩)] w fun e w' => e = .returned (tokV 3 tx) ∧ Cur w' c s st q m ∧ w.grownBy w' (some c) := by
  have hlt := hc.lt
  obtain ⟨wx, hwx, hbx, hcx, hrx, hgx⟩ := res_start hb hc
  have HX := Lib.hid (hcall wx hgx hcx)
  have HRx := Lib.hid hrx
  have HGx := Lib.hid hgx
  have HWx := Lib.hid hwx
  clear hcall hb hc hwx hcx hrx hgx
  go_enter Tryz.func32, Tryz.ntmps32
  go_upto_region 1 with (fail)
  rw [← HWx.out]
  go_wp2_with fail
  refine HX.out.mono ?_
  rintro e w2 ⟨rfl, hc2, hg2⟩
  have HC2 := Lib.hid hc2
  have HG2 := Lib.hid hg2
  have HR2 : Hid (Res w2 w.heap.size) := HRx.out.kept hg2 (by intro e; have := Option.some.inj e; omega)
  clear hc2 hg2
  have r0 := HR2.out.c0
  have r1 := HR2.out.c1
  have r2 := HR2.out.c2
  have r3 := HR2.out.c3
  have g0 := HR2.out.free 0
  have g1 := HR2.out.free 1
  have g2 := HR2.out.free 2
  have g3 := HR2.out.free 3
  have ht : tokV 3 tx = .agg #[.int .i64 3, .string tx, .int .i64 0, .bool false] := rfl
  try rw [ht]
  go_wp2_with fail
  exact bodyPost_ret (v := .agg #[.int .i64 3, .string tx, .int .i64 0, .bool false]) (by simp [results, Tryz.results32, go_sem, r0, r1, r2, r3]) rfl ⟨rfl, cur_res HC2.out (by omega) _ _ _ _, grown_res ((grown_row HGx.out c).trans HG2.out) _ _ _ _⟩

set_option maxHeartbeats 1000000 in
theorem closure4 (w : World) (bc c : Nat) (s : ByteArray) (st a m q : Nat) (tx : ByteArray) (hb : w.cell? ⟨bc, 0, none⟩ = some (.pointer (some ⟨c, 0, none⟩))) (hc : Cur w c s st a m)
    (hcall : ∀ w1 : World, w.grownBy w1 none → Cur w1 c s st a m → Calls Tryz.prog 35 #[.pointer (some ⟨c, 0, none⟩)] w1 fun e w' => e = .returned (.string tx) ∧ Cur w' c s st q m ∧ w1.grownBy w' (some c)) :
    Calls Tryz.prog 34 #[.pointer (some ⟨bc, 0, none⟩)] w fun e w' => e = .returned (tokV 5 tx) ∧ Cur w' c s st q m ∧ w.grownBy w' (some c) := by
  have hlt := hc.lt
  obtain ⟨wx, hwx, hbx, hcx, hrx, hgx⟩ := res_start hb hc
  have HX := Lib.hid (hcall wx hgx hcx)
  have HRx := Lib.hid hrx
  have HGx := Lib.hid hgx
  have HWx := Lib.hid hwx
  clear hcall hb hc hwx hcx hrx hgx
  go_enter Tryz.func34, Tryz.ntmps34
  go_upto_region 1 with (fail)
  rw [← HWx.out]
  go_wp2_with fail
  refine HX.out.mono ?_
  rintro e w2 ⟨rfl, hc2, hg2⟩
  have HC2 := Lib.hid hc2
  have HG2 := Lib.hid hg2
  have HR2 : Hid (Res w2 w.heap.size) := HRx.out.kept hg2 (by intro e; have := Option.some.inj e; omega)
  clear hc2 hg2
  have r0 := HR2.out.c0
  have r1 := HR2.out.c1
  have r2 := HR2.out.c2
  have r3 := HR2.out.c3
  have g0 := HR2.out.free 0
  have g1 := HR2.out.free 1
  have g2 := HR2.out.free 2
  have g3 := HR2.out.free 3
  have ht : tokV 5 tx = .agg #[.int .i64 5, .string tx, .int .i64 0, .bool false] := rfl
  try rw [ht]
  go_wp2_with fail
  exact bodyPost_ret (v := .agg #[.int .i64 5, .string tx, .int .i64 0, .bool false]) (by simp [results, Tryz.results34, go_sem, r0, r1, r2, r3]) rfl ⟨rfl, cur_res HC2.out (by omega) _ _ _ _, grown_res ((grown_row HGx.out c).trans HG2.out) _ _ _ _⟩


set_option maxHeartbeats 1000000 in
theorem closure2_bad (w : World) (bc c : Nat) (s : ByteArray) (st a m : Nat) (ch : List PanicEntry) (hb : w.cell? ⟨bc, 0, none⟩ = some (.pointer (some ⟨c, 0, none⟩))) (hc : Cur w c s st a m)
    (hcall : ∀ w1 : World, w.grownBy w1 none → Cur w1 c s st a m → Calls Tryz.prog 31 #[.pointer (some ⟨c, 0, none⟩)] w1 fun e w' => e = .panicked ch ∧ w1.grownBy w' (some c)) :
    Calls Tryz.prog 30 #[.pointer (some ⟨bc, 0, none⟩)] w fun e w' => e = .panicked ch ∧ w.grownBy w' (some c) := by
  obtain ⟨wx, hwx, hbx, hcx, hrx, hgx⟩ := res_start hb hc
  have HX := Lib.hid (hcall wx hgx hcx)
  have HGx := Lib.hid hgx
  have HWx := Lib.hid hwx
  clear hcall hb hc hwx hcx hrx hgx
  go_enter Tryz.func30, Tryz.ntmps30
  go_upto_region 1 with (fail)
  rw [← HWx.out]
  go_wp2_with fail
  refine HX.out.mono ?_
  rintro e w2 ⟨rfl, hg2⟩
  go_wp2_with fail
  exact ⟨rfl, rfl, (grown_row HGx.out c).trans hg2⟩


set_option maxHeartbeats 1000000 in
theorem closure3_bad (w : World) (bc c : Nat) (s : ByteArray) (st a m : Nat) (ch : List PanicEntry) (hb : w.cell? ⟨bc, 0, none⟩ = some (.pointer (some ⟨c, 0, none⟩))) (hc : Cur w c s st a m)
    (hcall : ∀ w1 : World, w.grownBy w1 none → Cur w1 c s st a m → Calls Tryz.prog 33 #[.pointer (some ⟨c, 0, none⟩)] w1 fun e w' => e = .panicked ch ∧ w1.grownBy w' (some c)) :
    Calls Tryz.prog 32 #[.pointer (some ⟨bc, 0, none⟩)] w fun e w' => e = .panicked ch ∧ w.grownBy w' (some c) := by
  obtain ⟨wx, hwx, hbx, hcx, hrx, hgx⟩ := res_start hb hc
  have HX := Lib.hid (hcall wx hgx hcx)
  have HGx := Lib.hid hgx
  have HWx := Lib.hid hwx
  clear hcall hb hc hwx hcx hrx hgx
  go_enter Tryz.func32, Tryz.ntmps32
  go_upto_region 1 with (fail)
  rw [← HWx.out]
  go_wp2_with fail
  refine HX.out.mono ?_
  rintro e w2 ⟨rfl, hg2⟩
  go_wp2_with fail
  exact ⟨rfl, rfl, (grown_row HGx.out c).trans hg2⟩


set_option maxHeartbeats 1000000 in
theorem closure4_bad (w : World) (bc c : Nat) (s : ByteArray) (st a m : Nat) (ch : List PanicEntry) (hb : w.cell? ⟨bc, 0, none⟩ = some (.pointer (some ⟨c, 0, none⟩))) (hc : Cur w c s st a m)
    (hcall : ∀ w1 : World, w.grownBy w1 none → Cur w1 c s st a m → Calls Tryz.prog 35 #[.pointer (some ⟨c, 0, none⟩)] w1 fun e w' => e = .panicked ch ∧ w1.grownBy w' (some c)) :
    Calls Tryz.prog 34 #[.pointer (some ⟨bc, 0, none⟩)] w fun e w' => e = .panicked ch ∧ w.grownBy w' (some c) := by
  obtain ⟨wx, hwx, hbx, hcx, hrx, hgx⟩ := res_start hb hc
  have HX := Lib.hid (hcall wx hgx hcx)
  have HGx := Lib.hid hgx
  have HWx := Lib.hid hwx
  clear hcall hb hc hwx hcx hrx hgx
  go_enter Tryz.func34, Tryz.ntmps34
  go_upto_region 1 with (fail)
  rw [← HWx.out]
  go_wp2_with fail
  refine HX.out.mono ?_
  rintro e w2 ⟨rfl, hg2⟩
  go_wp2_with fail
  exact ⟨rfl, rfl, (grown_row HGx.out c).trans hg2⟩


set_option maxHeartbeats 1000000 in
theorem closure5_bad (w : World) (bc c : Nat) (s : ByteArray) (st a m : Nat) (ch : List PanicEntry) (hb : w.cell? ⟨bc, 0, none⟩ = some (.pointer (some ⟨c, 0, none⟩))) (hc : Cur w c s st a m)
    (hcall : ∀ w1 : World, w.grownBy w1 none → Cur w1 c s st a m → Calls Tryz.prog 37 #[.pointer (some ⟨c, 0, none⟩)] w1 fun e w' => e = .panicked ch ∧ w1.grownBy w' (some c)) :
    Calls Tryz.prog 36 #[.pointer (some ⟨bc, 0, none⟩)] w fun e w' => e = .panicked ch ∧ w.grownBy w' (some c) := by
  obtain ⟨wx, hwx, hbx, hcx, hrx, hgx⟩ := res_start hb hc
  have HX := Lib.hid (hcall wx hgx hcx)
  have HGx := Lib.hid hgx
  have HWx := Lib.hid hwx
  clear hcall hb hc hwx hcx hrx hgx
  go_enter Tryz.func36, Tryz.ntmps36
  go_upto_region 1 with (fail)
  rw [← HWx.out]
  go_wp2_with fail
  refine HX.out.mono ?_
  rintro e w2 ⟨rfl, hg2⟩
  go_wp2_with fail
  exact ⟨rfl, rfl, (grown_row HGx.out c).trans hg2⟩


set_option maxHeartbeats 1000000 in
theorem closure6_bad (w : World) (bc c : Nat) (s : ByteArray) (st a m : Nat) (ch : List PanicEntry) (hb : w.cell? ⟨bc, 0, none⟩ = some (.pointer (some ⟨c, 0, none⟩))) (hc : Cur w c s st a m)
    (hcall : ∀ w1 : World, w.grownBy w1 none → Cur w1 c s st a m → Calls Tryz.prog 39 #[.pointer (some ⟨c, 0, none⟩)] w1 fun e w' => e = .panicked ch ∧ w1.grownBy w' (some c)) :
    Calls Tryz.prog 38 #[.pointer (some ⟨bc, 0, none⟩)] w fun e w' => e = .panicked ch ∧ w.grownBy w' (some c) := by
  obtain ⟨wx, hwx, hbx, hcx, hrx, hgx⟩ := res_start hb hc
  have HX := Lib.hid (hcall wx hgx hcx)
  have HGx := Lib.hid hgx
  have HWx := Lib.hid hwx
  clear hcall hb hc hwx hcx hrx hgx
  go_enter Tryz.func38, Tryz.ntmps38
  go_upto_region 1 with (fail)
  rw [← HWx.out]
  go_wp2_with fail
  refine HX.out.mono ?_
  rintro e w2 ⟨rfl, hg2⟩
  go_wp2_with fail
  exact ⟨rfl, rfl, (grown_row HGx.out c).trans hg2⟩

set_option maxHeartbeats 2000000 in
theorem closedChar (w : World) (bf bc b2 c : Nat) (s : ByteArray) (st a m q : Nat) (tx : ByteArray) (hs : s.size ≤ 20000) (hq : q ≤ s.size)
    (hf : w.cell? ⟨bf, 0, none⟩ = some (.func (.func 32) #[] #[.pointer (some ⟨b2, 0, none⟩)])) (hb : w.cell? ⟨bc, 0, none⟩ = some (.pointer (some ⟨c, 0, none⟩))) (h2 : w.cell? ⟨b2, 0, none⟩ = some (.pointer (some ⟨c, 0, none⟩))) (hbc : bc ≠ c) (hc : Cur w c s st a m)
    (hp : partB (byteAt s q) = false)
    (hcall : ∀ w1 : World, w.grownBy w1 none → Cur w1 c s st a m → Calls Tryz.prog 33 #[.pointer (some ⟨c, 0, none⟩)] w1 fun e w' => e = .returned (.string tx) ∧ Cur w' c s st q m ∧ w1.grownBy w' (some c)) :
    Calls Tryz.prog 56 #[.pointer (some ⟨bf, 0, none⟩), .pointer (some ⟨bc, 0, none⟩)] w fun e w' => e = .returned (tokV 3 tx) ∧ Cur w' c s st q m ∧ w.grownBy w' (some c) := by
  have hlt := hc.lt
  have hbl := lt_cell hb
  obtain ⟨wx, hwx, hbx, hcx, hrx, hgx⟩ := res_start hb hc
  have hfx : wx.cell? ⟨bf, 0, none⟩ = some (.func (.func 32) #[] #[.pointer (some ⟨b2, 0, none⟩)]) := cell_grown hf hgx (by simp)
  have HX := Lib.hid (closure3 wx b2 c s st a m q tx (cell_grown h2 hgx (by simp)) hcx (fun w1 g1 c1 => hcall w1 (hgx.trans g1) c1))
  have HRx := Lib.hid hrx
  have HGx := Lib.hid hgx
  have HWx := Lib.hid hwx
  have HBx := Lib.hid hbx
  have HP := Lib.hid hp
  have hsx : wx.heap.size = w.heap.size + 1 := by rw [hwx]; simp
  clear hcall hb hc hwx hcx hrx hgx h2 hf hbx hp
  go_enter Tryz.func56, Tryz.ntmps56
  go_upto_region 1 with (fail)
  rw [← HWx.out]
  go_wp2_with fail
  refine HX.out.mono ?_
  rintro e w2 ⟨rfl, hc2, hg2⟩
  have HC2 := Lib.hid hc2
  have HG2 := Lib.hid hg2
  have HR2 : Hid (Res w2 w.heap.size) := HRx.out.kept hg2 (by intro e; have := Option.some.inj e; omega)
  have hb2 : w2.cell? ⟨bc, 0, none⟩ = some (.pointer (some ⟨c, 0, none⟩)) := cell_grown HBx.out hg2 (by intro e; exact hbc (Option.some.inj e))
  have hz2 := hg2.size
  clear hc2 hg2 hfx
  obtain ⟨wy, hwy⟩ : ∃ wy, wy = w2.alloc (.cells #[.int .i64 3, .string tx, .int .i64 0, .bool false] 31) := ⟨_, rfl⟩
  have hgy : w2.grownBy wy none := by rw [hwy]; exact World.grownBy_alloc w2 _ none
  have hby : wy.heap[w2.heap.size]? = some (.cells #[.int .i64 3, .string tx, .int .i64 0, .bool false] 31) := by rw [hwy]; exact World.alloc_heap_new w2 _
  have HCy := Lib.hid (HC2.out.kept hgy (by simp))
  have HRy : Hid (Res wy w.heap.size) := HR2.out.kept hgy (by simp)
  have b2 : wy.cell? ⟨bc, 0, none⟩ = some (.pointer (some ⟨c, 0, none⟩)) := cell_grown hb2 hgy (by simp)
  have s0 : wy.cell? ⟨w2.heap.size, 0, none⟩ = some (.int .i64 3) := by rw [Lib.cell_of_heap hby]; rfl
  have s1 : wy.cell? ⟨w2.heap.size, 1, none⟩ = some (.string tx) := by rw [Lib.cell_of_heap hby]; rfl
  have s2 : wy.cell? ⟨w2.heap.size, 2, none⟩ = some (.int .i64 0) := by rw [Lib.cell_of_heap hby]; rfl
  have s3 : wy.cell? ⟨w2.heap.size, 3, none⟩ = some (.bool false) := by rw [Lib.cell_of_heap hby]; rfl
  have HGy := Lib.hid (((grown_row HGx.out c).trans HG2.out).trans (grown_row hgy c))
  have HWy := Lib.hid hwy
  clear hwy hgy hby hb2
  have r0 := HRy.out.c0
  have r1 := HRy.out.c1
  have r2 := HRy.out.c2
  have r3 := HRy.out.c3
  have g0 := HRy.out.free 0
  have g1 := HRy.out.free 1
  have g2 := HRy.out.free 2
  have g3 := HRy.out.free 3
  have ht : tokV 3 tx = .agg #[.int .i64 3, .string tx, .int .i64 0, .bool false] := rfl
  rw [ht]
  go_upto_region 2 with (fail)
  rw [← HWy.out]
  go_wp2_with (first | (go_at_call 55; refine (peek0 s q c _ hs (by omega) HCy.out.text HCy.out.pos).mono ?_; rintro e w' ⟨rfl, n, rfl⟩) | (go_at_call 54; refine (isPart_any _ _).mono ?_; rintro e w' ⟨he, rfl⟩; rw [HP.out] at he; subst he))
  exact bodyPost_ret (v := .agg #[.int .i64 3, .string tx, .int .i64 0, .bool false]) (by simp [results, Tryz.results56, go_sem, r0, r1, r2, r3]) rfl ⟨rfl, cur_res (HCy.out.drew n) (by omega) _ _ _ _, grown_res (HGy.out.trans (grown_drewN _ _ _)) _ _ _ _⟩


set_option maxHeartbeats 2000000 in
theorem closedNumber_part (w : World) (bf bc b2 c : Nat) (s : ByteArray) (st a m q : Nat) (k : Int) (tx : ByteArray) (hs : s.size ≤ 20000) (hq : q ≤ s.size)
    (hf : w.cell? ⟨bf, 0, none⟩ = some (.func (.func 30) #[] #[.pointer (some ⟨b2, 0, none⟩)])) (hb : w.cell? ⟨bc, 0, none⟩ = some (.pointer (some ⟨c, 0, none⟩))) (h2 : w.cell? ⟨b2, 0, none⟩ = some (.pointer (some ⟨c, 0, none⟩))) (hbc : bc ≠ c) (hc : Cur w c s st a m)
    (hp : partB (byteAt s q) = true)
    (hcall : ∀ w1 : World, w.grownBy w1 none → Cur w1 c s st a m → Calls Tryz.prog 31 #[.pointer (some ⟨c, 0, none⟩)] w1 fun e w' => e = .returned (tokV k tx) ∧ Cur w' c s st q m ∧ w1.grownBy w' (some c)) :
    Calls Tryz.prog 56 #[.pointer (some ⟨bf, 0, none⟩), .pointer (some ⟨bc, 0, none⟩)] w fun e w' => e = .panicked (faultC st 33) ∧ w.grownBy w' (some c) := by
  have hlt := hc.lt
  have hbl := lt_cell hb
  obtain ⟨wx, hwx, hbx, hcx, hrx, hgx⟩ := res_start hb hc
  have hfx : wx.cell? ⟨bf, 0, none⟩ = some (.func (.func 30) #[] #[.pointer (some ⟨b2, 0, none⟩)]) := cell_grown hf hgx (by simp)
  have HX := Lib.hid (closure2 wx b2 c s st a m q k tx (cell_grown h2 hgx (by simp)) hcx (fun w1 g1 c1 => hcall w1 (hgx.trans g1) c1))
  have HRx := Lib.hid hrx
  have HGx := Lib.hid hgx
  have HWx := Lib.hid hwx
  have HBx := Lib.hid hbx
  have HP := Lib.hid hp
  have hsx : wx.heap.size = w.heap.size + 1 := by rw [hwx]; simp
  clear hcall hb hc hwx hcx hrx hgx h2 hf hbx hp
  go_enter Tryz.func56, Tryz.ntmps56
  go_upto_region 1 with (fail)
  rw [← HWx.out]
  go_wp2_with fail
  refine HX.out.mono ?_
  rintro e w2 ⟨rfl, hc2, hg2⟩
  have HC2 := Lib.hid hc2
  have HG2 := Lib.hid hg2
  have HR2 : Hid (Res w2 w.heap.size) := HRx.out.kept hg2 (by intro e; have := Option.some.inj e; omega)
  have hb2 : w2.cell? ⟨bc, 0, none⟩ = some (.pointer (some ⟨c, 0, none⟩)) := cell_grown HBx.out hg2 (by intro e; exact hbc (Option.some.inj e))
  have hz2 := hg2.size
  clear hc2 hg2 hfx
  obtain ⟨wy, hwy⟩ : ∃ wy, wy = w2.alloc (.cells #[.int .i64 k, .string tx, .int .i64 0, .bool false] 31) := ⟨_, rfl⟩
  have hgy : w2.grownBy wy none := by rw [hwy]; exact World.grownBy_alloc w2 _ none
  have hby : wy.heap[w2.heap.size]? = some (.cells #[.int .i64 k, .string tx, .int .i64 0, .bool false] 31) := by rw [hwy]; exact World.alloc_heap_new w2 _
  have HCy := Lib.hid (HC2.out.kept hgy (by simp))
  have HRy : Hid (Res wy w.heap.size) := HR2.out.kept hgy (by simp)
  have b2 : wy.cell? ⟨bc, 0, none⟩ = some (.pointer (some ⟨c, 0, none⟩)) := cell_grown hb2 hgy (by simp)
  have s0 : wy.cell? ⟨w2.heap.size, 0, none⟩ = some (.int .i64 k) := by rw [Lib.cell_of_heap hby]; rfl
  have s1 : wy.cell? ⟨w2.heap.size, 1, none⟩ = some (.string tx) := by rw [Lib.cell_of_heap hby]; rfl
  have s2 : wy.cell? ⟨w2.heap.size, 2, none⟩ = some (.int .i64 0) := by rw [Lib.cell_of_heap hby]; rfl
  have s3 : wy.cell? ⟨w2.heap.size, 3, none⟩ = some (.bool false) := by rw [Lib.cell_of_heap hby]; rfl
  have HGy := Lib.hid (((grown_row HGx.out c).trans HG2.out).trans (grown_row hgy c))
  have HWy := Lib.hid hwy
  clear hwy hgy hby hb2
  have r0 := HRy.out.c0
  have r1 := HRy.out.c1
  have r2 := HRy.out.c2
  have r3 := HRy.out.c3
  have g0 := HRy.out.free 0
  have g1 := HRy.out.free 1
  have g2 := HRy.out.free 2
  have g3 := HRy.out.free 3
  have ht : tokV k tx = .agg #[.int .i64 k, .string tx, .int .i64 0, .bool false] := rfl
  rw [ht]
  go_upto_region 2 with (fail)
  rw [← HWy.out]
  go_wp2_with (first | (go_at_call 55; refine (peek0 s q c _ hs (by omega) HCy.out.text HCy.out.pos).mono ?_; rintro e w' ⟨rfl, n, rfl⟩) | (go_at_call 54; refine (isPart_any _ _).mono ?_; rintro e w' ⟨he, rfl⟩; rw [HP.out] at he; subst he) | (go_at_call 52; refine (fail_any _ c s st q m 33 (HCy.out.drew _)).mono ?_; rintro e w' ⟨rfl, rfl⟩))
  exact ⟨rfl, rfl, HGy.out.trans (grown_drewN _ _ _)⟩



set_option maxHeartbeats 2000000 in
theorem closedNumber_bad (w : World) (bf bc b2 c : Nat) (s : ByteArray) (st a m : Nat) (ch : List PanicEntry)
    (hf : w.cell? ⟨bf, 0, none⟩ = some (.func (.func 30) #[] #[.pointer (some ⟨b2, 0, none⟩)])) (h2 : w.cell? ⟨b2, 0, none⟩ = some (.pointer (some ⟨c, 0, none⟩))) (hc : Cur w c s st a m)
    (hcall : ∀ w1 : World, w.grownBy w1 none → Cur w1 c s st a m → Calls Tryz.prog 31 #[.pointer (some ⟨c, 0, none⟩)] w1 fun e w' => e = .panicked ch ∧ w1.grownBy w' (some c)) :
    Calls Tryz.prog 56 #[.pointer (some ⟨bf, 0, none⟩), .pointer (some ⟨bc, 0, none⟩)] w fun e w' => e = .panicked ch ∧ w.grownBy w' (some c) := by
  obtain ⟨wx, hwx, hbx, hcx, hrx, hgx⟩ := res_start h2 hc
  have hfx : wx.cell? ⟨bf, 0, none⟩ = some (.func (.func 30) #[] #[.pointer (some ⟨b2, 0, none⟩)]) := cell_grown hf hgx (by simp)
  have HX := Lib.hid (closure2_bad wx b2 c s st a m ch hbx hcx (fun w1 g1 c1 => hcall w1 (hgx.trans g1) c1))
  have HGx := Lib.hid hgx
  have HWx := Lib.hid hwx
  clear hcall hc hwx hcx hrx hgx h2 hf hbx
  go_enter Tryz.func56, Tryz.ntmps56
  go_upto_region 1 with (fail)
  rw [← HWx.out]
  go_wp2_with fail
  refine HX.out.mono ?_
  rintro e w2 ⟨rfl, hg2⟩
  go_wp2_with fail
  exact ⟨rfl, rfl, (grown_row HGx.out c).trans hg2⟩

set_option maxHeartbeats 2000000 in
theorem closedChar_part (w : World) (bf bc b2 c : Nat) (s : ByteArray) (st a m q : Nat) (tx : ByteArray) (hs : s.size ≤ 20000) (hq : q ≤ s.size)
    (hf : w.cell? ⟨bf, 0, none⟩ = some (.func (.func 32) #[] #[.pointer (some ⟨b2, 0, none⟩)])) (hb : w.cell? ⟨bc, 0, none⟩ = some (.pointer (some ⟨c, 0, none⟩))) (h2 : w.cell? ⟨b2, 0, none⟩ = some (.pointer (some ⟨c, 0, none⟩))) (hbc : bc ≠ c) (hc : Cur w c s st a m)
    (hp : partB (byteAt s q) = true)
    (hcall : ∀ w1 : World, w.grownBy w1 none → Cur w1 c s st a m → Calls Tryz.prog 33 #[.pointer (some ⟨c, 0, none⟩)] w1 fun e w' => e = .returned (.string tx) ∧ Cur w' c s st q m ∧ w1.grownBy w' (some c)) :
    Calls Tryz.prog 56 #[.pointer (some ⟨bf, 0, none⟩), .pointer (some ⟨bc, 0, none⟩)] w fun e w' => e = .panicked (faultC st 33) ∧ w.grownBy w' (some c) := by
  have hlt := hc.lt
  have hbl := lt_cell hb
  obtain ⟨wx, hwx, hbx, hcx, hrx, hgx⟩ := res_start hb hc
  have hfx : wx.cell? ⟨bf, 0, none⟩ = some (.func (.func 32) #[] #[.pointer (some ⟨b2, 0, none⟩)]) := cell_grown hf hgx (by simp)
  have HX := Lib.hid (closure3 wx b2 c s st a m q tx (cell_grown h2 hgx (by simp)) hcx (fun w1 g1 c1 => hcall w1 (hgx.trans g1) c1))
  have HRx := Lib.hid hrx
  have HGx := Lib.hid hgx
  have HWx := Lib.hid hwx
  have HBx := Lib.hid hbx
  have HP := Lib.hid hp
  have hsx : wx.heap.size = w.heap.size + 1 := by rw [hwx]; simp
  clear hcall hb hc hwx hcx hrx hgx h2 hf hbx hp
  go_enter Tryz.func56, Tryz.ntmps56
  go_upto_region 1 with (fail)
  rw [← HWx.out]
  go_wp2_with fail
  refine HX.out.mono ?_
  rintro e w2 ⟨rfl, hc2, hg2⟩
  have HC2 := Lib.hid hc2
  have HG2 := Lib.hid hg2
  have HR2 : Hid (Res w2 w.heap.size) := HRx.out.kept hg2 (by intro e; have := Option.some.inj e; omega)
  have hb2 : w2.cell? ⟨bc, 0, none⟩ = some (.pointer (some ⟨c, 0, none⟩)) := cell_grown HBx.out hg2 (by intro e; exact hbc (Option.some.inj e))
  have hz2 := hg2.size
  clear hc2 hg2 hfx
  obtain ⟨wy, hwy⟩ : ∃ wy, wy = w2.alloc (.cells #[.int .i64 3, .string tx, .int .i64 0, .bool false] 31) := ⟨_, rfl⟩
  have hgy : w2.grownBy wy none := by rw [hwy]; exact World.grownBy_alloc w2 _ none
  have hby : wy.heap[w2.heap.size]? = some (.cells #[.int .i64 3, .string tx, .int .i64 0, .bool false] 31) := by rw [hwy]; exact World.alloc_heap_new w2 _
  have HCy := Lib.hid (HC2.out.kept hgy (by simp))
  have HRy : Hid (Res wy w.heap.size) := HR2.out.kept hgy (by simp)
  have b2 : wy.cell? ⟨bc, 0, none⟩ = some (.pointer (some ⟨c, 0, none⟩)) := cell_grown hb2 hgy (by simp)
  have s0 : wy.cell? ⟨w2.heap.size, 0, none⟩ = some (.int .i64 3) := by rw [Lib.cell_of_heap hby]; rfl
  have s1 : wy.cell? ⟨w2.heap.size, 1, none⟩ = some (.string tx) := by rw [Lib.cell_of_heap hby]; rfl
  have s2 : wy.cell? ⟨w2.heap.size, 2, none⟩ = some (.int .i64 0) := by rw [Lib.cell_of_heap hby]; rfl
  have s3 : wy.cell? ⟨w2.heap.size, 3, none⟩ = some (.bool false) := by rw [Lib.cell_of_heap hby]; rfl
  have HGy := Lib.hid (((grown_row HGx.out c).trans HG2.out).trans (grown_row hgy c))
  have HWy := Lib.hid hwy
  clear hwy hgy hby hb2
  have r0 := HRy.out.c0
  have r1 := HRy.out.c1
  have r2 := HRy.out.c2
  have r3 := HRy.out.c3
  have g0 := HRy.out.free 0
  have g1 := HRy.out.free 1
  have g2 := HRy.out.free 2
  have g3 := HRy.out.free 3
  have ht : tokV 3 tx = .agg #[.int .i64 3, .string tx, .int .i64 0, .bool false] := rfl
  rw [ht]
  go_upto_region 2 with (fail)
  rw [← HWy.out]
  go_wp2_with (first | (go_at_call 55; refine (peek0 s q c _ hs (by omega) HCy.out.text HCy.out.pos).mono ?_; rintro e w' ⟨rfl, n, rfl⟩) | (go_at_call 54; refine (isPart_any _ _).mono ?_; rintro e w' ⟨he, rfl⟩; rw [HP.out] at he; subst he) | (go_at_call 52; refine (fail_any _ c s st q m 33 (HCy.out.drew _)).mono ?_; rintro e w' ⟨rfl, rfl⟩))
  exact ⟨rfl, rfl, HGy.out.trans (grown_drewN _ _ _)⟩



set_option maxHeartbeats 2000000 in
theorem closedChar_bad (w : World) (bf bc b2 c : Nat) (s : ByteArray) (st a m : Nat) (ch : List PanicEntry)
    (hf : w.cell? ⟨bf, 0, none⟩ = some (.func (.func 32) #[] #[.pointer (some ⟨b2, 0, none⟩)])) (h2 : w.cell? ⟨b2, 0, none⟩ = some (.pointer (some ⟨c, 0, none⟩))) (hc : Cur w c s st a m)
    (hcall : ∀ w1 : World, w.grownBy w1 none → Cur w1 c s st a m → Calls Tryz.prog 33 #[.pointer (some ⟨c, 0, none⟩)] w1 fun e w' => e = .panicked ch ∧ w1.grownBy w' (some c)) :
    Calls Tryz.prog 56 #[.pointer (some ⟨bf, 0, none⟩), .pointer (some ⟨bc, 0, none⟩)] w fun e w' => e = .panicked ch ∧ w.grownBy w' (some c) := by
  obtain ⟨wx, hwx, hbx, hcx, hrx, hgx⟩ := res_start h2 hc
  have hfx : wx.cell? ⟨bf, 0, none⟩ = some (.func (.func 32) #[] #[.pointer (some ⟨b2, 0, none⟩)]) := cell_grown hf hgx (by simp)
  have HX := Lib.hid (closure3_bad wx b2 c s st a m ch hbx hcx (fun w1 g1 c1 => hcall w1 (hgx.trans g1) c1))
  have HGx := Lib.hid hgx
  have HWx := Lib.hid hwx
  clear hcall hc hwx hcx hrx hgx h2 hf hbx
  go_enter Tryz.func56, Tryz.ntmps56
  go_upto_region 1 with (fail)
  rw [← HWx.out]
  go_wp2_with fail
  refine HX.out.mono ?_
  rintro e w2 ⟨rfl, hg2⟩
  go_wp2_with fail
  exact ⟨rfl, rfl, (grown_row HGx.out c).trans hg2⟩

end Tk
end Go.Proofs.YtmphkifhnjfkmaaGreatDoor

namespace Go.Proofs.YtmphkifhnjfkmaaGreatDoor
open Go.ChangeShapes Go.WideShapes Go.ChangeAt Go.RowKit Go.WideMaps Go.Maps
namespace Tk

set_option maxHeartbeats 2000000 in
theorem reader_under (w : World) (c : Nat) (s : ByteArray) (st p m : Nat) (hc : Cur w c s st p m) (_ : s.size ≤ 20000) (hp : p < s.size) (hl : letB (byteAt s p) = false) (h95 : byteAt s p = 95) :
    Calls Tryz.prog 11 #[.pointer (some ⟨c, 0, none⟩)] w fun e w' => e = .returned (.func (.func 26) #[] #[.pointer (some ⟨w.heap.size, 0, none⟩)]) ∧ w'.cell? ⟨w.heap.size, 0, none⟩ = some (.pointer (some ⟨c, 0, none⟩)) ∧ Cur w' c s p p m ∧ w.grownBy w' (some c) := by
  have hlt := hc.lt
  obtain ⟨wx, wy, hwx, hbx, hcx, hwy, hby, hcy, hgy⟩ := reader_start w c s st p m hc
  have hmf : ∀ (fn : Fn) (first cap : Array Value) (w : World), (Instr.makeFunc fn first cap).run Tryz.prog w = .ok (.func fn first cap) w := fun _ _ _ _ => rfl
  have HB : Hid (byteAt s p = (s[p]'hp).toNat) := by show _ = _; simp [byteAt, hp]
  have HL : Hid (letB ((s[p]'hp).toNat : Int) = false) := by show _ = _; rw [← HB.out]; exact hl
  have n95 : (((s[p]'hp).toNat : Int) == 95) = true := by rw [← HB.out, h95]; rfl
  clear hl h95
  have HCy := Lib.hid hcy
  have HGy := Lib.hid hgy
  have HWx := Lib.hid hwx
  have HWy := Lib.hid hwy
  have HBy := Lib.hid hby
  have i1 : (p : Int) < s.size := by omega
  have i0 : (0 : Int) ≤ p := by omega
  have c2 := hcx.pos
  have f1 := hcx.free 1
  have c1 := hcx.start
  clear hc hwx hwy hcx hcy hgy hby
  go_enter Tryz.func11, Tryz.ntmps11
  go_upto_region 1 with (fail)
  rw [← HWx.out]
  go_region
  rw [← HWy.out]
  obtain ⟨wz, hwz⟩ : ∃ wz, wz = wy.drew := ⟨_, rfl⟩
  have HCz : Hid (Cur wz c s p p m) := by rw [hwz]; exact HCy.out.drew 1
  have HGz : Hid (w.grownBy wz (some c)) := by rw [hwz]; exact HGy.out.trans (grown_drewN _ 1 _)
  have HBz : Hid (wz.cell? ⟨w.heap.size, 0, none⟩ = some (.pointer (some ⟨c, 0, none⟩))) := by rw [hwz]; exact HBy.out
  rw [← hwz]
  clear hwz c2 f1 c1 hbx
  have c0 := HCz.out.text
  have c2 := HCz.out.pos
  have hbz := HBz.out
  have hsz := HGz.out.size
  go_wp2_with fail
  go_quiet (fail)
  clear c0
  go_wp2_with (go_at_call 25; refine (isLetter_any _ _).mono ?_; rintro e w' ⟨he, rfl⟩; rw [HL.out] at he; subst he)
  go_ret
  exact ⟨rfl, HBz.out, HCz.out.drew _, HGz.out.trans (grown_drewN _ _ _)⟩


set_option maxHeartbeats 2000000 in
theorem reader_char (w : World) (c : Nat) (s : ByteArray) (st p m : Nat) (hc : Cur w c s st p m) (_ : s.size ≤ 20000) (hp : p < s.size) (hl : letB (byteAt s p) = false) (hd : digB (byteAt s p) = false) (h95 : byteAt s p ≠ 95) (h39 : byteAt s p = 39) :
    Calls Tryz.prog 11 #[.pointer (some ⟨c, 0, none⟩)] w fun e w' => ∃ bf bc : Nat, e = .returned (.func (.func 56) #[] #[.pointer (some ⟨bf, 0, none⟩), .pointer (some ⟨bc, 0, none⟩)]) ∧ w'.cell? ⟨bf, 0, none⟩ = some (.func (.func 32) #[] #[.pointer (some ⟨w.heap.size, 0, none⟩)]) ∧ w'.cell? ⟨bc, 0, none⟩ = some (.pointer (some ⟨c, 0, none⟩)) ∧ w.heap.size ≤ bc ∧ w'.cell? ⟨w.heap.size, 0, none⟩ = some (.pointer (some ⟨c, 0, none⟩)) ∧ Cur w' c s p p m ∧ w.grownBy w' (some c) := by
  have hlt := hc.lt
  obtain ⟨wx, wy, hwx, hbx, hcx, hwy, hby, hcy, hgy⟩ := reader_start w c s st p m hc
  have hmf : ∀ (fn : Fn) (first cap : Array Value) (w : World), (Instr.makeFunc fn first cap).run Tryz.prog w = .ok (.func fn first cap) w := fun _ _ _ _ => rfl
  have HB : Hid (byteAt s p = (s[p]'hp).toNat) := by show _ = _; simp [byteAt, hp]
  have HL : Hid (letB ((s[p]'hp).toNat : Int) = false) := by show _ = _; rw [← HB.out]; exact hl
  have HD : Hid (digB ((s[p]'hp).toNat : Int) = false) := by show _ = _; rw [← HB.out]; exact hd
  have n95 : (((s[p]'hp).toNat : Int) == 95) = false := by rw [← HB.out]; simpa using h95
  have n39 : (((s[p]'hp).toNat : Int) == 39) = true := by rw [← HB.out, h39]; rfl
  clear hl hd h95 h39
  have HCy := Lib.hid hcy
  have HGy := Lib.hid hgy
  have HWx := Lib.hid hwx
  have HWy := Lib.hid hwy
  have HBy := Lib.hid hby
  have i1 : (p : Int) < s.size := by omega
  have i0 : (0 : Int) ≤ p := by omega
  have c2 := hcx.pos
  have f1 := hcx.free 1
  have c1 := hcx.start
  clear hc hwx hwy hcx hcy hgy hby
  go_enter Tryz.func11, Tryz.ntmps11
  go_upto_region 1 with (fail)
  rw [← HWx.out]
  go_region
  rw [← HWy.out]
  obtain ⟨wz, hwz⟩ : ∃ wz, wz = wy.drew := ⟨_, rfl⟩
  have HCz : Hid (Cur wz c s p p m) := by rw [hwz]; exact HCy.out.drew 1
  have HGz : Hid (w.grownBy wz (some c)) := by rw [hwz]; exact HGy.out.trans (grown_drewN _ 1 _)
  have HBz : Hid (wz.cell? ⟨w.heap.size, 0, none⟩ = some (.pointer (some ⟨c, 0, none⟩))) := by rw [hwz]; exact HBy.out
  rw [← hwz]
  clear hwz c2 f1 c1 hbx
  have c0 := HCz.out.text
  have c2 := HCz.out.pos
  have hbz := HBz.out
  have hsz := HGz.out.size
  go_wp2_with fail
  go_quiet (fail)
  clear c0
  go_wp2_with (first | (go_at_call 25; refine (isLetter_any _ _).mono ?_; rintro e w' ⟨he, rfl⟩; rw [HL.out] at he; subst he) | (go_at_call 28; refine (isDigit_any _ _).mono ?_; rintro e w' ⟨he, rfl⟩; rw [HD.out] at he; subst he) | (go_at_call 29; refine (closed_any _ c _ _).mono ?_; rintro e w2 ⟨rfl, q1, q2, q3, q4⟩))
  go_ret
  exact ⟨_, _, rfl, q1, q2, hsz, cell_grown HBz.out ((grown_drewN wz _ none).trans q4) (by simp), (HCz.out.drew _).kept q4 (by simp), (HGz.out.trans (grown_drewN _ _ _)).trans (grown_row q4 c)⟩

set_option maxHeartbeats 2000000 in
theorem reader_block (w : World) (c : Nat) (s : ByteArray) (st p m : Nat) (hc : Cur w c s st p m) (_ : s.size ≤ 20000) (hp : p < s.size) (hl : letB (byteAt s p) = false) (hd : digB (byteAt s p) = false) (h95 : byteAt s p ≠ 95) (h39 : byteAt s p ≠ 39) (h34 : byteAt s p = 34) (h3 : Lib.hasPrefix (s.extract p s.size).data.toList quote3.data.toList = true) :
    Calls Tryz.prog 11 #[.pointer (some ⟨c, 0, none⟩)] w fun e w' => e = .returned (.func (.func 34) #[] #[.pointer (some ⟨w.heap.size, 0, none⟩)]) ∧ w'.cell? ⟨w.heap.size, 0, none⟩ = some (.pointer (some ⟨c, 0, none⟩)) ∧ Cur w' c s p p m ∧ w.grownBy w' (some c) := by
  have hlt := hc.lt
  obtain ⟨wx, wy, hwx, hbx, hcx, hwy, hby, hcy, hgy⟩ := reader_start w c s st p m hc
  have hmf : ∀ (fn : Fn) (first cap : Array Value) (w : World), (Instr.makeFunc fn first cap).run Tryz.prog w = .ok (.func fn first cap) w := fun _ _ _ _ => rfl
  have HB : Hid (byteAt s p = (s[p]'hp).toNat) := by show _ = _; simp [byteAt, hp]
  have HL : Hid (letB ((s[p]'hp).toNat : Int) = false) := by show _ = _; rw [← HB.out]; exact hl
  have HD : Hid (digB ((s[p]'hp).toNat : Int) = false) := by show _ = _; rw [← HB.out]; exact hd
  have n95 : (((s[p]'hp).toNat : Int) == 95) = false := by rw [← HB.out]; simpa using h95
  have n39 : (((s[p]'hp).toNat : Int) == 39) = false := by rw [← HB.out]; simpa using h39
  have n34 : (((s[p]'hp).toNat : Int) == 34) = true := by rw [← HB.out]; rw [h34]; rfl
  have H3 := Lib.hid h3
  clear hl hd h95 h39 h34 h3
  have HCy := Lib.hid hcy
  have HGy := Lib.hid hgy
  have HWx := Lib.hid hwx
  have HWy := Lib.hid hwy
  have HBy := Lib.hid hby
  have i1 : (p : Int) < s.size := by omega
  have i0 : (0 : Int) ≤ p := by omega
  have c2 := hcx.pos
  have f1 := hcx.free 1
  have c1 := hcx.start
  clear hc hwx hwy hcx hcy hgy hby
  go_enter Tryz.func11, Tryz.ntmps11
  go_upto_region 1 with (fail)
  rw [← HWx.out]
  go_region
  rw [← HWy.out]
  obtain ⟨wz, hwz⟩ : ∃ wz, wz = wy.drew := ⟨_, rfl⟩
  have HCz : Hid (Cur wz c s p p m) := by rw [hwz]; exact HCy.out.drew 1
  have HGz : Hid (w.grownBy wz (some c)) := by rw [hwz]; exact HGy.out.trans (grown_drewN _ 1 _)
  have HBz : Hid (wz.cell? ⟨w.heap.size, 0, none⟩ = some (.pointer (some ⟨c, 0, none⟩))) := by rw [hwz]; exact HBy.out
  rw [← hwz]
  clear hwz c2 f1 c1 hbx
  have c0 := HCz.out.text
  have c2 := HCz.out.pos
  have hbz := HBz.out
  have hsz := HGz.out.size
  go_wp2_with fail
  go_quiet (fail)
  clear c0
  go_wp2_with (first | (go_at_call 25; refine (isLetter_any _ _).mono ?_; rintro e w' ⟨he, rfl⟩; rw [HL.out] at he; subst he) | (go_at_call 28; refine (isDigit_any _ _).mono ?_; rintro e w' ⟨he, rfl⟩; rw [HD.out] at he; subst he) | (go_at_call 20; refine (has_any s quote3 c p _ (by omega) (HCz.out.drew _).text (HCz.out.drew _).pos).mono ?_; rintro e w' ⟨he, n3, rfl⟩; rw [H3.out] at he; subst he))
  go_ret
  exact ⟨rfl, HBz.out, HCz.out.drew _, HGz.out.trans (grown_drewN _ _ _)⟩


end Tk
end Go.Proofs.YtmphkifhnjfkmaaGreatDoor

namespace Go.Proofs.YtmphkifhnjfkmaaGreatDoor
open Go.ChangeShapes Go.WideShapes Go.ChangeAt Go.RowKit Go.WideMaps Go.Maps
namespace Tk

set_option maxHeartbeats 2000000 in
set_option maxRecDepth 100000 in
theorem caught_fault (a b c : Nat) (st : Nat) (code : Int) (w : World) (va vb vc : Value) (ha : Boxed w a 22 va) (hb : Boxed w b 3 vb) (hc : Boxed w c 23 vc) (hab : a ≠ b) (hac : a ≠ c) (hbc : b ≠ c) :
    CallsD Tryz.prog 8 #[.pointer (some ⟨a, 0, none⟩), .pointer (some ⟨b, 0, none⟩), .pointer (some ⟨c, 0, none⟩)] (.panicking (faultC st code)) w fun e u' w' =>
      e = .returned (.tuple #[]) ∧ u' = .panicking [{ v := .iface 34 (.agg #[.int .i64 st, .int .i64 code]), recovered := true }] ∧
        w'.cell? ⟨a, 0, none⟩ = some (.slice none 0 0) ∧ w'.cell? ⟨b, 0, none⟩ = some (.int .i64 st) ∧ w'.cell? ⟨c, 0, none⟩ = some (.int .i64 code) ∧ ∀ B, B ≤ a → B ≤ b → B ≤ c → B ≤ w.heap.size → Below B w w' := by
  refine callsD_of_wpS Tryz.func8 rfl fun c₀ cs hu => ?_
  apply wpS_seq
  apply wpS_region
  simp [wpOpsS, go_sem, recoverD, hu, Tryz.ntmps8, Exit.thenS, faultC]
  apply wpS_seq
  apply wpS_seq
  apply wpS_region
  simp [wpOpsS, go_sem, Exit.thenS]
  refine wpS_cond (t := false) (by simp [Act.eval, Array.replicate]) ?_
  simp only [Bool.false_eq_true, if_false]
  refine wpS_of_wp (wp_skip ?_)
  simp only [Exit.thenS]
  refine wpS_of_wp ?_
  simp only [Array.replicate_succ, Array.replicate_zero, List.push_toArray, List.append_toArray, List.nil_append, List.cons_append, List.setIfInBounds_toArray, List.set_cons_zero, List.set_cons_succ]
  have a0 := ha.cell
  have af := ha.frozen
  have b0 := hb.cell
  have bf := hb.frozen
  have k0 := hc.cell
  have kf := hc.frozen
  have hta : ∀ (w : World) (v : Value), (Instr.typeAssert (.iface 34 v) 20 34 true).run Tryz.prog w = .ok (.tuple #[v, .bool true]) w := fun w v => by
    simp [Instr.typeAssert, run_underlying Tryz.underlying34, go_sem, Result.andThen]
  have hla := lt_cell a0
  have hlb := lt_cell b0
  have hlc := lt_cell k0
  go_upto_region 5 with (fail)
  obtain ⟨wx, hwx⟩ : ∃ wx, wx = (w.alloc (.cells #[.int .i64 st, .int .i64 code] 34)) := ⟨_, rfl⟩
  have hgx : w.grownBy wx none := by rw [hwx]; exact World.grownBy_alloc w _ none
  have hblk : wx.heap[w.heap.size]? = some (.cells #[.int .i64 st, .int .i64 code] 34) := by rw [hwx]; exact World.alloc_heap_new w _
  have ha2 := ha.kept hgx (by simp)
  have hb2 := hb.kept hgx (by simp)
  have hc2 := hc.kept hgx (by simp)
  rw [← hwx]
  clear hwx a0 af b0 bf k0 kf
  have a0 := ha2.cell
  have af := ha2.frozen
  have b0 := hb2.cell
  have bf := hb2.frozen
  have k0 := hc2.cell
  have kf := hc2.frozen
  have x0 : wx.cell? ⟨w.heap.size, 0, none⟩ = some (.int .i64 st) := by rw [Lib.cell_of_heap hblk]; rfl
  have x1 : wx.cell? ⟨w.heap.size, 1, none⟩ = some (.int .i64 code) := by rw [Lib.cell_of_heap hblk]; rfl
  have hla' : a < w.heap.size := hla
  have hlb' : b < w.heap.size := hlb
  have hlc' : c < w.heap.size := hlc
  have hgsz := hgx.size
  have HGx := Lib.hid hgx
  have HA := Lib.hid ha2
  have HB := Lib.hid hb2
  have HC := Lib.hid hc2
  have n1 : ¬ a = w.heap.size := by omega
  have n2 : ¬ b = w.heap.size := by omega
  have n3 : ¬ c = w.heap.size := by omega
  have n4 : ¬ w.heap.size = a := by omega
  have n5 : ¬ w.heap.size = b := by omega
  have n6 : ¬ w.heap.size = c := by omega
  have n7 : ¬ a = b := hab
  have n8 : ¬ a = c := hac
  have n9 : ¬ b = c := hbc
  have n10 : ¬ b = a := fun e => hab e.symm
  have n11 : ¬ c = a := fun e => hac e.symm
  have n12 : ¬ c = b := fun e => hbc e.symm
  clear hgx hblk ha2 hb2 hc2 ha hb hc hla hlb hlc hab hac hbc hgsz hla' hlb' hlc'
  generalize hg : w.heap.size = g at n1 n2 n3 n4 n5 n6 x0 x1 ⊢
  have HG := Lib.hid hg
  clear hg
  go_region
  obtain ⟨wf, hwf⟩ : ∃ wf, wf = (((wx.setCell ⟨a, 0, none⟩ (.slice none 0 0)).setCell ⟨b, 0, none⟩ (.int .i64 st)).setCell ⟨c, 0, none⟩ (.int .i64 code)).drew := ⟨_, rfl⟩
  rw [← hwf]
  have ga := HA.out.set (.slice none 0 0)
  have gb := (HB.out.other (B' := a) (fun e => n7 (by first | exact e | exact e.symm)) (.slice none 0 0)).set (.int .i64 st)
  have gc := ((HC.out.other (B' := a) (fun e => n8 (by first | exact e | exact e.symm)) (.slice none 0 0)).other (B' := b) (fun e => n9 (by first | exact e | exact e.symm)) (.int .i64 st)).set (.int .i64 code)
  have ra : wf.cell? ⟨a, 0, none⟩ = some (.slice none 0 0) := by
    rw [hwf]
    exact ((ga.other (B' := b) (fun e => n7 (by first | exact e | exact e.symm)) _).other (B' := c) (fun e => n8 (by first | exact e | exact e.symm)) _).cell
  have rb : wf.cell? ⟨b, 0, none⟩ = some (.int .i64 st) := by
    rw [hwf]
    exact (gb.other (B' := c) (fun e => n9 (by first | exact e | exact e.symm)) _).cell
  have rc : wf.cell? ⟨c, 0, none⟩ = some (.int .i64 code) := by
    rw [hwf]
    exact gc.cell
  have rz : ∀ B, B ≤ a → B ≤ b → B ≤ c → B ≤ w.heap.size → Below B w wf := by
    intro B h1 h2 h3 h4
    rw [hwf]
    have q : Below B w wx := (Below.refl B w).grown HGx.out h4 (fun k e => by cases e)
    exact (((q.setCell (p := ⟨a, 0, none⟩) h1 _).setCell (p := ⟨b, 0, none⟩) h2 _).setCell (p := ⟨c, 0, none⟩) h3 _).drew
  have HRz := Lib.hid rz
  clear hwf ga gb gc rz
  change bodyPostS _ _ _ _ _ _ _ _ _
  simp [bodyPostS, results, Tryz.results8, ra, rb, rc]
  exact HRz.out

end Tk
end Go.Proofs.YtmphkifhnjfkmaaGreatDoor
