/- A symbol: the longest one that stands at the cursor. -/
import Derived.Test.YtlpcpnbjpbhlgaaGreatDoorA7
import Derived.Laws.Rows
namespace Go.Proofs.YtlpcpnbjpbhlgaaGreatDoor
open Go.ChangeShapes Go.WideShapes Go.ChangeAt Go.RowKit Go.WideMaps Go.Maps
namespace Tk

def symL : List (List UInt8) := [[60, 60], [62, 62], [61, 61], [33, 61], [60, 61], [62, 61], [61, 62], [45, 62], [46, 62], [43, 63], [45, 63], [42, 63], [47, 63], [37, 63], [35, 114, 101, 97, 100], [35, 115, 101, 110, 100], [35, 115, 104, 97, 114, 101], [35, 97, 108, 105, 97, 115], [35, 97, 110, 121], [40], [41], [91], [93], [123], [125], [44], [46], [58], [59], [63], [61], [60], [62], [43], [45], [42], [47], [37], [124], [38], [94], [33], [126]]
def symB : List ByteArray := symL.map fun l => ⟨l.toArray⟩
def symCells : Array Value := (symB.map Value.string).toArray

/-- The table of the symbols. -/
structure Syms (w : World) : Prop where
  block : ∃ t fr, w.heap[0]? = some (.cells symCells t fr)

theorem Syms.drew {w : World} (h : Syms w) (n : Nat) : Syms (w.drewN n) := ⟨h.block⟩

def hasB (s : ByteArray) (a : Nat) (x : ByteArray) : Bool := Lib.hasPrefix (s.extract a s.size).data.toList x.data.toList
def wholeB (s : ByteArray) (a : Nat) (x : ByteArray) : Bool := !letB (byteAt x (x.size - 1)) || !partB (byteAt s (a + x.size))

/-- The longest of the first k symbols. -/
def bestN (s : ByteArray) (a : Nat) : Nat → ByteArray
  | 0 => ⟨#[]⟩
  | k + 1 => if decide ((bestN s a k).size < (symB.getD k ⟨#[]⟩).size) && hasB s a (symB.getD k ⟨#[]⟩) && wholeB s a (symB.getD k ⟨#[]⟩) then symB.getD k ⟨#[]⟩ else bestN s a k

theorem bytes_some {y : ByteArray} (h : 1 ≤ y.size) : y.toList.isEmpty = false := by
  obtain ⟨d⟩ := y
  have h' : 1 ≤ d.size := h
  rw [ByteArray.toList_mk]
  cases hd : d.toList with
  | nil => rw [← Array.length_toList, hd] at h'; cases h'
  | cons _ _ => rfl

theorem symB_len : symB.length = 43 := by decide
theorem sym_size (k : Nat) (hk : k < 43) : 1 ≤ (symB.getD k ⟨#[]⟩).size ∧ (symB.getD k ⟨#[]⟩).size ≤ 6 := by
  have hall : (symB.all fun l => decide (1 ≤ l.size) && decide (l.size ≤ 6)) = true := by decide +kernel
  have hm : symB.getD k ⟨#[]⟩ ∈ symB := by
    rw [List.getD_eq_getElem?_getD, List.getElem?_eq_getElem (by rw [symB_len]; exact hk)]
    exact List.getElem_mem _
  have := List.all_eq_true.1 hall _ hm
  simp only [Bool.and_eq_true, decide_eq_true_eq] at this
  exact this

theorem sym_idx : ∀ (k : Nat), k < 43 → ∀ (w : World), (Instr.index 50 (.agg symCells) (.int .i64 k)).run Tryz.prog w = .ok (.string (symB.getD k ⟨#[]⟩)) w
  | 0, _, _ => by kernel_rfl
  | 1, _, _ => by kernel_rfl
  | 2, _, _ => by kernel_rfl
  | 3, _, _ => by kernel_rfl
  | 4, _, _ => by kernel_rfl
  | 5, _, _ => by kernel_rfl
  | 6, _, _ => by kernel_rfl
  | 7, _, _ => by kernel_rfl
  | 8, _, _ => by kernel_rfl
  | 9, _, _ => by kernel_rfl
  | 10, _, _ => by kernel_rfl
  | 11, _, _ => by kernel_rfl
  | 12, _, _ => by kernel_rfl
  | 13, _, _ => by kernel_rfl
  | 14, _, _ => by kernel_rfl
  | 15, _, _ => by kernel_rfl
  | 16, _, _ => by kernel_rfl
  | 17, _, _ => by kernel_rfl
  | 18, _, _ => by kernel_rfl
  | 19, _, _ => by kernel_rfl
  | 20, _, _ => by kernel_rfl
  | 21, _, _ => by kernel_rfl
  | 22, _, _ => by kernel_rfl
  | 23, _, _ => by kernel_rfl
  | 24, _, _ => by kernel_rfl
  | 25, _, _ => by kernel_rfl
  | 26, _, _ => by kernel_rfl
  | 27, _, _ => by kernel_rfl
  | 28, _, _ => by kernel_rfl
  | 29, _, _ => by kernel_rfl
  | 30, _, _ => by kernel_rfl
  | 31, _, _ => by kernel_rfl
  | 32, _, _ => by kernel_rfl
  | 33, _, _ => by kernel_rfl
  | 34, _, _ => by kernel_rfl
  | 35, _, _ => by kernel_rfl
  | 36, _, _ => by kernel_rfl
  | 37, _, _ => by kernel_rfl
  | 38, _, _ => by kernel_rfl
  | 39, _, _ => by kernel_rfl
  | 40, _, _ => by kernel_rfl
  | 41, _, _ => by kernel_rfl
  | 42, _, _ => by kernel_rfl
  | k + 43, h, _ => absurd h (by omega)

theorem best_size (s : ByteArray) (a : Nat) : ∀ k, k ≤ 43 → (bestN s a k).size ≤ 6
  | 0, _ => Nat.zero_le _
  | k + 1, hk => by
    unfold bestN
    split
    · exact (sym_size k (by omega)).2
    · exact best_size s a k (by omega)

set_option maxHeartbeats 1000000 in
theorem symbol_any (w : World) (c : Nat) (s : ByteArray) (st a m : Nat) (hc : Cur w c s st a m) (hs : s.size ≤ 20000) (ha : a ≤ s.size) (hS : Syms w) (hc0 : c ≠ 0) (hne : 1 ≤ (bestN s a 43).size) :
    Calls Tryz.prog 59 #[.pointer (some ⟨c, 0, none⟩)] w fun e w' => e = .returned (.agg #[.int .i64 6, .string (bestN s a 43), .int .i64 0, .bool false]) ∧ Cur w' c s st (a + (bestN s a 43).size) m ∧ w.grownBy w' (some c) := by
  obtain ⟨tt, fr, hblk⟩ := hS.block
  have HC := Lib.hid hc
  have HNE := Lib.hid hne
  have h0w : 0 < w.heap.size := by
    rcases Nat.lt_or_ge 0 w.heap.size with h1 | h1
    · exact h1
    · rw [Array.getElem?_eq_none h1] at hblk; cases hblk
  have G : Hid ((w.alloc (.cells #[.int .i64 0, .string ⟨#[]⟩, .int .i64 0, .bool false] 34)).heap[0]? = some (.cells symCells tt fr)) := by
    show _ = _
    rw [heap_alloc_old _ _ h0w]
    exact hblk
  obtain ⟨V, hV⟩ : ∃ V, V = symCells := ⟨_, rfl⟩
  have hidx : ∀ (k : Nat), k < 43 → ∀ (w : World), (Instr.index 50 (.agg V) (.int .i64 k)).run Tryz.prog w = .ok (.string (symB.getD k ⟨#[]⟩)) w := by rw [hV]; exact sym_idx
  have HIdx := Lib.hid hidx
  have hVs : (Tryz.prog.info? 50).map (·.size) = some V.size := by rw [hV]; kernel_rfl
  rw [← hV] at G
  have HV := Lib.hid hVs
  clear hidx hV hVs
  have hlc : c < w.heap.size := HC.out.lt
  have hcB' : w.heap.size ≠ c := by omega
  have hcB : some w.heap.size ≠ some c := by intro h; cases h; omega
  obtain ⟨w0, hw0⟩ : ∃ w0, w0 = w.alloc (.cells #[.int .i64 0, .string ⟨#[]⟩, .int .i64 0, .bool false] 34) := ⟨_, rfl⟩
  have HC0 : Hid (Cur w0 c s st a m) := by rw [hw0]; exact HC.out.kept (World.grownBy_alloc w _ none) (by simp)
  have HG0 : Hid (w.grownBy w0 (some c)) := by rw [hw0]; exact World.grownBy_alloc w _ _
  have HB0 : Hid (Res w0 w.heap.size) := by rw [hw0]; exact Res.new w
  have HW := Lib.hid hw0
  clear hc hS hne hblk hw0
  go_enter Tryz.func59, Tryz.ntmps59
  go_wp2_with (refine wpList_load_row rfl 50 (.global 0) rfl 0 rfl _ _ _ _ G.out Tryz.underlying50 rfl HV.out ?_)
  go_loopw [3, 8] (fun best i wr => ∃ k : Nat, k ≤ 43 ∧ i = .int .i64 k ∧ best = .string (bestN s a k) ∧ ∃ n, wr = w0.drewN n) (fun _ i _ => 43 - (intOf i).toNat)
  case atStart => exact ⟨0, by omega, rfl, rfl, 0, HW.out ▸ rfl⟩
  case round =>
    obtain ⟨k, hk, rfl, rfl, n, rfl⟩ := hrel
    by_cases hlt : k < 43
    · have hi := HIdx.out k hlt
      obtain ⟨hx1, hx2⟩ := sym_size k hlt
      have hnext : bestN s a (k + 1) = if decide ((bestN s a k).size < (symB.getD k ⟨#[]⟩).size) && hasB s a (symB.getD k ⟨#[]⟩) && wholeB s a (symB.getD k ⟨#[]⟩) then symB.getD k ⟨#[]⟩ else bestN s a k := rfl
      have hbs := best_size s a k hk
      have HN := Lib.hid hnext
      clear hnext
      generalize symB.getD k ⟨#[]⟩ = x at hi hx1 hx2 HN
      have HN0 : ∃ b, b = bestN s a k := ⟨_, rfl⟩
      obtain ⟨b, hb⟩ := HN0
      rw [← hb] at hbs HN ⊢
      have HB := Lib.hid hb
      clear hb
      have z1 : IntKind.i64.wrap ((x.size : Int) - 1) = (x.size : Int) - 1 := IntWalk.i64_in _ (by omega)
      have z2 : (1 : Int) ≤ (x.size : Int) := by omega
      have z3 : (x.size : Int) - 1 < x.size := by omega
      have z4 : ((x.size : Int) - 1).toNat = x.size - 1 := by omega
      have z5 : x.size - 1 < x.size := by omega
      have HBT : Hid (byteAt x (x.size - 1) = (x[x.size - 1]'z5).toNat) := by show _ = _; simp [byteAt, z5]
      have l43 : (k : Int) < 43 := by omega
      cases hL : letB ((x[x.size - 1]'z5).toNat : Int)
      · have HWh : Hid (wholeB s a x = true) := by show _ = _; unfold wholeB; rw [HBT.out, hL]; rfl
        by_cases hS : b.size < x.size
        · have i1 : (b.size : Int) < x.size := by omega
          cases hH : Lib.hasPrefix (s.extract a s.size).data.toList x.data.toList
          · have hh : hasB s a x = false := hH
            have HE : Hid (bestN s a (k + 1) = b) := by show _ = _; rw [HN.out, hh]; simp
            have HHp := Lib.hid hH
            clear hh hS hH
            go_wp2_with (first | (go_at_call 71; refine (peek_any s a x.size c _ hs (by omega) (by omega) (HC0.out.drew _).text (HC0.out.drew _).pos).mono ?_; rintro e w' ⟨rfl, n1, rfl⟩) | (go_at_call 34; refine (isPart_any _ _).mono ?_; rintro e w' ⟨rfl, rfl⟩) | (go_at_call 46; refine (isLetter_any _ _).mono ?_; rintro e w' ⟨rfl, rfl⟩) | (go_at_call 42; refine (has_any s x c a _ ha (HC0.out.drew _).text (HC0.out.drew _).pos).mono ?_; rintro e w' ⟨he, n2, rfl⟩; rw [HHp.out] at he; subst he))
            exact ⟨⟨k + 1, by omega, by go_num, by rw [HE.out], _, rfl⟩, by simp [intOf]; omega⟩
          · have hh : hasB s a x = true := hH
            have HE : Hid (bestN s a (k + 1) = x) := by show _ = _; rw [HN.out, hh, HWh.out, decide_eq_true hS]; rfl
            have HHp := Lib.hid hH
            clear hh hS hH
            go_wp2_with (first | (go_at_call 71; refine (peek_any s a x.size c _ hs (by omega) (by omega) (HC0.out.drew _).text (HC0.out.drew _).pos).mono ?_; rintro e w' ⟨rfl, n1, rfl⟩) | (go_at_call 34; refine (isPart_any _ _).mono ?_; rintro e w' ⟨rfl, rfl⟩) | (go_at_call 46; refine (isLetter_any _ _).mono ?_; rintro e w' ⟨rfl, rfl⟩) | (go_at_call 42; refine (has_any s x c a _ ha (HC0.out.drew _).text (HC0.out.drew _).pos).mono ?_; rintro e w' ⟨he, n2, rfl⟩; rw [HHp.out] at he; subst he))
            exact ⟨⟨k + 1, by omega, by go_num, by rw [HE.out], _, rfl⟩, by simp [intOf]; omega⟩
        · have i1 : ¬ (b.size : Int) < x.size := by omega
          have i2 : decide ((b.size : Int) < x.size) = false := decide_eq_false i1
          have HE : Hid (bestN s a (k + 1) = b) := by show _ = _; rw [HN.out, decide_eq_false hS]; rfl
          have i4 : (x.size : Int) ≤ b.size := by omega
          go_wp2_with (first | (go_at_call 71; refine (peek_any s a x.size c _ hs (by omega) (by omega) (HC0.out.drew _).text (HC0.out.drew _).pos).mono ?_; rintro e w' ⟨rfl, n1, rfl⟩) | (go_at_call 34; refine (isPart_any _ _).mono ?_; rintro e w' ⟨rfl, rfl⟩) | (go_at_call 46; refine (isLetter_any _ _).mono ?_; rintro e w' ⟨rfl, rfl⟩))
          exact ⟨⟨k + 1, by omega, by go_num, by rw [HE.out], _, rfl⟩, by simp [intOf]; omega⟩
      · cases hP : partB (byteAt s (a + x.size))
        · have HWh : Hid (wholeB s a x = true) := by show _ = _; unfold wholeB; rw [HBT.out, hL, hP]; rfl
          by_cases hS : b.size < x.size
          · have i1 : (b.size : Int) < x.size := by omega
            cases hH : Lib.hasPrefix (s.extract a s.size).data.toList x.data.toList
            · have hh : hasB s a x = false := hH
              have HE : Hid (bestN s a (k + 1) = b) := by show _ = _; rw [HN.out, hh]; simp
              have HHp := Lib.hid hH
              clear hh hS hH
              go_wp2_with (first | (go_at_call 71; refine (peek_any s a x.size c _ hs (by omega) (by omega) (HC0.out.drew _).text (HC0.out.drew _).pos).mono ?_; rintro e w' ⟨rfl, n1, rfl⟩) | (go_at_call 34; refine (isPart_any _ _).mono ?_; rintro e w' ⟨rfl, rfl⟩) | (go_at_call 46; refine (isLetter_any _ _).mono ?_; rintro e w' ⟨rfl, rfl⟩) | (go_at_call 42; refine (has_any s x c a _ ha (HC0.out.drew _).text (HC0.out.drew _).pos).mono ?_; rintro e w' ⟨he, n2, rfl⟩; rw [HHp.out] at he; subst he))
              exact ⟨⟨k + 1, by omega, by go_num, by rw [HE.out], _, rfl⟩, by simp [intOf]; omega⟩
            · have hh : hasB s a x = true := hH
              have HE : Hid (bestN s a (k + 1) = x) := by show _ = _; rw [HN.out, hh, HWh.out, decide_eq_true hS]; rfl
              have HHp := Lib.hid hH
              clear hh hS hH
              go_wp2_with (first | (go_at_call 71; refine (peek_any s a x.size c _ hs (by omega) (by omega) (HC0.out.drew _).text (HC0.out.drew _).pos).mono ?_; rintro e w' ⟨rfl, n1, rfl⟩) | (go_at_call 34; refine (isPart_any _ _).mono ?_; rintro e w' ⟨rfl, rfl⟩) | (go_at_call 46; refine (isLetter_any _ _).mono ?_; rintro e w' ⟨rfl, rfl⟩) | (go_at_call 42; refine (has_any s x c a _ ha (HC0.out.drew _).text (HC0.out.drew _).pos).mono ?_; rintro e w' ⟨he, n2, rfl⟩; rw [HHp.out] at he; subst he))
              exact ⟨⟨k + 1, by omega, by go_num, by rw [HE.out], _, rfl⟩, by simp [intOf]; omega⟩
          · have i1 : ¬ (b.size : Int) < x.size := by omega
            have i2 : decide ((b.size : Int) < x.size) = false := decide_eq_false i1
            have HE : Hid (bestN s a (k + 1) = b) := by show _ = _; rw [HN.out, decide_eq_false hS]; rfl
            have i4 : (x.size : Int) ≤ b.size := by omega
            go_wp2_with (first | (go_at_call 71; refine (peek_any s a x.size c _ hs (by omega) (by omega) (HC0.out.drew _).text (HC0.out.drew _).pos).mono ?_; rintro e w' ⟨rfl, n1, rfl⟩) | (go_at_call 34; refine (isPart_any _ _).mono ?_; rintro e w' ⟨rfl, rfl⟩) | (go_at_call 46; refine (isLetter_any _ _).mono ?_; rintro e w' ⟨rfl, rfl⟩))
            exact ⟨⟨k + 1, by omega, by go_num, by rw [HE.out], _, rfl⟩, by simp [intOf]; omega⟩
        · have HWh : Hid (wholeB s a x = false) := by show _ = _; unfold wholeB; rw [HBT.out, hL, hP]; rfl
          by_cases hS : b.size < x.size
          · have i1 : (b.size : Int) < x.size := by omega
            cases hH : Lib.hasPrefix (s.extract a s.size).data.toList x.data.toList
            · have hh : hasB s a x = false := hH
              have HE : Hid (bestN s a (k + 1) = b) := by show _ = _; rw [HN.out, hh]; simp
              have HHp := Lib.hid hH
              clear hh hS hH
              go_wp2_with (first | (go_at_call 71; refine (peek_any s a x.size c _ hs (by omega) (by omega) (HC0.out.drew _).text (HC0.out.drew _).pos).mono ?_; rintro e w' ⟨rfl, n1, rfl⟩) | (go_at_call 34; refine (isPart_any _ _).mono ?_; rintro e w' ⟨rfl, rfl⟩) | (go_at_call 46; refine (isLetter_any _ _).mono ?_; rintro e w' ⟨rfl, rfl⟩) | (go_at_call 42; refine (has_any s x c a _ ha (HC0.out.drew _).text (HC0.out.drew _).pos).mono ?_; rintro e w' ⟨he, n2, rfl⟩; rw [HHp.out] at he; subst he))
              exact ⟨⟨k + 1, by omega, by go_num, by rw [HE.out], _, rfl⟩, by simp [intOf]; omega⟩
            · have HE : Hid (bestN s a (k + 1) = b) := by show _ = _; rw [HN.out, HWh.out]; simp
              have HHp := Lib.hid hH
              clear hS hH
              go_wp2_with (first | (go_at_call 71; refine (peek_any s a x.size c _ hs (by omega) (by omega) (HC0.out.drew _).text (HC0.out.drew _).pos).mono ?_; rintro e w' ⟨rfl, n1, rfl⟩) | (go_at_call 34; refine (isPart_any _ _).mono ?_; rintro e w' ⟨rfl, rfl⟩) | (go_at_call 46; refine (isLetter_any _ _).mono ?_; rintro e w' ⟨rfl, rfl⟩) | (go_at_call 42; refine (has_any s x c a _ ha (HC0.out.drew _).text (HC0.out.drew _).pos).mono ?_; rintro e w' ⟨he, n2, rfl⟩; rw [HHp.out] at he; subst he))
              exact ⟨⟨k + 1, by omega, by go_num, by rw [HE.out], _, rfl⟩, by simp [intOf]; omega⟩
          · have i1 : ¬ (b.size : Int) < x.size := by omega
            have i2 : decide ((b.size : Int) < x.size) = false := decide_eq_false i1
            have HE : Hid (bestN s a (k + 1) = b) := by show _ = _; rw [HN.out, decide_eq_false hS]; rfl
            have i4 : (x.size : Int) ≤ b.size := by omega
            go_wp2_with (first | (go_at_call 71; refine (peek_any s a x.size c _ hs (by omega) (by omega) (HC0.out.drew _).text (HC0.out.drew _).pos).mono ?_; rintro e w' ⟨rfl, n1, rfl⟩) | (go_at_call 34; refine (isPart_any _ _).mono ?_; rintro e w' ⟨rfl, rfl⟩) | (go_at_call 46; refine (isLetter_any _ _).mono ?_; rintro e w' ⟨rfl, rfl⟩))
            exact ⟨⟨k + 1, by omega, by go_num, by rw [HE.out], _, rfl⟩, by simp [intOf]; omega⟩
    · obtain rfl : k = 43 := by omega
      have hne := HNE.out
      have hbs := best_size s a 43 hk
      obtain ⟨y, hy⟩ : ∃ y, y = bestN s a 43 := ⟨_, rfl⟩
      rw [← hy] at hne hbs ⊢
      have HY := Lib.hid hy
      clear hy
      have hyb := bytes_some hne
      obtain ⟨wr, hwr⟩ : ∃ wr, wr = w0.drewN n := ⟨_, rfl⟩
      have HCr : Hid (Cur wr c s st a m) := by rw [hwr]; exact HC0.out.drew n
      have HGr : Hid (w.grownBy wr (some c)) := by rw [hwr]; exact HG0.out.trans (grown_drewN _ _ _)
      have HRr : Hid (Res wr w.heap.size) := by rw [hwr]; exact HB0.out.kept (grown_drewN _ _ _) hcB
      rw [← hwr]
      clear hwr
      have c2 := HCr.out.pos
      have f2 := HCr.out.free 2
      have hw : IntKind.i64.wrap ((a : Int) + y.size) = (a : Int) + y.size := IntWalk.i64_in _ (by omega)
      go_upto_region 12 with (fail)
      obtain ⟨wx, hwx⟩ : ∃ wx, wx = wr.setCell ⟨c, 2, none⟩ (.int .i64 ((a : Int) + y.size)) := ⟨_, rfl⟩
      have HCx : Hid (Cur wx c s st (a + y.size) m) := by rw [hwx]; exact HCr.out.move (a + y.size) _ (by omega)
      have HGx : Hid (w.grownBy wx (some c)) := by rw [hwx]; exact HGr.out.trans (grown_set _ ⟨c, 2, none⟩ _)
      have HRx : Hid (Res wx w.heap.size) := by rw [hwx]; exact HRr.out.kept (grown_set _ ⟨c, 2, none⟩ _) hcB
      rw [← hwx]
      clear hwx c2 f2 hw HCr HGr HRr
      have r0 := HRx.out.c0
      have r1 := HRx.out.c1
      have r2 := HRx.out.c2
      have r3 := HRx.out.c3
      have g0 := HRx.out.free 0
      have g1 := HRx.out.free 1
      have g2 := HRx.out.free 2
      have g3 := HRx.out.free 3
      go_wp2_with fail
      refine bodyPost_ret (v := .agg #[.int .i64 6, .string y, .int .i64 0, .bool false]) (by simp [results, Tryz.results59, go_sem, r0, r1, r2, r3]) rfl ⟨?_, ?_, ?_⟩
      · rw [← HY.out]
      · rw [← HY.out]
        exact (((HCx.out.other hcB' _).other hcB' _).other hcB' _).other hcB' _
      · exact grown_new (grown_new (grown_new (grown_new HGx.out (Nat.le_refl _) _) (Nat.le_refl _) _) (Nat.le_refl _) _) (Nat.le_refl _) _

end Tk
end Go.Proofs.YtlpcpnbjpbhlgaaGreatDoor
