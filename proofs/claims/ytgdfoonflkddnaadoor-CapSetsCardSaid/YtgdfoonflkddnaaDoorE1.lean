/- Contracts of the functions over names. -/
import Derived.Test.YtgdfoonflkddnaaDoorA6
import Derived.WalkLawsBesides
import Derived.WalkSpells
namespace Go.Proofs.YtgdfoonflkddnaaDoor
open Go.ChangeShapes Go.WideShapes Go.ChangeAt Go.RowKit
namespace Cp

def nmL : List (List UInt8) := [[], [105, 115, 111], [116, 114, 110], [114, 101, 102], [118, 97, 108], [98, 111, 120], [116, 97, 103], [35, 114, 101, 97, 100], [35, 115, 101, 110, 100], [35, 115, 104, 97, 114, 101], [35, 97, 108, 105, 97, 115], [35, 97, 110, 121]]
def nmS (c : Nat) : ByteArray := ⟨(nmL.getD c []).toArray⟩
def nmV : Array Value := #[.string (nmS 0), .string (nmS 1), .string (nmS 2), .string (nmS 3), .string (nmS 4), .string (nmS 5), .string (nmS 6), .string (nmS 7), .string (nmS 8), .string (nmS 9), .string (nmS 10), .string (nmS 11)]

/-- The table of names. -/
def NamesAt (w : World) : Prop := ∃ t fr, w.heap[0]? = some (.cells nmV t fr)

theorem nmV_at (k : Nat) (h : k < 12) : nmV[k]? = some (.string (nmS k)) := by
  have : k = 0 ∨ k = 1 ∨ k = 2 ∨ k = 3 ∨ k = 4 ∨ k = 5 ∨ k = 6 ∨ k = 7 ∨ k = 8 ∨ k = 9 ∨ k = 10 ∨ k = 11 := by omega
  rcases this with rfl | rfl | rfl | rfl | rfl | rfl | rfl | rfl | rfl | rfl | rfl | rfl <;> rfl

theorem NamesAt.cell {w : World} (h : NamesAt w) (k : Nat) (hk : k < 12) : w.cell? ⟨0, k, none⟩ = some (.string (nmS k)) := by
  obtain ⟨t, fr, hg⟩ := h
  rw [cell_of_row w 0 k _ _ _ hg, nmV_at k hk]

def nameS (c : Int) : ByteArray := if (decide (0 ≤ c) && decide (c < 12)) = true then nmS c.toNat else ⟨#[]⟩

theorem ret_string {a b : ByteArray} (h : a = b) : Ending.returned (.string a) = .returned (.string b) := by rw [h]

set_option maxHeartbeats 400000 in
theorem Name_any (c : Int) (w : World) (hN : NamesAt w) :
    Calls Tryd.prog 11 #[.int .i64 c] w fun e w' => e = .returned (.string (nameS c)) ∧ w = w' := by
  by_cases h0 : 0 ≤ c
  · by_cases h1 : c < 12
    · have H : nameS c = nmS c.toNat := by simp [nameS, h0, h1]
      rw [H]
      clear H
      obtain ⟨n, rfl⟩ := Int.eq_ofNat_of_zero_le h0
      simp only [Int.toNat_natCast]
      have hc := hN.cell n (by omega)
      generalize nmS n = x at hc ⊢
      clear hN
      go_enter Tryd.func11, Tryd.ntmps11
      go_wp2
      go_ret
      exact ⟨rfl, rfl⟩
    · have H : nameS c = ⟨#[]⟩ := by simp [nameS, h1]
      rw [H]
      clear H hN
      go_enter Tryd.func11, Tryd.ntmps11
      go_wp2
      go_ret
      exact ⟨rfl, rfl⟩
  · have H : nameS c = ⟨#[]⟩ := by simp [nameS, h0]
    rw [H]
    clear H hN
    go_enter Tryd.func11, Tryd.ntmps11
    go_wp2
    go_ret
    exact ⟨rfl, rfl⟩

theorem idx_any : ∀ (k : Nat), k < 12 → ∀ (w : World), (Instr.index 50 (.agg nmV) (.int .i64 k)).run Tryd.prog w = .ok (.string (nmS k)) w
  | 0, _, _ => by kernel_rfl
  | 1, _, _ => by kernel_rfl
  | 2, _, _ => by kernel_rfl
  | 3, _, _ => by kernel_rfl
  | 4, _, _ => by kernel_rfl
  | 5, _, _ => by kernel_rfl
  | 6, _, _ => by kernel_rfl
  | 7, _, _ => by kernel_rfl
  | 8, _, _ => by kernel_rfl
  | 9, _, _ => by kernel_rfl
  | 10, _, _ => by kernel_rfl
  | 11, _, _ => by kernel_rfl
  | k + 12, h, _ => absurd h (by omega)

/-- None of the first names is this one. -/
def NoneTo (s : ByteArray) (k : Nat) : Prop := ∀ c, 1 ≤ c → c < k → ((nmS c).toList == s.toList) = false

/-- The capability with a name, 0 for none; and the error. -/
def parseN (s : ByteArray) : Nat := ((List.range 12).find? (fun c => decide (1 ≤ c) && ((nmS c).toList == s.toList))).getD 0
def parseI (s : ByteArray) : Int := parseN s
def parseE (s : ByteArray) : Int := if parseN s = 0 then 5 else 0

theorem parse_hit {s : ByteArray} {k : Nat} (h1 : 1 ≤ k) (h2 : k < 12) (hn : NoneTo s k) (he : ((nmS k).toList == s.toList) = true) : parseI s = k ∧ parseE s = 0 := by
  have hf : (List.range 12).find? (fun c => decide (1 ≤ c) && ((nmS c).toList == s.toList)) = some k := by
    rw [List.find?_eq_some_iff_append]
    refine ⟨by simp [h1, he], List.range k, (List.range' (k + 1) (12 - (k + 1))), ?_, ?_⟩
    · rw [List.range_eq_range', List.range_eq_range']
      have h := List.range'_append_1 (s := 0) (m := k) (n := 12 - k)
      rw [show k + (12 - k) = 12 by omega] at h
      rw [← h, show 12 - k = 12 - (k + 1) + 1 by omega, List.range'_succ, Nat.zero_add]
    · intro c hc
      rw [List.mem_range] at hc
      cases h : decide (1 ≤ c)
      · rfl
      · rw [hn c (by simpa using h) hc]
        rfl
  have : parseN s = k := by rw [parseN, hf]; rfl
  exact ⟨by rw [parseI, this], by rw [parseE, this, if_neg (by omega)]⟩

theorem parse_none {s : ByteArray} (hn : NoneTo s 12) : parseI s = 0 ∧ parseE s = 5 := by
  have hf : (List.range 12).find? (fun c => decide (1 ≤ c) && ((nmS c).toList == s.toList)) = none := by
    rw [List.find?_eq_none]
    intro c hc
    rw [List.mem_range] at hc
    cases h : decide (1 ≤ c)
    · simp
    · rw [hn c (by simpa using h) hc]
      simp
  have : parseN s = 0 := by rw [parseN, hf]; rfl
  exact ⟨by rw [parseI, this]; rfl, by rw [parseE, this]; rfl⟩

theorem NoneTo.next {s : ByteArray} {k : Nat} (h : NoneTo s k) (he : ((nmS k).toList == s.toList) = false) : NoneTo s (k + 1) := fun c h1 h2 => by
  by_cases hc : c = k
  · rw [hc]; exact he
  · exact h c h1 (by omega)

set_option maxHeartbeats 800000 in
theorem Parse_any (s : ByteArray) (w : World) (hN : NamesAt w) :
    Calls Tryd.prog 9 #[.string s] w fun e w' => e = .returned (.tuple #[.int .i64 (parseI s), .int .i64 (parseE s)]) ∧ w = w' := by
  obtain ⟨t, fr, hg⟩ := hN
  have G := Lib.hid hg
  clear hg
  go_enter Tryd.func9, Tryd.ntmps9
  go_wp2_with (refine wpList_load_row rfl 50 (.global 0) rfl 0 rfl _ _ _ _ G.out Tryd.underlying50 rfl (by kernel_rfl) ?_)
  go_loop [7] (fun i => ∃ k : Nat, k ≤ 12 ∧ i = .int .i64 k ∧ NoneTo s k) (fun i => 12 - (intOf i).toNat)
  case atStart => exact ⟨0, by omega, rfl, fun c _ h => absurd h (by omega)⟩
  case round =>
    obtain ⟨k, hk, rfl, hno⟩ := hrel
    have HN := Lib.hid hno
    clear hno
    by_cases hlt : k < 12
    · have hi := idx_any k hlt
      by_cases h0 : 0 < k
      · cases he : ((nmS k).toList == s.toList)
        · have HE := Lib.hid (HN.out.next he)
          go_wp2
          go_round
          case rel => exact ⟨k + 1, by omega, by go_num, HE.out⟩
          case measure => simp [intOf]; omega
        · have HE := Lib.hid (parse_hit h0 hlt HN.out he)
          go_wp2
          go_ret2
          exact ⟨ret_ints HE.out.1.symm HE.out.2.symm, rfl⟩
      · have HE : Hid (NoneTo s (k + 1)) := fun c h1 h2 => absurd h2 (by omega)
        go_wp2
        go_round
        case rel => exact ⟨k + 1, by omega, by go_num, HE.out⟩
        case measure => simp [intOf]; omega
    · have HE : Hid (NoneTo s 12) := fun c h1 h2 => HN.out c h1 (by omega)
      go_wp2
      go_ret2
      exact ⟨ret_ints (parse_none HE.out).1.symm (parse_none HE.out).2.symm, rfl⟩

end Cp
end Go.Proofs.YtgdfoonflkddnaaDoor
