/- Contract of cap.Members. -/
import Derived.Test.YtgdfoonflkddnaaDoorE2
namespace Go.Proofs.YtgdfoonflkddnaaDoor
open Go.ChangeShapes Go.WideShapes Go.ChangeAt Go.RowKit
namespace Cp

def memL : List Int := [0, 2, 4, 8, 16, 32, 64, 56, 82, 80, 120, 126]
/-- The members among the first capabilities. -/
def upTo (m : Int) : Nat → List Int
  | 0 => []
  | k + 1 => if hasB m ((k : Int) + 1) = true then upTo m k ++ [(k : Int) + 1] else upTo m k

theorem upTo_le (m : Int) : ∀ k, (upTo m k).length ≤ k
  | 0 => Nat.le_refl _
  | k + 1 => by
    have := upTo_le m k
    simp only [upTo]
    split
    · simp; omega
    · omega

theorem info3 : (Tryd.prog.info? 3).map (fun i => (i.zero, i.size, i.bytes)) = some (some (.int .i64 0), 1, 8) := by kernel_rfl

theorem NamesAt.below {w wr : World} (h : NamesAt w) (hb : Below w.heap.size w wr) : NamesAt wr := by
  obtain ⟨t, fr, hg⟩ := h
  have h0 : 0 < w.heap.size := by
    rcases Nat.eq_zero_or_pos w.heap.size with h | h
    · rw [Array.getElem?_eq_none (by omega)] at hg
      cases hg
    · exact h
  exact ⟨t, fr, (hb.block 0 h0).trans hg⟩

theorem TabAt.below {g : Nat} {l : List Int} {w wr : World} (h : TabAt g l w) (hb : Below w.heap.size w wr) : TabAt g l wr := fun i hi => by
  have h1 := h i hi
  have h0 : g < w.heap.size := World.block_lt_of_cell? w _ h1
  exact (World.cell?_of_block (hb.block g h0)).trans h1

theorem nm_ne : ∀ c : Nat, 1 ≤ c → c < 12 → (nmS c).toList.isEmpty = false
  | 0, h, _ => absurd h (by omega)
  | 1, _, _ => by kernel_rfl
  | 2, _, _ => by kernel_rfl
  | 3, _, _ => by kernel_rfl
  | 4, _, _ => by kernel_rfl
  | 5, _, _ => by kernel_rfl
  | 6, _, _ => by kernel_rfl
  | 7, _, _ => by kernel_rfl
  | 8, _, _ => by kernel_rfl
  | 9, _, _ => by kernel_rfl
  | 10, _, _ => by kernel_rfl
  | 11, _, _ => by kernel_rfl
  | k + 12, _, h => absurd h (by omega)

set_option maxHeartbeats 1600000 in
theorem Members_in (c : Nat) (w : World) (h1 : 1 ≤ c) (h2 : c < 12) (hN : NamesAt w) (hM : TabAt 1 memL w) :
    Calls Tryd.prog 16 #[.int .i64 c] w fun e w' => ∃ v, e = .returned v ∧ w'.ownsRow w.heap.size 3 1 v (upTo (memL.getD c 0) 6).length ((upTo (memL.getD c 0) 6).map (Value.int .i64)) ∧ Below w.heap.size w w' := by
  obtain ⟨i0, hi, hz0, hz1, hz2⟩ := info_parts info3
  generalize hm : memL.getD c 0 = m
  have MM := Lib.hid hm
  clear hm
  have N := Lib.hid hN
  have M := Lib.hid hM
  clear hN hM
  have c12 : (c : Int) < 12 := by omega
  have c0 : (0 : Int) ≤ c := by omega
  have ne := nm_ne c h1 h2
  have hn : nameS c = nmS c := by
    have : (decide (0 ≤ (c : Int)) && decide ((c : Int) < 12)) = true := by simp; omega
    rw [nameS, if_pos this]; rfl
  have HN := Lib.hid hn
  clear hn
  go_enter Tryd.func16, Tryd.ntmps16
  go_wp2
  go_loopw [3, 4] (fun v i wr => ∃ k : Nat, k ≤ 6 ∧ i = .int .i64 ((k : Int) + 1) ∧ wr.ownsRow w.heap.size 3 1 v (upTo m k).length ((upTo m k).map (Value.int .i64)) ∧ Below w.heap.size w wr) (fun _ i _ => 8 - (intOf i).toNat)
  case atStart => exact ⟨0, by omega, rfl, World.ownsRow_nil _ _ _ _, Below.refl _ _⟩
  case round =>
    obtain ⟨k, hk, rfl, hown, hb⟩ := hrel
    have HO := Lib.hid hown
    have HB := Lib.hid hb
    clear hown hb
    by_cases hlt : k < 6
    · have hcell := (M.out.below HB.out) c (by simp [memL]; omega)
      rw [MM.out] at hcell
      cases he : hasB m ((k : Int) + 1)
      · have hup : upTo m (k + 1) = upTo m k := by simp [upTo, he]
        have HU := Lib.hid hup
        clear hup
        go_wp2_with (first | (go_at_call 11; refine (Name_any _ _ (N.out.below HB.out)).mono ?_; rintro e w' ⟨rfl, rfl⟩; rw [HN.out]) | (go_at_call 51; refine (has_any _ _ _).mono ?_; rintro e w' ⟨rfl, rfl⟩))
        go_roundw
        case rel => exact ⟨k + 1, by omega, by go_num, by rw [HU.out]; exact HO.out, HB.out⟩
        case measure => simp [intOf]; omega
      · have hup : upTo m (k + 1) = upTo m k ++ [(k : Int) + 1] := by simp [upTo, he]
        have HU := Lib.hid hup
        clear hup
        have hle := upTo_le m k
        go_wp2_with (first | (go_at_call 11; refine (Name_any _ _ (N.out.below HB.out)).mono ?_; rintro e w' ⟨rfl, rfl⟩; rw [HN.out]) | (go_at_call 51; refine (has_any _ _ _).mono ?_; rintro e w' ⟨rfl, rfl⟩) | (at_builtin; refine wpList_append_own _ rfl _ _ 28 rfl w.heap.size 3 i0 (.int .i64 0) 1 8 Tryd.underlying28 hi hz0 hz1 hz2 rfl (by decide) _ _ _ rfl (HO.out.alloc _) ⟨wr.heap.size, 0, none⟩ 1 1 [.int .i64 ((k : Int) + 1)] rfl rfl ?c1 ?c2 ?c3 ?c4 ?c5 ?_))
        case c1 =>
          intro j u hj
          match j, hj with
          | 0, hj => simp at hj; subst hj; simp [Addr.add]
        case c2 => intro u hu; simp at hu; subst hu; rfl
        case c3 => unfold maxLen; omega
        case c4 => omega
        case c5 => have := HB.out.size; simp; omega
        · intro v' w1 hown' hgrow _
          have HO' := Lib.hid hown'
          have HG := Lib.hid hgrow
          have HB' : Hid (Below w.heap.size w w1) := (HB.out.alloc HB.out.size _).grown hgrow (by have := HB.out.size; simp; omega) (fun j hj => (HO.out.lt j hj).1)
          clear hown' hgrow
          go_wp2
          go_roundw
          case rel => exact ⟨k + 1, by omega, by go_num, by rw [HU.out]; simpa using HO'.out, HB'.out⟩
          case measure => simp [intOf]; omega
    · have hl : ¬ (k : Int) + 1 ≤ 6 := by omega
      obtain rfl : k = 6 := by omega
      go_wp2
      go_ret
      exact ⟨_, rfl, HO.out, HB.out⟩

end Cp
end Go.Proofs.YtgdfoonflkddnaaDoor
