/- The reference's IsIdent, and that both say the same. -/
import Derived.Test.YtlpcpnbjpbhlgaaGreatDoorC5
import Derived.RangeFuncRecord
namespace Go.Proofs.YtlpcpnbjpbhlgaaGreatDoor
open Go.ChangeShapes Go.WideShapes Go.ChangeAt Go.RowKit
namespace Tk

theorem toList_data (s : ByteArray) : s.toList = s.data.toList := by
  obtain ⟨⟨l⟩⟩ := s
  exact ByteArray.toList_mk l

set_option maxHeartbeats 1000000 in
theorem refHas_any (b : Nat) (s : ByteArray) (w : World) (hc : ∀ j, j < 51 → w.cell? ⟨b, j, none⟩ = some (.string ⟨(kwWords.getD j []).toArray⟩)) :
    Calls Tryz.prog 24 #[.slice (some ⟨b, 0, none⟩) 51 51, .string s] w fun e w' => e = .returned (.bool (kwWords.contains s.data.toList)) ∧ w = w' := by
  have HC := Lib.hid hc
  clear hc
  go_enter Tryz.func24, Tryz.ntmps24
  go_wp2_with fail
  go_loopw [5] (fun i wr => ∃ k : Nat, k ≤ 51 ∧ i = .int .i64 k ∧ (kwWords.take k).contains s.data.toList = false ∧ w = wr) (fun i _ => 51 - (intOf i).toNat)
  case atStart => exact ⟨0, Nat.zero_le _, rfl, rfl, rfl⟩
  case round =>
    obtain ⟨k, hk, rfl, hn, rfl⟩ := hrel
    have HN := Lib.hid hn
    clear hn
    by_cases hlt : k < 51
    · have l1 : (k : Int) < 51 := by omega
      have l2 : (0 : Int) ≤ k := by omega
      obtain ⟨x, hx⟩ : ∃ x : ByteArray, x = ⟨(kwWords.getD k []).toArray⟩ := ⟨_, rfl⟩
      have hcx : w.cell? ⟨b, k, none⟩ = some (.string x) := by rw [hx]; exact HC.out k hlt
      have HX := Lib.hid hx
      clear hx
      go_wp2_with fail
      · have h := ‹(x.toList == s.toList) = true›
        go_ret
        refine ⟨ret_bool ?_, rfl⟩
        symm
        rw [List.contains_iff_mem]
        have h2 : x.toList = s.toList := by simpa using h
        rw [toList_data, toList_data, HX.out] at h2
        have h3 : kwWords.getD k [] = s.data.toList := by simpa using h2
        rw [← h3, List.getD_eq_getElem?_getD, List.getElem?_eq_getElem (by rw [kwWords_len]; exact hlt)]
        exact List.getElem_mem _
      · have h := ‹(x.toList == s.toList) = false›
        refine ⟨⟨k + 1, by omega, by go_num, ?_, trivial⟩, by simp [intOf]; omega⟩
        have hl : k < kwWords.length := by rw [kwWords_len]; exact hlt
        have ht : kwWords.take (k + 1) = kwWords.take k ++ [kwWords.getD k []] := by
          rw [List.take_succ_eq_append_getElem hl, List.getD_eq_getElem?_getD, List.getElem?_eq_getElem hl]
          rfl
        rw [ht, List.contains_append, HN.out, Bool.false_or]
        have h2 : ¬ x.toList = s.toList := by simpa using h
        rw [toList_data, toList_data, HX.out] at h2
        rw [Bool.eq_false_iff]
        intro hcn
        rw [List.contains_iff_mem, List.mem_singleton] at hcn
        apply h2
        rw [hcn]
    · obtain rfl : k = 51 := by omega
      go_wp2_with fail
      go_ret
      refine ⟨ret_bool ?_, rfl⟩
      have := HN.out
      rw [List.take_of_length_le (by rw [kwWords_len]; omega)] at this
      exact this.symm

theorem kwCells_at (w : World) (t : TypeId) (j : Nat) (hj : j < 51) : (w.alloc (.cells kwCells t)).cell? ⟨w.heap.size, j, none⟩ = some (.string ⟨(kwWords.getD j []).toArray⟩) := by
  rw [Lib.cell_of_heap (World.alloc_heap_new w (.cells kwCells t))]
  have : j < kwWords.length := by rw [kwWords_len]; exact hj
  simp [kwCells, List.getD, this]

def refIdentP (s : ByteArray) : Bool := refP s && decide (s.size ≤ 60) && !kwWords.contains s.data.toList

theorem refP_of (s : ByteArray) (h : 0 < s.size) : refP s = decide (identE s = s.size) := by
  unfold refP identE
  have : s.data.toList.isEmpty = false := by
    cases hs : s.data.toList with
    | nil =>
      have h2 : s.data.toList.length = 0 := by rw [hs]; rfl
      rw [Array.length_toList] at h2
      have : s.size = 0 := h2
      omega
    | cons a l => rfl
  rw [this]
  cases hc : letB (byteAt s 0) || byteAt s 0 == 95
  · simp
    omega
  · simp

set_option maxHeartbeats 1000000 in
theorem refIsIdent_any (s : ByteArray) (w : World) (hs : s.size ≤ 20000) :
    Calls Tryz.prog 9 #[.string s] w fun e w' => e = .returned (.bool (refIdentP s)) ∧ Below w.heap.size w w' := by
  by_cases hz : s.size = 0
  · obtain rfl : s = ⟨#[]⟩ := by
      obtain ⟨d⟩ := s
      have : d.size = 0 := hz
      rw [Array.eq_empty_of_size_eq_zero this]
    go_enter Tryz.func9, Tryz.ntmps9
    go_wp2_with fail
    go_ret
    exact ⟨ret_bool (by decide), Below.refl _ _⟩
  · have hpos : 1 ≤ s.size := by omega
    have hne : s.toList.isEmpty = false := bytes_some hpos
    have hrp := refP_of s hpos
    have HR := Lib.hid hrp
    clear hrp
    by_cases h60 : s.size ≤ 60
    · have l1 : (s.size : Int) ≤ 60 := by omega
      by_cases he : identE s = s.size
      · have hP : refP s = true := by rw [HR.out, decide_eq_true he]
        have HE := Lib.hid he
        have HP := Lib.hid hP
        clear he hP
        cases hc : kwWords.contains s.data.toList
        all_goals
          have HC := Lib.hid hc
          clear hc
          go_enter Tryz.func9, Tryz.ntmps9
          go_wp2_with (first | (go_at_call 23; refine (refIdent_any s _ hs).mono ?_; rintro e w' ⟨he, rfl⟩; rw [HE.out] at he; subst he) | (go_at_call 12; refine (refKeywords_any _).mono ?_; rintro e w' ⟨rfl, rfl⟩) | (go_at_call 24; refine (refHas_any _ s _ (fun j hj => kwCells_at w _ j hj)).mono ?_; rintro e w' ⟨he, rfl⟩; rw [HC.out] at he; subst he))
          go_ret
          exact ⟨ret_bool (by unfold refIdentP; rw [HP.out, HC.out, decide_eq_true h60]; rfl), (Below.refl _ _).alloc (Nat.le_refl _) _⟩
      · have hP : refP s = false := by rw [HR.out, decide_eq_false he]
        have hi : ((identE s : Int) == s.size) = false := by simp; omega
        have HP := Lib.hid hP
        clear he hP
        go_enter Tryz.func9, Tryz.ntmps9
        go_wp2_with (go_at_call 23; refine (refIdent_any s _ hs).mono ?_; rintro e w' ⟨rfl, rfl⟩)
        go_ret
        exact ⟨ret_bool (by unfold refIdentP; rw [HP.out]; rfl), Below.refl _ _⟩
    · have l1 : ¬ (s.size : Int) ≤ 60 := by omega
      have l2 : decide ((s.size : Int) ≤ 60) = false := decide_eq_false l1
      go_enter Tryz.func9, Tryz.ntmps9
      go_wp2_with fail
      go_ret
      exact ⟨ret_bool (by unfold refIdentP; rw [decide_eq_false h60]; simp), Below.refl _ _⟩

theorem ident_same (s : ByteArray) : identP s.data.toList = refIdentP s := by
  unfold identP refIdentP
  rw [word_same, Array.length_toList]
  show (decide (s.size ≤ 60) && refP s && _) = _
  rw [Bool.and_comm (decide (s.size ≤ 60))]

end Tk
end Go.Proofs.YtlpcpnbjpbhlgaaGreatDoor
