/- isWord, isKeyword, IsIdent. -/
import Derived.Test.YtlpcpnbjpbhlgaaGreatDoorC2
import Derived.Test.YtlpcpnbjpbhlgaaGreatDoorSh
import Derived.Test.YtlpcpnbjpbhlgaaGreatDoorA8
namespace Go.Proofs.YtlpcpnbjpbhlgaaGreatDoor
open Go.ChangeShapes Go.WideShapes Go.ChangeAt Go.RowKit
namespace Tk

theorem wordP_of (l : List UInt8) (b : List UInt8) (h : Lib.trimRightB l 39 = b) : wordP l = (!b.isEmpty && !digB (b.headD 0).toNat && b.all fun b => partB b.toNat) := by rw [← h]; rfl

set_option maxHeartbeats 1000000 in
theorem isWord_any (s : ByteArray) (w : World) (hs : s.size ≤ 20000) :
    Calls Tryz.prog 21 #[.string s] w fun e w' => e = .returned (.bool (wordP s.data.toList)) ∧ w = w' := by
  obtain ⟨b, hb⟩ : ∃ b, Lib.trimRightB s.data.toList 39 = b := ⟨_, rfl⟩
  have hw := wordP_of _ _ hb
  obtain ⟨t, ht, _⟩ := trim_spec s.data.toList 39
  rw [hb] at ht
  have hlen : b.length ≤ s.size := by
    have : s.data.toList.length = (b ++ t).length := by rw [← ht]
    rw [Array.length_toList, List.length_append] at this
    have : s.size = b.length + t.length := this
    omega
  have HW := Lib.hid hw
  have HT : Hid (∀ w, Calls Tryz.prog 32 #[.string s, .string ⟨#[39]⟩] w fun e w' => e = .returned (.string ⟨b.toArray⟩) ∧ w = w') := by
    intro w
    have h := Tryz.strings_TrimRight_one s 39 (by decide) w (by omega)
    rw [hb] at h
    exact h.mono fun e w' ⟨h1, h2⟩ => ⟨h1, h2.symm⟩
  clear hw hb ht
  cases hbe : b with
  | nil =>
    subst hbe
    go_enter Tryz.func21, Tryz.ntmps21
    go_wp2_with (go_at_call 32; refine (HT.out _).mono ?_; rintro e w' ⟨rfl, rfl⟩)
    go_ret
    exact ⟨ret_bool HW.out.symm, rfl⟩
  | cons y r =>
    rw [hbe] at HW HT
    obtain ⟨x, hx⟩ : ∃ x : ByteArray, x = ⟨(y :: r).toArray⟩ := ⟨_, rfl⟩
    have hxs : x.size = (y :: r).length := by rw [hx]; rfl
    have hx1 : 1 ≤ x.size := by rw [hxs]; simp
    have hxn : x.size ≤ 20000 := by rw [hxs, ← hbe]; omega
    have hxl : x.data.toList = y :: r := by rw [hx]
    have hz : x.toList.isEmpty = false := bytes_some hx1
    have hat : ∀ (k : Nat) (h : k < x.size), byteAt x k = (x[k]'h).toNat := fun k h => by simp [byteAt, h]
    have hall : ((y :: r).all fun b => partB b.toNat) = true ↔ ∀ j, j < x.size → partB (byteAt x j) = true := by
      rw [List.all_eq_true]
      constructor
      · intro h j hj
        rw [byteAt_list, hxl, List.getD_eq_getElem?_getD, List.getElem?_eq_getElem (by rw [hxs] at hj; exact hj)]
        exact h _ (List.getElem_mem _)
      · intro h z hz'
        obtain ⟨j, hj, rfl⟩ := List.getElem_of_mem hz'
        have := h j (by rw [hxs]; exact hj)
        rw [byteAt_list, hxl, List.getD_eq_getElem?_getD, List.getElem?_eq_getElem hj] at this
        exact this
    have h0 : byteAt x 0 = (y.toNat : Int) := by rw [byteAt_list, hxl]; rfl
    rw [← hx] at HT
    have HAt := Lib.hid hat
    have HAll := Lib.hid hall
    have H0 := Lib.hid h0
    have HX := Lib.hid hx
    clear hbe hx hxl hat hall h0 hxs hlen
    have i0 : (0 : Int) < x.size := by omega
    have i1 : (1 : Int) ≤ x.size := by omega
    cases hd : digB ((x[0]'(by omega)).toNat : Int)
    · have HD := Lib.hid hd
      have hW2 : Hid (wordP s.data.toList = (y :: r).all fun b => partB b.toNat) := by
        show _ = _
        rw [HW.out]
        have : digB (((y :: r).headD 0).toNat : Int) = false := by
          show digB (y.toNat : Int) = false
          rw [← H0.out, HAt.out 0 (by omega)]
          exact HD.out
        rw [this]
        rfl
      clear hd
      go_enter Tryz.func21, Tryz.ntmps21
      go_wp2_with (first | (go_at_call 32; refine (HT.out _).mono ?_; rintro e w' ⟨rfl, rfl⟩) | (go_at_call 33; refine (isDigit_any _ _).mono ?_; rintro e w' ⟨he, rfl⟩; rw [HD.out] at he; subst he))
      go_loopw [16] (fun i wr => ∃ k : Nat, k ≤ x.size ∧ i = .int .i64 k ∧ (∀ j, j < k → partB (byteAt x j) = true) ∧ w = wr) (fun i _ => x.size - (intOf i).toNat)
      case atStart => exact ⟨0, Nat.zero_le _, rfl, fun j hj => by omega, rfl⟩
      case round =>
        obtain ⟨k, hk, rfl, hpr, rfl⟩ := hrel
        have HP := Lib.hid hpr
        clear hpr
        by_cases hlt : k < x.size
        · have l1 : (k : Int) < x.size := by omega
          have l0 : (0 : Int) ≤ k := by omega
          cases hp : partB ((x[k]'hlt).toNat : Int)
          · have HPk := Lib.hid hp
            clear hp
            go_wp2_with (go_at_call 34; refine (isPart_any _ _).mono ?_; rintro e w' ⟨he, rfl⟩; rw [HPk.out] at he; subst he)
            go_ret
            refine ⟨ret_bool ?_, rfl⟩
            rw [hW2.out]
            symm
            rw [Bool.eq_false_iff]
            intro h
            have := HAll.out.1 h k hlt
            rw [HAt.out k hlt, HPk.out] at this
            cases this
          · have HPk := Lib.hid hp
            clear hp
            go_wp2_with (go_at_call 34; refine (isPart_any _ _).mono ?_; rintro e w' ⟨he, rfl⟩; rw [HPk.out] at he; subst he)
            refine ⟨⟨k + 1, by omega, by go_num, fun j hj => ?_, trivial⟩, by simp [intOf]; omega⟩
            by_cases hjk : j = k
            · rw [hjk, HAt.out k hlt]
              exact HPk.out
            · exact HP.out j (by omega)
        · have l1 : ¬ (k : Int) < x.size := by omega
          have l2 : decide ((k : Int) < x.size) = false := decide_eq_false l1
          go_wp2_with fail
          go_ret
          refine ⟨ret_bool ?_, rfl⟩
          rw [hW2.out]
          exact (HAll.out.2 fun j hj => HP.out j (by omega)).symm
    · have HD := Lib.hid hd
      have hW2 : Hid (wordP s.data.toList = false) := by
        show _ = _
        rw [HW.out]
        have : digB (((y :: r).headD 0).toNat : Int) = true := by
          show digB (y.toNat : Int) = true
          rw [← H0.out, HAt.out 0 (by omega)]
          exact HD.out
        rw [this]
        rfl
      clear hd
      go_enter Tryz.func21, Tryz.ntmps21
      go_wp2_with (first | (go_at_call 32; refine (HT.out _).mono ?_; rintro e w' ⟨rfl, rfl⟩) | (go_at_call 33; refine (isDigit_any _ _).mono ?_; rintro e w' ⟨he, rfl⟩; rw [HD.out] at he; subst he))
      go_ret
      exact ⟨ret_bool hW2.out.symm, rfl⟩

theorem blanked (s : ByteArray) : ((⟨#[32]⟩ : ByteArray) ++ s ++ ⟨#[32]⟩).data.toList = 32 :: (s.data.toList ++ [32]) := by simp

set_option maxHeartbeats 1000000 in
set_option maxRecDepth 100000 in
theorem isKeyword_any (s : ByteArray) (w : World) (mm : Int) (hs : s.size ≤ 20000) (hm : w.cell? ⟨5, 0, none⟩ = some (.int .i64 mm)) :
    Calls Tryz.prog 22 #[.string s] w fun e w' => e = .returned (.bool (Lib.contains kwText (32 :: (s.data.toList ++ [32])))) ∧ w = w' := by
  have HM := Lib.hid hm
  clear hm
  go_enter Tryz.func22, Tryz.ntmps22
  go_wp2_with (go_at_call 35; refine (Tryz.strings_Contains ⟨kwText.toArray⟩ _ mm _ (by decide) HM.out).mono ?_; rintro e w' ⟨rfl, rfl⟩)
  go_ret
  exact ⟨rfl, rfl⟩

def identP (l : List UInt8) : Bool := decide (l.length ≤ 60) && wordP l && !kwWords.contains l

set_option maxHeartbeats 1000000 in
theorem isIdent_any (s : ByteArray) (w : World) (mm : Int) (hs : s.size ≤ 20000) (hm : w.cell? ⟨5, 0, none⟩ = some (.int .i64 mm)) :
    Calls Tryz.prog 8 #[.string s] w fun e w' => e = .returned (.bool (identP s.data.toList)) ∧ w = w' := by
  have HM := Lib.hid hm
  have hsz : s.data.toList.length = s.size := by rw [Array.length_toList]; rfl
  have hi : identP s.data.toList = (decide (s.size ≤ 60) && wordP s.data.toList && !kwWords.contains s.data.toList) := by unfold identP; rw [hsz]
  have HI := Lib.hid hi
  clear hm hi hsz
  by_cases h60 : s.size ≤ 60
  · have l1 : (s.size : Int) ≤ 60 := by omega
    cases hw : wordP s.data.toList
    · have HW := Lib.hid hw
      clear hw
      go_enter Tryz.func8, Tryz.ntmps8
      go_wp2_with (go_at_call 21; refine (isWord_any s _ hs).mono ?_; rintro e w' ⟨he, rfl⟩; rw [HW.out] at he; subst he)
      go_ret
      exact ⟨ret_bool (by rw [HI.out, HW.out]; simp), rfl⟩
    · have hk := keyword_same _ (word_blank _ hw)
      have HW := Lib.hid hw
      have HK := Lib.hid hk
      clear hw hk
      cases hc : kwWords.contains s.data.toList
      all_goals
        have HC := Lib.hid hc
        clear hc
        go_enter Tryz.func8, Tryz.ntmps8
        go_wp2_with (first | (go_at_call 21; refine (isWord_any s _ hs).mono ?_; rintro e w' ⟨he, rfl⟩; rw [HW.out] at he; subst he) | (go_at_call 22; refine (isKeyword_any s _ mm hs HM.out).mono ?_; rintro e w' ⟨he, rfl⟩; rw [HK.out, HC.out] at he; subst he))
        go_ret
        exact ⟨ret_bool (by rw [HI.out, HW.out, HC.out, decide_eq_true h60]; rfl), rfl⟩
  · have l1 : ¬ (s.size : Int) ≤ 60 := by omega
    have l2 : decide ((s.size : Int) ≤ 60) = false := decide_eq_false l1
    go_enter Tryz.func8, Tryz.ntmps8
    go_wp2_with fail
    go_ret
    exact ⟨ret_bool (by rw [HI.out, decide_eq_false h60]; rfl), rfl⟩

end Tk
end Go.Proofs.YtlpcpnbjpbhlgaaGreatDoor
