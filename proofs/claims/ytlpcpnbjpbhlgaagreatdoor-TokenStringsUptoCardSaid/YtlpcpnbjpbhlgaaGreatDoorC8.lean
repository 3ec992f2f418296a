/- Quote of the program. -/
import Derived.Test.YtlpcpnbjpbhlgaaGreatDoorC7
import Derived.Test.YtlpcpnbjpbhlgaaGreatDoorB6
import Derived.Test.YtlpcpnbjpbhlgaaGreatDoorB7
namespace Go.Proofs.YtlpcpnbjpbhlgaaGreatDoor
open Go.ChangeShapes Go.WideShapes Go.ChangeAt Go.RowKit
namespace Tk

theorem valid_any (s : ByteArray) (w : World) (hs : s.size ≤ 2000000) (hT : Utf8T w) :
    Calls Tryz.prog 16 #[.string s] w fun e w' => e = .returned (.bool (Lib.validD s.data.toList)) ∧ Below w.heap.size w w' :=
  Any.utf8_ValidString Tryz.lays196 s w (by omega) hT

def quoteAll (l : List UInt8) : List UInt8 := 34 :: (l.flatMap quoteOne ++ [34])

theorem below_drewN (B : Nat) (w : World) (n : Nat) : Below B w (w.drewN n) := ⟨rfl, rfl, rfl, Nat.le_refl _, fun _ _ => rfl⟩

theorem builder_same {T e : TypeId} {B b : Nat} {bs : List Value} {w : World} (h : Lib.IsBuilderF T e B b bs w) {n : Nat} : Lib.IsBuilderF T e B b bs (w.drewN n) := h

theorem strCells_bytes (l : List UInt8) : Lib.strCells ⟨l.toArray⟩ = Lib.byteCells l := rfl

theorem quoteOne_len (x : UInt8) : (quoteOne x).length ≤ 4 := by
  unfold quoteOne
  repeat' split
  all_goals simp

theorem flat_len (l : List UInt8) : (l.flatMap quoteOne).length ≤ 4 * l.length := by
  induction l with
  | nil => simp
  | cons x r ih =>
    have := quoteOne_len x
    simp only [List.flatMap_cons, List.length_append, List.length_cons]
    omega

theorem extract_one (s : ByteArray) (k : Nat) (h : k < s.size) : s.extract k (k + 1) = ⟨#[s[k]'h]⟩ := by
  obtain ⟨⟨l⟩⟩ := s
  have hl : k < l.length := h
  apply ByteArray.ext
  apply Array.ext'
  simp only [ByteArray.data_extract, Array.toList_extract, List.extract_eq_take_drop]
  rw [show k + 1 - k = 1 by omega]
  rw [List.drop_eq_getElem_cons hl]
  rfl

set_option maxHeartbeats 2000000 in
set_option maxRecDepth 100000 in
theorem quote_any (s : ByteArray) (w : World) (hs : s.size ≤ 2000000) (hT : Utf8T w) :
    Calls Tryz.prog 6 #[.string s] w fun e w' => e = .returned (if Lib.validD s.data.toList then .tuple #[.string ⟨(quoteAll s.data.toList).toArray⟩, .int .i64 0] else .tuple #[.string ⟨#[]⟩, .int .i64 2]) ∧ Below w.heap.size w w' := by
  have HT := Lib.hid hT
  clear hT
  cases hv : Lib.validD s.data.toList
  · have HV := Lib.hid hv
    clear hv
    go_enter Tryz.func6, Tryz.ntmps6
    go_wp2_with (go_at_call 16; refine (valid_any s _ hs HT.out).mono ?_; rintro e w1 ⟨he, hb1⟩; rw [HV.out] at he; subst he)
    go_ret2
    exact ⟨rfl, hb1⟩
  · have HV := Lib.hid hv
    have hlen : s.data.toList.length = s.size := by rw [Array.length_toList]; rfl
    obtain ⟨l, hl⟩ : ∃ l, l = s.data.toList := ⟨_, rfl⟩
    rw [← hl] at hlen ⊢
    have HL := Lib.hid hl
    have HLen := Lib.hid hlen
    clear hv hl hlen
    go_enter Tryz.func6, Tryz.ntmps6
    go_upto_region 3 with (go_at_call 16; refine (valid_any s _ hs HT.out).mono ?_; rintro e w1 ⟨he, hb1⟩; rw [HV.out] at he; subst he)
    have HB1 := Lib.hid hb1
    clear hb1
    obtain ⟨wx, hwx⟩ : ∃ wx, wx = w1.alloc (.cells #[.pointer none, .slice none 0 0] 39) := ⟨_, rfl⟩
    have hsx : wx.heap.size = w1.heap.size + 1 := by rw [hwx]; simp
    have HBx : Hid (Lib.IsBuilderF 39 5 w1.heap.size w1.heap.size (Lib.byteCells []) wx) := by
      rw [hwx]
      exact .inl ⟨Nat.le_refl _, .slice none 0 0, World.alloc_heap_new w1 _, World.ownsRowF_nil _ _ _ _, by simp [Value.ownBlock]⟩
    have HGx : Hid (Below w1.heap.size w1 wx) := by rw [hwx]; exact (Below.refl _ _).alloc (Nat.le_refl _) _
    have HWx := Lib.hid hwx
    have HSx := Lib.hid hsx
    clear hwx hsx
    go_upto_region 4 with (fail)
    rw [← HWx.out]
    go_wp2_with fail
    refine (writeByte_any w1.heap.size w1.heap.size (Lib.byteCells []) 34 _ HBx.out (by simp [Lib.byteCells]) (by rw [HSx.out]; omega)).mono ?_
    rintro e w2 ⟨rfl, hb2, hl2, _⟩
    have HB2 : Hid (Lib.IsBuilderF 39 5 w1.heap.size w1.heap.size (Lib.byteCells [34]) w2) := .inr hb2
    have HG2 : Hid (Below w1.heap.size w1 w2) := HGx.out.trans hl2
    clear hb2 hl2
    go_wp2_with fail
    go_loopw [12] (fun i wr => ∃ k : Nat, k ≤ s.size ∧ i = .int .i64 k ∧ Lib.IsBuilderF 39 5 w1.heap.size w1.heap.size (Lib.byteCells (34 :: (l.take k).flatMap quoteOne)) wr ∧ Below w1.heap.size w1 wr) (fun i _ => s.size - (intOf i).toNat)
    case atStart => exact ⟨0, Nat.zero_le _, rfl, HB2.out, HG2.out⟩
    case round =>
      obtain ⟨k, hk, rfl, hbk, hgk⟩ := hrel
      have HBk := Lib.hid hbk
      have HGk := Lib.hid hgk
      have hzk := hgk.size
      have hfl := flat_len (l.take k)
      have hlt' : (l.take k).length ≤ 2000000 := by rw [List.length_take, HLen.out]; omega
      clear hbk hgk HB2 HG2
      by_cases hlt : k < s.size
      · have l1 : (k : Int) < s.size := by omega
        have l2 : (k : Int) + 1 ≤ s.size := by omega
        have l3 : (0 : Int) ≤ k := by omega
        have l5 : (k : Int) ≤ (k : Int) + 1 := by omega
        have e1 : IntKind.i64.wrap ((k : Int) + 1) = (k : Int) + 1 := IntWalk.i64_in _ (by omega)
        have hfl2 := Lib.hid hfl
        have hlt2 := Lib.hid hlt'
        clear hfl hlt'
        obtain ⟨x, hx⟩ : ∃ x, x = s[k]'hlt := ⟨_, rfl⟩
        have hex : s.extract k (k + 1) = ⟨#[x]⟩ := by rw [hx]; exact extract_one s k hlt
        have HX := Lib.hid hx
        have HEx := Lib.hid hex
        clear hx hex
        go_wp2_with fail
        rw [HEx.out]
        refine (quoted_any x _).mono ?_
        rintro e w3 ⟨rfl, n, rfl⟩
        obtain ⟨y, hy⟩ : ∃ y : List UInt8, y = quoteOne x := ⟨_, rfl⟩
        rw [← hy]
        have HY := Lib.hid hy
        clear hy
        go_wp2_with fail
        refine (writeString_any w1.heap.size w1.heap.size (Lib.byteCells (34 :: (l.take k).flatMap quoteOne)) _ _ (builder_same HBk.out (n := n)) ?_ (by simp; omega)).mono ?_
        · have := quoteOne_len x
          have := hfl2.out
          have := hlt2.out
          rw [Lib.byteCells_length, List.length_cons]
          show _ + y.length ≤ _
          rw [HY.out]
          omega
        rintro e w4 ⟨rfl, hb4, hl4, _⟩
        have HB4 := Lib.hid hb4
        have HG4 : Hid (Below w1.heap.size w1 w4) := (HGk.out.trans (below_drewN _ _ _)).trans hl4
        clear hb4 hl4
        go_wp2_with fail
        refine ⟨⟨k + 1, by omega, by go_num, .inr ?_, HG4.out⟩, by simp [intOf]; omega⟩
        have hkl : k < l.length := by rw [HLen.out]; exact hlt
        have ht : l.take (k + 1) = l.take k ++ [x] := by
          rw [List.take_succ_eq_append_getElem hkl, HX.out]
          congr 2
          simp only [HL.out]
          rfl
        have h4 := HB4.out
        rw [strCells_bytes, ← Lib.byteCells_append, HY.out] at h4
        rw [ht, List.flatMap_append]
        simpa using h4
      · obtain rfl : k = s.size := by omega
        have l1 : decide ((s.size : Int) < s.size) = false := by simp
        go_wp2_with fail
        refine (writeByte_any w1.heap.size w1.heap.size _ 34 _ HBk.out (by rw [Lib.byteCells_length, List.length_cons]; omega) (by omega)).mono ?_
        rintro e w5 ⟨rfl, hb5, hl5, _⟩
        have hz5 := hl5.size
        have hall : l.take s.size = l := List.take_of_length_le (by rw [HLen.out]; exact Nat.le_refl _)
        rw [hall] at hb5
        have hB5 : Lib.IsBuilderF 39 5 w1.heap.size w1.heap.size (Lib.byteCells (quoteAll l)) w5 := by
          right
          unfold quoteAll
          rw [← List.cons_append, Lib.byteCells_append]
          exact hb5
        have HB5 := Lib.hid hB5
        have HG5 : Hid (Below w1.heap.size w1 w5) := HGk.out.trans hl5
        clear hb5 hl5 hall hB5
        go_wp2_with fail
        refine (Tryz.Builder_String_any_k w1.heap.size w1.heap.size (quoteAll l) _ HB5.out (by omega)).mono ?_
        rintro e w6 ⟨rfl, _, hl6, _⟩
        go_wp2_with fail
        go_ret2
        exact ⟨rfl, HB1.out.trans ((HG5.out.trans hl6).mono HB1.out.size)⟩

end Tk
end Go.Proofs.YtlpcpnbjpbhlgaaGreatDoor
