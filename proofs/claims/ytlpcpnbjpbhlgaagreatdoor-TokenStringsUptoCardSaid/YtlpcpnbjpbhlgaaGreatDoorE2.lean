/- The tokens of two literals with a blank between them. -/
import Derived.Test.YtlpcpnbjpbhlgaaGreatDoorE1
namespace Go.Proofs.YtlpcpnbjpbhlgaaGreatDoor
open Go.ChangeShapes Go.WideShapes Go.ChangeAt Go.RowKit
namespace Tk

theorem quoteOne_head (x : UInt8) : ∃ y r, quoteOne x = y :: r ∧ y ≠ 34 := by
  unfold quoteOne
  repeat' split
  all_goals first
    | exact ⟨_, _, rfl, by decide⟩
    | (refine ⟨_, _, rfl, ?_⟩; rename_i h _ _; simpa using h)

theorem no_three (l R : List UInt8) (hR : ∀ b r, R = b :: r → b ≠ 34) : ([34, 34, 34] : List UInt8).isPrefixOf (34 :: (l.flatMap quoteOne ++ 34 :: R)) = false := by
  cases l with
  | nil =>
    cases R with
    | nil => rfl
    | cons b r =>
      have hb : ((34 : UInt8) == b) = false := by simpa using fun e : 34 = b => hR b r rfl e.symm
      show (((34 : UInt8) == 34) && (((34 : UInt8) == 34) && (((34 : UInt8) == b) && _))) = false
      rw [hb]
      rfl
  | cons x t =>
    obtain ⟨y, r, hq, hy⟩ := quoteOne_head x
    have hb : ((34 : UInt8) == y) = false := by simpa using fun e : 34 = y => hy e.symm
    rw [List.flatMap_cons, hq]
    show (((34 : UInt8) == 34) && (((34 : UInt8) == y) && _)) = false
    rw [hb]
    rfl

theorem stop_quote (T : ByteArray) (p : Nat) (L : List UInt8) (h : T.data.toList.drop p = 34 :: L) : Skip T p p := by
  have hl := len_drop h
  rw [List.length_cons] at hl
  have h0 : byteAt T p = 34 := at_drop h 0
  exact .stop p (by omega) (by rw [h0]; decide) (pre_drop h slash2) (pre_drop h slashS)

theorem read_quoted (T : ByteArray) (hT : T.size ≤ 20000) (p : Nat) (l R : List UInt8) (hv : Lib.validD l = true) (hR : ∀ b r, R = b :: r → b ≠ 34) (h : T.data.toList.drop p = 34 :: (l.flatMap quoteOne ++ 34 :: R)) :
    ReadAt T p 5 ⟨l.toArray⟩ (p + 2 + (l.flatMap quoteOne).length) ∧ p + 2 + (l.flatMap quoteOne).length ≤ T.size ∧ T.data.toList.drop (p + 2 + (l.flatMap quoteOne).length) = R := by
  have hl := len_drop h
  simp only [List.length_cons, List.length_append] at hl
  have h1 : T.data.toList.drop (p + 1) = l.flatMap quoteOne ++ 34 :: R := by rw [← List.drop_drop, h]; rfl
  obtain ⟨rs, hL, ht⟩ := lit_of T hT l.length l (p + 1) R (Nat.le_refl _) hv h1
  have h0 := at_drop h 0
  rw [Nat.add_zero] at h0
  have e : p + 2 + (l.flatMap quoteOne).length = p + 1 + (l.flatMap quoteOne).length + 1 := by omega
  refine ⟨?_, by omega, ?_⟩
  · rw [e]
    exact read_line T p _ rs _ hT (by omega) h0 ((pre_drop h quote3).trans (no_three l R hR)) hL (by rw [ht])
  · rw [e, ← List.drop_drop, ← List.drop_drop, h1, List.drop_left]
    rfl

theorem quoted_toks (T : ByteArray) (hT : T.size ≤ 20000) (l1 l2 : List UInt8) (hv1 : Lib.validD l1 = true) (hv2 : Lib.validD l2 = true) (hL : T.data.toList = quoteAll l1 ++ 32 :: quoteAll l2) :
    ∃ f1 b f2, Toks T 0 true [⟨5, ⟨l1.toArray⟩, 0, f1⟩, ⟨5, ⟨l2.toArray⟩, b, f2⟩] := by
  have h : T.data.toList.drop 0 = 34 :: (l1.flatMap quoteOne ++ 34 :: (32 :: quoteAll l2)) := by
    rw [List.drop_zero, hL]
    unfold quoteAll
    simp
  obtain ⟨hr1, hq1, hd1⟩ := read_quoted T hT 0 l1 _ hv1 (fun b r e => by cases e; decide) h
  obtain ⟨q, hq⟩ : ∃ q, q = 0 + 2 + (l1.flatMap quoteOne).length := ⟨_, rfl⟩
  rw [← hq] at hr1 hq1 hd1
  have hl1 := len_drop hd1
  rw [List.length_cons] at hl1
  have h2 : T.data.toList.drop (q + 1) = 34 :: (l2.flatMap quoteOne ++ 34 :: []) := by
    rw [← List.drop_drop, hd1]
    rfl
  obtain ⟨hr2, hq2, hd2⟩ := read_quoted T hT (q + 1) l2 [] hv2 (fun b r e => by cases e) h2
  have hl2 := len_drop hd2
  rw [List.length_nil] at hl2
  have hend : q + 1 + 2 + (l2.flatMap quoteOne).length = T.size := by omega
  rw [hend] at hr2
  have hb : byteAt T q = 32 := at_drop hd1 0
  have h20 := len_drop h2
  rw [List.length_cons] at h20
  exact ⟨_, _, _, .tok 0 true 0 5 _ q _ (stop_quote T 0 _ h) (by omega) hr1 (by omega) hq1
    (.tok q false (q + 1) 5 _ T.size _ (.blank q (q + 1) (by omega) (by rw [hb]; decide) (stop_quote T (q + 1) _ h2)) (by omega) hr2 (by omega) (Nat.le_refl _) (.last T.size false .done))⟩

end Tk
end Go.Proofs.YtlpcpnbjpbhlgaaGreatDoor
