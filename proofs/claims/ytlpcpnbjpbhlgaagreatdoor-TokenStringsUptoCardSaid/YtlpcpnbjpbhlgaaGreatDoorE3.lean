/- The law TokenStrings: two literals with a blank between them are two strings. -/
import Derived.Test.YtlpcpnbjpbhlgaaGreatDoorE2
import Derived.Test.YtlpcpnbjpbhlgaaGreatDoorC11
namespace Go.Proofs.YtlpcpnbjpbhlgaaGreatDoor
open Go.ChangeShapes Go.WideShapes Go.ChangeAt Go.RowKit
namespace Tk

theorem quoted_two (s : ByteArray) (hs : s.size ≤ 2000000) : ∃ (p : ByteArray) (z : Int),
    (∀ w : World, Utf8T w → Calls Tryz.prog 6 #[.string s] w fun e w' => e = .returned (.tuple #[.string p, .int .i64 z]) ∧ Below w.heap.size w w') ∧
      ((z = 0 ∧ Lib.validD s.data.toList = true ∧ p = ⟨(quoteAll s.data.toList).toArray⟩) ∨ z = 2) := by
  cases hv : Lib.validD s.data.toList
  · refine ⟨⟨#[]⟩, 2, fun w hu => ?_, .inr rfl⟩
    have := quote_any s w hs hu
    rw [hv] at this
    exact this
  · refine ⟨_, 0, fun w hu => ?_, .inl ⟨rfl, rfl, rfl⟩⟩
    have := quote_any s w hs hu
    rw [hv] at this
    exact this

theorem quoteAll_len (l : List UInt8) : (quoteAll l).length ≤ 4 * l.length + 2 := by
  have := flat_len l
  unfold quoteAll
  simp only [List.length_cons, List.length_append, List.length_nil]
  omega

set_option maxHeartbeats 4000000 in
set_option maxRecDepth 100000 in
theorem strings_any (s t : ByteArray) (w : World) (mm : Int) (hs : s.size ≤ 2000000) (ht : t.size ≤ 2000000) (hE : LawEnv w mm) :
    Calls Tryz.prog 4 #[.string s, .string t] w fun e w' => e = .returned (.bool true) ∧ Below w.heap.size w w' := by
  obtain ⟨p, z1, q1, c1⟩ := quoted_two s hs
  obtain ⟨q, z2, q2, c2⟩ := quoted_two t ht
  have hcase : (500 : Int) < s.size ∨ ((¬ (500 : Int) < s.size) ∧ decide ((500 : Int) < s.size) = false ∧ (500 : Int) < t.size) ∨
      ((¬ (500 : Int) < s.size) ∧ decide ((500 : Int) < s.size) = false ∧ (¬ (500 : Int) < t.size) ∧ decide ((500 : Int) < t.size) = false ∧ z1 = 2) ∨
      ((¬ (500 : Int) < s.size) ∧ decide ((500 : Int) < s.size) = false ∧ (¬ (500 : Int) < t.size) ∧ decide ((500 : Int) < t.size) = false ∧ z1 = 0 ∧ z2 = 2) ∨
      ((¬ (500 : Int) < s.size) ∧ decide ((500 : Int) < s.size) = false ∧ (¬ (500 : Int) < t.size) ∧ decide ((500 : Int) < t.size) = false ∧ z1 = 0 ∧ z2 = 0 ∧ ∃ (T : ByteArray) (f1 : Bool) (b : Nat) (f2 : Bool), T = p ++ ⟨#[32]⟩ ++ q ∧ T.size ≤ 20000 ∧ Toks T 0 true [⟨5, s, 0, f1⟩, ⟨5, t, b, f2⟩]) := by
    by_cases a1 : (500 : Int) < s.size
    · exact .inl a1
    by_cases a2 : (500 : Int) < t.size
    · exact .inr (.inl ⟨a1, decide_eq_false a1, a2⟩)
    rcases c1 with ⟨h1, v1, e1⟩ | h1
    · rcases c2 with ⟨h2, v2, e2⟩ | h2
      · refine .inr (.inr (.inr (.inr ⟨a1, decide_eq_false a1, a2, decide_eq_false a2, h1, h2, ?_⟩)))
        have hT : (p ++ ⟨#[32]⟩ ++ q).data.toList = quoteAll s.data.toList ++ 32 :: quoteAll t.data.toList := by
          rw [e1, e2]
          simp [ByteArray.data_append]
        have n1 := quoteAll_len s.data.toList
        have n2 := quoteAll_len t.data.toList
        have m1 : s.data.toList.length = s.size := by rw [Array.length_toList]; rfl
        have m2 : t.data.toList.length = t.size := by rw [Array.length_toList]; rfl
        have hz : (p ++ ⟨#[32]⟩ ++ q).size ≤ 20000 := by
          have : (p ++ ⟨#[32]⟩ ++ q).data.toList.length = (p ++ ⟨#[32]⟩ ++ q).size := by rw [Array.length_toList]; rfl
          rw [← this, hT, List.length_append, List.length_cons]
          omega
        obtain ⟨f1, b, f2, hk⟩ := quoted_toks _ hz s.data.toList t.data.toList v1 v2 hT
        exact ⟨_, f1, b, f2, rfl, hz, hk⟩
      · exact .inr (.inr (.inr (.inl ⟨a1, decide_eq_false a1, a2, decide_eq_false a2, h1, h2⟩)))
    · exact .inr (.inr (.inl ⟨a1, decide_eq_false a1, a2, decide_eq_false a2, h1⟩))
  have HE := Lib.hid hE
  have Q1 := Lib.hid q1
  have Q2 := Lib.hid q2
  have HK := Lib.hid hcase
  clear hE q1 q2 c1 c2 hcase
  go_enter Tryz.func4, Tryz.ntmps4
  go_wp2_with fail
  refine (Q1.out _ HE.out.u8).mono ?_
  rintro e w1 ⟨rfl, hb1⟩
  have HE1 := Lib.hid (HE.out.below hb1)
  have HB1 := Lib.hid hb1
  clear hb1
  go_wp2_with fail
  refine (Q2.out _ HE1.out.u8).mono ?_
  rintro e w2 ⟨rfl, hb2⟩
  have HE2 := Lib.hid (HE1.out.below hb2)
  have HB2 : Hid (Below w.heap.size w w2) := HB1.out.trans (hb2.mono HB1.out.size)
  clear hb2
  rcases HK.out with l1 | ⟨l1, l1', l2⟩ | ⟨l1, l1', l2, l2', rfl⟩ | ⟨l1, l1', l2, l2', rfl, rfl⟩ | ⟨l1, l1', l2, l2', rfl, rfl, T, f1, b, f2, hTT, hz, hk⟩
  case inr.inr.inr.inr =>
    have HKT := Lib.hid hk
    have HTT := Lib.hid hTT
    have hsz : T.size = p.size + 1 + q.size := by
      rw [hTT, ByteArray.size_append, ByteArray.size_append]
      rfl
    have k1 : ¬ 9223372036854775807 < p.size + 1 := by omega
    have k2 : ¬ 9223372036854775807 < p.size + 1 + q.size := by omega
    clear hk hTT hsz
    go_wp2_with fail
    rw [← HTT.out]
    refine (scan_any w2 T _ hz HKT.out HE2.out.sp HE2.out.sy HE2.out.po HE2.out.u8).mono ?_
    rintro e w3 ⟨v, rfl, hr, hb3⟩
    have HE3 := Lib.hid (HE2.out.below hb3)
    have HB3 : Hid (Below w.heap.size w w3) := HB2.out.trans (hb3.mono HB2.out.size)
    obtain ⟨g, cp, rfl⟩ := ownsRow_succ (k := 1) hr
    have hc : ∀ j u, (cellsOf [⟨5, s, 0, f1⟩, ⟨5, t, b, f2⟩])[j]? = some u → w3.cell? ⟨g, j, none⟩ = some u := fun j u h => row_cell hr j u h
    have a0 := hc 0 (.int .i64 5) rfl
    have a1 := hc 1 (.string s) rfl
    have a4 := hc 4 (.int .i64 5) rfl
    have a5 := hc 5 (.string t) rfl
    clear hc hr hb3
    go_wp2_with fail
    refine (awake_any _ HE3.out.sp HE3.out.sy HE3.out.po HE3.out.u8).mono ?_
    rintro e w4 ⟨rfl, hb4⟩
    go_wp2_with fail
    go_ret
    exact ⟨rfl, HB3.out.trans (hb4.mono HB3.out.size)⟩
  all_goals
    go_wp2_with fail
    refine (awake_any _ HE2.out.sp HE2.out.sy HE2.out.po HE2.out.u8).mono ?_
    rintro e w3 ⟨rfl, hb3⟩
    go_wp2_with fail
    go_ret
    exact ⟨rfl, HB2.out.trans (hb3.mono HB2.out.size)⟩

end Tk
end Go.Proofs.YtlpcpnbjpbhlgaaGreatDoor
