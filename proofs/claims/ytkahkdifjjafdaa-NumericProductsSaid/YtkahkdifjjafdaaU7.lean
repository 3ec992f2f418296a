/- NumericProducts: for every input the law returns true, and the input reads behind the call as it did; no condition. -/
import Derived.Test.YtkahkdifjjafdaaU6
import Derived.Test.YtkahkdifjjafdaaChecked
import Derived.Test.YtkahkdifjjafdaaRows
import Derived.WalkKit
import Derived.ProofKit
import Derived.ChangeMaps5
import Derived.Lay
import Derived.OpenShut
import Derived.JoinedOf
import Derived.JoinedAt
namespace Go.Proofs.Ytkahkdifjjafdaa
open Go.ChangeShapes Go.WideShapes Go.ChangeAt Go.RowKit Go.ChangeMaps
namespace NuProducts
open Nu

theorem own : ownKnob Try.prog.godebug = none := by kernel_rfl
theorem laidOut : laidOutB Try.prog = true := by kernel_rfl

theorem open_i8 {H : Type} {enc : TypeId × Value → H} {W : World} {base : Nat} {spare : Nat → Bool} {held : Bool} {m : Nat} {v : Value} {x : DataW H × List MemPlace} (h : DataW.trod enc Try.prog W base spare held m 75 [v] = some x) :
    ∃ a : Int, v = .int .i8 a ∧ -128 ≤ a ∧ a ≤ 127 := by
  obtain ⟨a, e, -, hw⟩ := DataW.trod_int Try.underlying75 h
  simp at e
  exact ⟨a, e, bounds_i8 hw⟩

theorem open_two {H : Type} {enc : TypeId × Value → H} {W : World} {base : Nat} {spare : Nat → Bool} {held : Bool} {m : Nat} {u v : Value} {x : DataW H × List MemPlace} (h : DataW.trod enc Try.prog W base spare held m 76 [u, v] = some x) :
    ∃ a b : Int, u = .int .i8 a ∧ v = .int .i8 b ∧ -128 ≤ a ∧ a ≤ 127 ∧ -128 ≤ b ∧ b ≤ 127 := by
  have c75 : Try.prog.cellsOf 75 = 1 := by kernel_rfl
  obtain ⟨xs, k, _, _, hlen, hl, hel⟩ := DataW.trod_array Try.underlying76 h
  rw [c75] at hel
  have h0 := hel 0 (by omega)
  have h1 := hel 1 (by omega)
  rw [List.getElem?_eq_getElem (show 0 < xs.length by omega)] at h0
  rw [List.getElem?_eq_getElem (show 1 < xs.length by omega)] at h1
  obtain ⟨a, rfl, ha⟩ := open_i8 (v := u) (by simpa using h0)
  obtain ⟨b, rfl, hb⟩ := open_i8 (v := v) (by simpa using h1)
  exact ⟨a, b, rfl, rfl, ha.1, ha.2, hb.1, hb.2⟩

theorem list6 {α : Type} (l : List α) (h : (⟨l⟩ : Array α).size = 6) : ∃ a b c d e f, l = [a, b, c, d, e, f] := by
  match l, h with
  | [a, b, c, d, e, f], _ => exact ⟨a, b, c, d, e, f, rfl⟩
theorem list2 {α : Type} (l : List α) (h : (⟨l⟩ : Array α).size = 2) : ∃ a b, l = [a, b] := by
  match l, h with
  | [a, b], _ => exact ⟨a, b, rfl⟩

set_option maxRecDepth 100000 in
theorem open_six {H : Type} {enc : TypeId × Value → H} {W : World} {base : Nat} {spare : Nat → Bool} {held : Bool} {v : Value} {d : DataW H} {p : List MemPlace} (hv : Value.okWide Try.prog W .any base 77 v) (h : DataW.Trod enc Try.prog W 0 spare held 77 v d p) :
    ∃ c0 c1 c2 c3 c4 c5 : Int, v = .agg #[.int .i8 c0, .int .i8 c1, .int .i8 c2, .int .i8 c3, .int .i8 c4, .int .i8 c5] ∧
      (-128 ≤ c0 ∧ c0 ≤ 127 ∧ -128 ≤ c1 ∧ c1 ≤ 127 ∧ -128 ≤ c2 ∧ c2 ≤ 127 ∧ -128 ≤ c3 ∧ c3 ≤ 127 ∧ -128 ≤ c4 ∧ c4 ≤ 127 ∧ -128 ≤ c5 ∧ c5 ≤ 127) := by
  have c76 : Try.prog.cellsOf 76 = 2 := by kernel_rfl
  have c77 : Try.prog.cellsOf 77 = 6 := by kernel_rfl
  obtain ⟨cs, rfl, hsz, _⟩ : ∃ cs, v = .agg cs ∧ cs.size = Try.prog.cellsOf 77 ∧ Row.okWide Try.prog W .any base 77 cs := by
    simpa [Value.okWide, Try.underlying77] using hv
  rw [c77] at hsz
  obtain ⟨l⟩ := cs
  obtain ⟨u0, u1, u2, u3, u4, u5, rfl⟩ := list6 l hsz
  obtain ⟨fuel, hf⟩ := h
  obtain ⟨xs, k, _, _, hlen, hl, hel⟩ := DataW.trod_array Try.underlying77 hf
  rw [c76] at hel
  have h0 := hel 0 (by omega)
  have h1 := hel 1 (by omega)
  have h2 := hel 2 (by omega)
  rw [List.getElem?_eq_getElem (show 0 < xs.length by omega)] at h0
  rw [List.getElem?_eq_getElem (show 1 < xs.length by omega)] at h1
  rw [List.getElem?_eq_getElem (show 2 < xs.length by omega)] at h2
  obtain ⟨c0, c1, rfl, rfl, b0⟩ := open_two (u := u0) (v := u1) h0
  obtain ⟨c2, c3, rfl, rfl, b1⟩ := open_two (u := u2) (v := u3) h1
  obtain ⟨c4, c5, rfl, rfl, b2⟩ := open_two (u := u4) (v := u5) h2
  exact ⟨c0, c1, c2, c3, c4, c5, rfl, by omega⟩

set_option maxRecDepth 100000 in
theorem open_pair {H : Type} {enc : TypeId × Value → H} {W : World} {base : Nat} {spare : Nat → Bool} {held : Bool} {v : Value} {d : DataW H} {p : List MemPlace} (hv : Value.okWide Try.prog W .any base 76 v) (h : DataW.Trod enc Try.prog W 0 spare held 76 v d p) :
    ∃ a b : Int, v = .agg #[.int .i8 a, .int .i8 b] ∧ -128 ≤ a ∧ a ≤ 127 ∧ -128 ≤ b ∧ b ≤ 127 := by
  have c76 : Try.prog.cellsOf 76 = 2 := by kernel_rfl
  obtain ⟨cs, rfl, hsz, _⟩ : ∃ cs, v = .agg cs ∧ cs.size = Try.prog.cellsOf 76 ∧ Row.okWide Try.prog W .any base 76 cs := by
    simpa [Value.okWide, Try.underlying76] using hv
  rw [c76] at hsz
  obtain ⟨l⟩ := cs
  obtain ⟨u0, u1, rfl⟩ := list2 l hsz
  obtain ⟨fuel, hf⟩ := h
  obtain ⟨a, b, rfl, rfl, hb⟩ := open_two (u := u0) (v := u1) hf
  exact ⟨a, b, rfl, hb⟩

set_option maxRecDepth 100000 in
theorem lifted (os : Os) (started : os.Started) (H : Type) (enc : TypeId × Value → H) :
    ReturnsInHanded {} Try.checked os 8 .any (Rows.numericProductsSpec.pre6 enc Try.prog Try.f8 Rows.numericProductsRow.domain false) (Rows.numericProductsSpec.post enc Try.prog Try.f8 false true false false) := by
  refine returnsInHanded_of_change (C := Try.checked) own started (by kernel_rfl) Try.func8
    (ChangeSpec.witness6 (enc := enc) (C := Try.checked) false ⟨#[], #[.agg #[.int .i8 0, .int .i8 0, .int .i8 0, .int .i8 0, .int .i8 0, .int .i8 0], .agg #[.int .i8 0, .int .i8 0, .int .i8 0, .int .i8 0, .int .i8 0, .int .i8 0], .int .u8 0, .int .u8 0, .agg #[.int .i8 0, .int .i8 0]], []⟩ 8 (by kernel_rfl) (by kernel_rfl) (by kernel_rfl) (by kernel_rfl)) ?_
  intro W base args ds gs before hval0 hW _ _
  have hval : ∀ (j : Nat) t v, Try.f8.params[j]? = some t → args[j]? = some v → Value.okWide Try.prog W .any base t v := hval0
  have hW' := hW
  obtain ⟨p, q, hA0, hV, rfl, hfz, hnd⟩ := hW
  have hA : DataW.TrodAll enc Try.prog W 0 (fun _ => true) true Try.f8.params.toList args.toList ds p := hA0
  rw [Try.params8] at hA hval
  obtain ⟨v0, vs0, d0, ds0, p0, q0, hargs, rfl, rfl, h0, r0⟩ := trodAll_cons hA
  obtain ⟨v1, vs1, d1, ds1, p1, q1, rfl, rfl, rfl, h1, r1⟩ := trodAll_cons r0
  obtain ⟨v2, vs2, d2, ds2, p2, q2, rfl, rfl, rfl, h2, r2⟩ := trodAll_cons r1
  obtain ⟨v3, vs3, d3, ds3, p3, q3, rfl, rfl, rfl, h3, r3⟩ := trodAll_cons r2
  obtain ⟨v4, vs4, d4, ds4, p4, q4, rfl, rfl, rfl, h4, r4⟩ := trodAll_cons r3
  obtain ⟨rfl, rfl, rfl⟩ := trodAll_nil r4
  obtain rfl : args = #[v0, v1, v2, v3, v4] := by cases args; simp_all
  obtain ⟨rfl, rfl⟩ := trodVars_none hV
  have g0 := h0
  have g1 := h1
  have g4 := h4
  obtain ⟨a0, a1, a2, a3, a4, a5, rfl, ba⟩ := open_six (hval 0 77 v0 rfl rfl) h0
  obtain ⟨b0, b1, b2, b3, b4, b5, rfl, bb⟩ := open_six (hval 1 77 v1 rfl rfl) h1
  obtain ⟨m, rfl, rfl, rfl, wm⟩ := open_int Try.underlying5 (hval 2 5 v2 rfl rfl) h2
  obtain ⟨n, rfl, rfl, rfl, wn⟩ := open_int Try.underlying5 (hval 3 5 v3 rfl rfl) h3
  obtain ⟨x0, x1, rfl, bx⟩ := open_pair (hval 4 76 v4 rfl rfl) h4
  clear hA0 hval0
  simp only [List.append_nil, List.nil_append] at hW'
  have lt0 : ∀ x ∈ p0, x.block < W.heap.size := fun x hx => hW'.lt x (by simp [hx])
  have lt1 : ∀ x ∈ p1, x.block < W.heap.size := fun x hx => hW'.lt x (by simp [hx])
  have lt4 : ∀ x ∈ p4, x.block < W.heap.size := fun x hx => hW'.lt x (by simp [hx])
  refine (products_any a0 a1 a2 a3 a4 a5 b0 b1 b2 b3 b4 b5 m n x0 x1 W ba bb (bounds_u8 wm).1 (bounds_u8 wn).1 bx).mono fun e W' ⟨he, hb⟩ => ?_
  subst he
  exact ⟨_, rfl, _, _, _, [], _, [], hW', trodAll_cons_mk (shut_bool Try.underlying4 _) trodAll_mk0,
    trodAll_cons_mk (Below.trod laidOut (by kernel_rfl) (of_decide_eq_true (by kernel_rfl)) g0 hb lt0) (trodAll_cons_mk (Below.trod laidOut (by kernel_rfl) (of_decide_eq_true (by kernel_rfl)) g1 hb lt1) (trodAll_cons_mk (shut_int Try.underlying5 wm) (trodAll_cons_mk (shut_int Try.underlying5 wn) (trodAll_cons_mk (Below.trod laidOut (by kernel_rfl) (of_decide_eq_true (by kernel_rfl)) g4 hb lt4) trodAll_mk0)))), rfl, hb.frame _, fun h => by cases h⟩

/-- The statement. -/
theorem proved : Rows.NumericProductsSaid :=
  OpenClaim.holds_of_wide 8 Try.f8 rfl rfl rfl rfl rfl rfl rfl ⟨rfl, rfl, rfl, rfl, rfl⟩ rfl rfl rfl rfl rfl (by kernel_rfl) Try.func8 (by kernel_rfl)
    (of_decide_eq_true (by kernel_rfl)) (by unfold Func.isWrapper; first | (rw [if_pos (by decide +kernel)]; kernel_rfl) | (rw [if_neg (by decide +kernel)]; exact ⟨rfl, rfl⟩))
    (fun os started H enc _ => lifted os started H enc)
#print axioms proved
end NuProducts
end Go.Proofs.Ytkahkdifjjafdaa
