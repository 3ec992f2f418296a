/- Contracts: the factors of a size. -/
import Derived.Test.YtkkdimhibfpopaaS1
import Derived.Test.YtkkdimhibfpopaaA7
import Derived.Deep.AppendLies
import Derived.IntWalk
import Derived.Deep.RegionLaw
namespace Go.Proofs.Ytkkdimhibfpopaa
open Go.ChangeShapes Go.WideShapes Go.ChangeAt Go.RowKit
namespace Nu

def fac (first : Nat × Nat) : Nat → Nat × Nat
  | 0 => (1065353216, 0)
  | m + 1 => mulW (fac first m) first
def facL (first : Nat × Nat) (n : Nat) : List (Nat × Nat) := (List.range n).map (fac first)
theorem facL_snoc (first : Nat × Nat) (n : Nat) : facL first (n + 1) = facL first n ++ [fac first n] := by unfold facL; rw [List.range_succ, List.map_append]; rfl
theorem facL_len (first : Nat × Nat) (n : Nat) : (facL first n).length = n := by unfold facL; simp
theorem facL_at (first : Nat × Nat) (n j : Nat) (h : j < n) : (facL first n)[j]? = some (fac first j) := by
  unfold facL; rw [List.getElem?_map, List.getElem?_range h]; rfl

theorem own_below {W X w1 : World} {base : Nat} {e : TypeId} {size n : Nat} {v : Value} {xs : List Value} (h : W.ownsRow base e size v n xs) (hb : Below X.heap.size X w1) (hX : X.heap = W.heap := by rfl) : w1.ownsRow base e size v n xs := by
  have hx : X.ownsRow base e size v n xs := by unfold World.ownsRow at h ⊢; rw [hX]; exact h
  refine hx.kept (row := none) ⟨hb.os, hb.tape, hb.output, hb.size, fun k hk _ => hb.block k hk⟩ ?_
  cases v.ownBlock with
  | none => exact .inl rfl
  | some k => exact .inr (by simp)

theorem Mem.grown {W V : World} {row : Option Nat} (hg : W.grownBy V row) : ∀ {L : List (Nat × Nat × Value)}, Mem W L → (∀ x ∈ L, some x.1 ≠ row) → Mem V L
  | [], _, _ => trivial
  | (b, o, v) :: l, ⟨⟨h1, h2⟩, h3⟩, hr => by
    have hne : some b ≠ row := hr (b, o, v) (List.mem_cons_self ..)
    have e1 : V.heap[b]? = W.heap[b]? := hg.block b (cell_lt h1) hne
    exact ⟨⟨(World.cell?_of_block (w := W) e1).trans h1, (World.frozen?_of_block (w := W) e1).trans h2⟩, Mem.grown hg h3 (fun x hx => hr x (List.mem_cons_of_mem _ hx))⟩

theorem At.grown {w W V : World} {row : Option Nat} {L : List (Nat × Nat × Value)} (h : At w W L) (hg : W.grownBy V row) (h1 : ∀ k, row = some k → w.heap.size ≤ k) (h2 : ∀ x ∈ L, some x.1 ≠ row) : At w V L :=
  ⟨h.below.grown hg h.below.size h1, h.mem.grown hg h2⟩
theorem At.alloc {w W : World} {L : List (Nat × Nat × Value)} (h : At w W L) (o : Obj) : At w (W.alloc o) L := ⟨h.below.alloc h.below.size _, h.mem.alloc⟩

def lenOf : Value → Nat | .slice _ n _ => n | _ => 0

theorem own_one (w : World) (base : Nat) (hb : base ≤ w.heap.size) (a b : Value) (t : TypeId) : (w.alloc (.cells #[a, b] t)).ownsRow base t 2 (.slice (some ⟨w.heap.size, 0, none⟩) 1 1) 1 [a, b] :=
  ⟨rfl, .inr ⟨w.heap.size, 1, #[a, b], rfl, hb, World.alloc_heap_new w _, Nat.le_refl _, by unfold maxLen; omega, rfl, rfl⟩⟩

theorem run_fneg64 {P : Program} (w : World) (x : Nat) : (Op.unary .neg (.float .f64 x)).run P w = .ok (.float .f64 (Op.negFloat .f64 x)) w := by simp [Op.unary]
attribute [local go_sem] run_fneg64

theorem own_base {W : World} {base base' : Nat} {e : TypeId} {size n : Nat} {v : Value} {xs : List Value} (h : W.ownsRow base e size v n xs) (hb : base' ≤ base) : W.ownsRow base' e size v n xs := by
  refine ⟨h.1, ?_⟩
  rcases h.2 with h0 | ⟨g, cap, cur, h1, h2, h3⟩
  · exact .inl h0
  · exact .inr ⟨g, cap, cur, h1, Nat.le_trans hb h2, h3⟩

set_option maxRecDepth 100000 in
set_option maxHeartbeats 2000000 in
theorem factors_any (n : Nat) (h1 : 1 ≤ n) (h64 : n ≤ 64) (c s fc fs : Nat) (hang : ∀ w, Calls Try.prog 66 #[.int .i64 n] w fun e w' => e = .returned (.tuple #[.float .f64 c, .float .f64 s]) ∧ w = w')
    (hc : floatToFloatBits .f64 c .f32 = some fc) (hs : floatToFloatBits .f64 (Op.negFloat .f64 s) .f32 = some fs) (w : World) :
    Calls Try.prog 58 #[.int .i64 n] w fun e w' => ∃ g cap, e = .returned (.slice (some ⟨g, 0, none⟩) n cap) ∧ w'.ownsRow w.heap.size 32 2 (.slice (some ⟨g, 0, none⟩) n cap) n (cellsN (facL (canon fc, canon fs) n)) ∧ Below w.heap.size w w' := by
  have k1 : ∀ w, (convert 86 29 (.float .f64 c)).run Try.prog w = .ok (.float .f32 fc) w := fun w => run_convert_float_float w _ _ _ _ _ _ (by kernel_rfl) (by kernel_rfl) hc
  have k2 : ∀ w, (convert 86 29 (.float .f64 (Op.negFloat .f64 s))).run Try.prog w = .ok (.float .f32 fs) w := fun w => run_convert_float_float w _ _ _ _ _ _ (by kernel_rfl) (by kernel_rfl) hs
  have one1 : canon 1065353216 = 1065353216 := by decide
  have one0 : canon 0 = 0 := by decide
  have H11 := Lib.hid one1
  have H10 := Lib.hid one0
  have l11 : ((1065353216 : Nat) : Int) = 1065353216 := by omega
  have l10 : ((0 : Nat) : Int) = 0 := by omega
  have L11 := Lib.hid l11
  have L10 := Lib.hid l10
  clear hc hs one1 one0 l11 l10
  obtain ⟨x, hx⟩ : ∃ x, x = canon fc := ⟨_, rfl⟩
  obtain ⟨y, hy⟩ : ∃ y, y = canon fs := ⟨_, rfl⟩
  rw [← hx, ← hy]
  have HX := Lib.hid hx
  have HY := Lib.hid hy
  clear hx hy
  obtain ⟨i0, hi0, hz0, hz1, hz2⟩ := info_parts info32
  have h1' : (1 : Int) ≤ n := by omega
  go_enter Try.func58, Try.ntmps58
  go_wp2_with (first
    | (go_at_call 66; refine (hang _).mono ?_; rintro e w' ⟨rfl, rfl⟩)
    | (go_at_call 18; refine (of_any fc fs _).mono ?_; rintro e w1 ⟨rfl, hb1⟩; rw [← HX.out, ← HY.out]; have HB1 := Lib.hid hb1; clear hb1)
    | (go_at_call 18; refine (of_any 1065353216 0 _).mono ?_; rintro e w2 ⟨rfl, hb2⟩; rw [H11.out, H10.out, L11.out, L10.out]; have HB2 := Lib.hid hb2; clear hb2))
  have hA1 : At w (w1.alloc (.cells #[.int .u32 x, .int .u32 y] 32)) [(w1.heap.size, 0, .int .u32 x), (w1.heap.size, 1, .int .u32 y)] := (At.mk HB1.out trivial : At w w1 []).two _ _ _ _ rfl
  have hA2 := hA1.step HB2.out
  have hw12 : w1.heap.size + 1 ≤ w2.heap.size := by have := HB2.out.size; simpa using this
  have hA3 : At w (w2.alloc (.cells #[.int .u32 1065353216, .int .u32 0] 32)) [(w1.heap.size, 0, .int .u32 x), (w1.heap.size, 1, .int .u32 y)] := ⟨hA2.below.alloc hA2.below.size _, hA2.mem.alloc⟩
  have hO3 := own_one w2 (w1.heap.size + 1) hw12 (.int .u32 1065353216) (.int .u32 0) 32
  have hww1 : w.heap.size ≤ w1.heap.size := HB1.out.size
  have HA3 := Lib.hid hA3
  have HO3 := Lib.hid hO3
  have HWW := Lib.hid hww1
  have HW12 := Lib.hid hw12
  clear hA1 hA2 hA3 hO3 hww1 hw12 HB1 HB2 H11 H10 k1 k2 hang HX HY
  obtain ⟨B5, hB5⟩ : ∃ B5, B5 = w1.heap.size := ⟨_, rfl⟩
  rw [← hB5] at HA3 HO3 HWW HW12 ⊢
  clear hB5
  go_loopw [6] (fun v wr => ∃ j g cap : Nat, v = .slice (some ⟨g, 0, none⟩) (j + 1) cap ∧ j + 1 ≤ n ∧ wr.ownsRow (B5 + 1) 32 2 (.slice (some ⟨g, 0, none⟩) (j + 1) cap) (j + 1) (cellsN (facL (x, y) (j + 1))) ∧ B5 + 1 ≤ wr.heap.size ∧ At w wr [(B5, 0, .int .u32 x), (B5, 1, .int .u32 y)]) (fun v _ => 100 - lenOf v)
  case atStart => exact ⟨0, _, 1, rfl, by omega, HO3.out, by have := HW12.out; simp; omega, HA3.out⟩
  case round =>
    obtain ⟨j, g, cap, rfl, hj, hown, hsz, hA⟩ := hrel
    have HO := Lib.hid hown
    have HA := Lib.hid hA
    have HS := Lib.hid hsz
    clear hown hA hsz HA3 HO3
    by_cases hlt : j + 1 < n
    · obtain ⟨u, hu⟩ : ∃ u, u = fac (x, y) j := ⟨_, rfl⟩
      obtain ⟨n0, n1⟩ := Num.of_own HO.out j u (by rw [hu]; exact facL_at _ _ _ (by omega))
      rw [Nat.mul_comm] at n0 n1
      obtain ⟨⟨c0, -⟩, ⟨c1, -⟩, -⟩ := HA.out.mem
      have HU := Lib.hid hu
      clear hu
      have i1 : (j : Int) + 1 < n := by omega
      have i2 : (0 : Int) ≤ j := by omega
      have i3 : IntKind.i64.wrap (j : Int) = (j : Int) := IntWalk.i64_in _ (by omega)
      have i4 : (j : Int) < (j : Int) + 1 := by omega
      have HUA : Hid (num u = .agg #[.int .u32 u.1, .int .u32 u.2]) := rfl
      go_wp2_with fail
      go_region_law ((first
        | (go_simp; go_at_call 15; refine (mul_any u.1 u.2 x y _).mono ?_; rintro e w3 ⟨rfl, hb3⟩; clear n0 n1 c0 c1; have HO3 := Lib.hid (own_below HO.out hb3); have HA3 := Lib.hid (HA.out.step hb3); have HS3 : Hid (B5 + 1 ≤ w3.heap.size) := (Nat.le_trans HS.out hb3.size); clear hb3; obtain ⟨m, hm⟩ : ∃ m, m = mulW (u.1, u.2) (x, y) := ⟨_, rfl⟩; rw [← hm]; have HM := Lib.hid hm; clear hm; unfold num; go_simp)
        | (refine step_append_lies _ (by rfl) _ _ _ (by rfl) (B5 + 1) 32 i0 (.agg #[.int .u32 0, .int .u32 0]) 2 8 Try.underlying24 hi0 hz0 hz1 hz2 rfl (by decide) _ (j + 1) _ (by rfl) (HO3.out.alloc _) ⟨w3.heap.size, 0, none⟩ 1 1 [.int .u32 m.1, .int .u32 m.2] (by rfl) rfl (cell_two_new _ _ _ _) (by simp [Value.oneCell']) (by omega) (by unfold maxLen; omega) (by omega) (by have := HS3.out; simp; omega) (w3.heap.size + 1) (by simp) ?_; intro g4 cap4 w4 hown4 hgrow4 hat4 hlt4; have HO4 := Lib.hid hown4; have HG4 := Lib.hid hgrow4; clear hown4 hgrow4 hat4 hlt4)))
      all_goals
        have hg : B5 + 1 ≤ g := ((HO3.out.lt) g rfl).1
        have hA4 : At w w4 [(B5, 0, .int .u32 x), (B5, 1, .int .u32 y)] := (HA3.out.alloc _).grown HG4.out (fun k e => by have e2 : g = k := Option.some.inj e; have := HWW.out; omega) (fun z hz e => by
          have hb : z.1 = B5 := by simp at hz; rcases hz with rfl | rfl <;> rfl
          have e2 : z.1 = g := Option.some.inj e
          omega)
        have hO4 : w4.ownsRow (B5 + 1) 32 2 (.slice (some ⟨g4, 0, none⟩) (j + 1 + 1) cap4) (j + 1 + 1) (cellsN (facL (x, y) (j + 1 + 1))) := by
          rw [facL_snoc, cellsN_append]
          show w4.ownsRow _ _ _ _ _ (_ ++ [.int .u32 (mulW (fac (x, y) j) (x, y)).1, .int .u32 (mulW (fac (x, y) j) (x, y)).2])
          rw [← HU.out, ← HM.out]
          exact HO4.out
        have hs4 : B5 + 1 ≤ w4.heap.size := by have := HG4.out.size; have := HS3.out; simp at *; omega
        have HA4 := Lib.hid hA4
        have HO5 := Lib.hid hO4
        have HS4 := Lib.hid hs4
        clear hA4 hO4 hs4 hg
        simp only [List.getElem_toArray, List.getElem_cons_succ, List.getElem_cons_zero]
        simp only [Act.put, List.setIfInBounds_toArray, List.set_cons_zero, List.set_cons_succ]
        go_wp2
        go_roundw
        case rel => exact ⟨j + 1, g4, cap4, rfl, by omega, HO5.out, HS4.out, HA4.out⟩
        case measure => simp [lenOf]; omega
    · have hjn : j + 1 = n := by omega
      have i1 : ¬ (j : Int) + 1 < n := by omega
      go_wp2
      go_ret
      refine ⟨g, cap, rfl, ?_, HA.out.below⟩
      have := HO.out
      rw [hjn] at this
      exact own_base this (by have := HWW.out; omega)

end Nu
end Go.Proofs.Ytkkdimhibfpopaa
