/- Contracts: the product of two polynomials. -/
import Derived.Test.YtkkdimhibfpopaaU1
namespace Go.Proofs.Ytkkdimhibfpopaa
open Go.ChangeShapes Go.WideShapes Go.ChangeAt Go.RowKit Go.WideMaps Go.Maps
namespace Nu

def stepP (a b : List (Nat × Nat)) (i j : Nat) (P : List (Nat × Nat)) : List (Nat × Nat) := P.set (i + j) (addW (at2 P (i + j)) (mulW (at2 a i) (at2 b j)))
def inn (a b : List (Nat × Nat)) (i : Nat) (P : List (Nat × Nat)) : Nat → List (Nat × Nat)
  | 0 => P
  | j + 1 => stepP a b i j (inn a b i P j)
def outP (a b : List (Nat × Nat)) : Nat → List (Nat × Nat)
  | 0 => List.replicate (a.length + b.length - 1) (0, 0)
  | i + 1 => inn a b i (outP a b i) b.length
theorem inn_len (a b : List (Nat × Nat)) (i : Nat) (P : List (Nat × Nat)) : ∀ j, (inn a b i P j).length = P.length
  | 0 => rfl
  | j + 1 => by unfold inn stepP; rw [List.length_set]; exact inn_len a b i P j
theorem outP_len (a b : List (Nat × Nat)) : ∀ i, (outP a b i).length = a.length + b.length - 1
  | 0 => by unfold outP; simp
  | i + 1 => by unfold outP; rw [inn_len]; exact outP_len a b i

/-- What stands while a row of numbers is written. -/
structure Pr (w W : World) (o N : Nat) (P : List (Nat × Nat)) (C : List (Nat × Nat × Value)) : Prop where
  at_ : At w W C
  own : W.ownsRow o 32 2 (.slice (some ⟨o, 0, none⟩) N N) N (cellsN P)

theorem Pr.step {w W X V : World} {o N : Nat} {P : List (Nat × Nat)} {C : List (Nat × Nat × Value)} (h : Pr w W o N P C) (hb : Below X.heap.size X V) (e1 : X.heap = W.heap := by rfl) (e2 : X.os = W.os := by rfl) (e3 : X.tape = W.tape := by rfl) (e4 : X.output = W.output := by rfl) : Pr w V o N P C :=
  ⟨h.at_.step hb e1 e2 e3 e4, h.own.kept (below_grown hb e1 e2 e3 e4 none) (.inr (by simp [Value.ownBlock]))⟩
theorem Pr.two {w W : World} {o N : Nat} {P : List (Nat × Nat)} {C : List (Nat × Nat × Value)} (h : Pr w W o N P C) (a b : Value) (t : TypeId) (k : Nat) (hk : W.heap.size = k) : Pr w (W.alloc (.cells #[a, b] t)) o N P ((k, 0, a) :: (k, 1, b) :: C) :=
  ⟨h.at_.two a b t k hk, h.own.alloc _⟩
theorem Pr.cell0 {w W : World} {o N : Nat} {P : List (Nat × Nat)} {C : List (Nat × Nat × Value)} (h : Pr w W o N P C) (q : Nat) (hq : q < N) : W.cell? ⟨o, q * 2, none⟩ = some (.int .u32 (at2 P q).1) := by
  have hl := h.own.1
  rw [cellsN_len] at hl
  rw [h.own.cellAt (q * 2) (by omega), Nat.mul_comm]
  exact (cellsN_at P q (at2 P q) (at2_at (by omega))).1
theorem Pr.cell1 {w W : World} {o N : Nat} {P : List (Nat × Nat)} {C : List (Nat × Nat × Value)} (h : Pr w W o N P C) (q : Nat) (hq : q < N) : W.cell? ⟨o, q * 2 + 1, none⟩ = some (.int .u32 (at2 P q).2) := by
  have hl := h.own.1
  rw [cellsN_len] at hl
  rw [h.own.cellAt (q * 2 + 1) (by omega), Nat.mul_comm]
  exact (cellsN_at P q (at2 P q) (at2_at (by omega))).2
theorem Pr.put {w W : World} {o N : Nat} {P : List (Nat × Nat)} {C : List (Nat × Nat × Value)} (h : Pr w W o N P C) (ho : w.heap.size ≤ o) (hC : ∀ x ∈ C, x.1 ≠ o) (q : Nat) (u v : Nat) :
    Pr w ((W.setCell ⟨o, q * 2, none⟩ (.int .u32 u)).setCell ⟨o, q * 2 + 1, none⟩ (.int .u32 v)) o N (P.set q (u, v)) C :=
  ⟨⟨(h.at_.below.setCell (p := ⟨o, q * 2, none⟩) ho _).setCell (p := ⟨o, q * 2 + 1, none⟩) ho _, (h.at_.mem.put hC).put hC⟩, Ow.set2' h.own q u v⟩

theorem Pr.drop2 {w W : World} {o N : Nat} {P : List (Nat × Nat)} {C : List (Nat × Nat × Value)} {x y : Nat × Nat × Value} (h : Pr w W o N P (x :: y :: C)) : Pr w W o N P C := ⟨⟨h.at_.below, h.at_.mem.2.2⟩, h.own⟩

theorem prod_nil_l (ao bo : Option Addr) (n ca cb : Nat) (w : World) (hn : n ≤ 64) : Calls Try.prog 30 #[.slice ao 0 ca, .slice bo n cb] w fun e w' => e = .returned (.tuple #[.slice none 0 0, .int .i64 0]) ∧ Below w.heap.size w w' := by
  have i1 : ¬ (64 : Int) < n := by omega
  go_enter Try.func30, Try.ntmps30
  go_wp2
  go_ret2
  exact ⟨rfl, Below.refl _ _⟩
theorem prod_nil_r (ao bo : Option Addr) (n ca cb : Nat) (w : World) (h1 : 1 ≤ n) (hn : n ≤ 64) : Calls Try.prog 30 #[.slice ao n ca, .slice bo 0 cb] w fun e w' => e = .returned (.tuple #[.slice none 0 0, .int .i64 0]) ∧ Below w.heap.size w w' := by
  have i1 : ¬ (64 : Int) < n := by omega
  have i2 : ((n : Int) == 0) = false := by simp; omega
  go_enter Try.func30, Try.ntmps30
  go_wp2
  go_ret2
  exact ⟨rfl, Below.refl _ _⟩

set_option maxRecDepth 100000 in
set_option maxHeartbeats 4000000 in
theorem prod_any (la lb ba bb ca cb : Nat) (a b : List (Nat × Nat)) (w : World) (hla : a.length = la) (hlb : b.length = lb) (h1 : 1 ≤ la) (h2 : 1 ≤ lb) (h3 : la ≤ 64) (h4 : lb ≤ 64) (hNa : Num w ba a) (hNb : Num w bb b) :
    Calls Try.prog 30 #[.slice (some ⟨ba, 0, none⟩) la ca, .slice (some ⟨bb, 0, none⟩) lb cb] w fun e w' => ∃ g cap, e = .returned (.tuple #[.slice (some ⟨g, 0, none⟩) (la + lb - 1) cap, .int .i64 0]) ∧ Num w' g (outP a b la) ∧ Below w.heap.size w w' := by
  obtain ⟨N, hN⟩ : ∃ N, N = la + lb - 1 := ⟨_, rfl⟩
  rw [← hN]
  have i1 : ¬ (64 : Int) < la := by omega
  have i2 : ¬ (64 : Int) < lb := by omega
  have i3 : ((la : Int) == 0) = false := by simp; omega
  have i4 : ((lb : Int) == 0) = false := by simp; omega
  have i5 : IntKind.i64.wrap ((la : Int) + lb) = (la : Int) + lb := IntWalk.i64_in _ (by omega)
  have i6 : IntKind.i64.wrap ((la : Int) + lb - 1) = (N : Int) := by rw [show (la : Int) + lb - 1 = (N : Int) by omega]; exact IntWalk.i64_in _ (by omega)
  have HNN := Lib.hid hN
  have HLA := Lib.hid hla
  have HLB := Lib.hid hlb
  have H12 := Lib.hid (And.intro h1 h2)
  have H34 := Lib.hid (And.intro h3 h4)
  have HNA := Lib.hid hNa
  have HNB := Lib.hid hNb
  clear hN hla hlb h1 h2 h3 h4 hNa hNb
  obtain ⟨z0, hz0, hz1, hz2, hz3⟩ := info_parts info32
  obtain ⟨o, ho⟩ : ∃ o, o = w.heap.size := ⟨_, rfl⟩
  have HO := Lib.hid ho
  clear ho
  go_enter Try.func30, Try.ntmps30
  go_wp2_with (at_make; refine wpList_make_full _ rfl _ _ 24 rfl w.heap.size 32 z0 (.agg #[.int .u32 0, .int .u32 0]) 2 Try.underlying24 hz0 hz1 hz2 .i64 .i64 _ _ N rfl rfl rfl rfl (by rw [hz3]; have := H34.out; have := HNN.out; omega) (by have := H34.out; have := HNN.out; unfold maxLen; omega) (Nat.le_refl _) ?_
               intro w1 hown hg
               rw [← HO.out] at hown ⊢
               rw [made_rep] at hown
               have hown2 : w1.ownsRow o 32 2 (.slice (some ⟨o, 0, none⟩) N N) N (cellsN (outP a b 0)) := by
                 show w1.ownsRow o _ 2 _ N (cellsN (List.replicate (a.length + b.length - 1) (0, 0)))
                 rw [HLA.out, HLB.out, ← HNN.out]; exact hown
               have hP : Pr w w1 o N (outP a b 0) [] := ⟨⟨below_of hg, trivial⟩, hown2⟩
               have HP := Lib.hid hP
               clear hown hg hown2 hP)
  go_loopw [36] (fun v wr => ∃ i : Nat, v = .int .i64 i ∧ i ≤ la ∧ Pr w wr o N (outP a b i) []) (fun v _ => 100 - (intOf v).toNat)
  case atStart => exact ⟨0, rfl, Nat.zero_le _, HP.out⟩
  case round =>
    obtain ⟨i, rfl, hi, hp⟩ := hrel
    have HP := Lib.hid hp
    have HI := Lib.hid hi
    clear hi hp i1 i2 i3 i4 i5 i6
    have i8 : (la : Int) ≤ 64 := by have := H34.out; omega
    have i9 : (lb : Int) ≤ 64 := by have := H34.out; omega
    by_cases hlt : i < la
    · obtain ⟨x, hx⟩ : ∃ x, x = at2 a i := ⟨_, rfl⟩
      obtain ⟨x0, x1⟩ := (HNA.out.below rfl HP.out.at_.below) i x (by rw [hx]; exact at2_at (by rw [HLA.out]; exact hlt))
      rw [Nat.mul_comm] at x0 x1
      have i2 : (i : Int) < la := by omega
      have i3 : (0 : Int) ≤ i := by omega
      have HX := Lib.hid hx
      have HLT := Lib.hid hlt
      clear hx hlt
      go_wp2_with fail
      have hP := HP.out.two (.int .u32 x.1) (.int .u32 x.2) 32 _ rfl
      have hBx : o < wr.heap.size := (HP.out.own.lt o rfl).2
      obtain ⟨Bx, hB⟩ : ∃ Bx, Bx = wr.heap.size := ⟨_, rfl⟩
      obtain ⟨W, hW⟩ : ∃ W, W = wr.alloc (.cells #[.int .u32 x.1, .int .u32 x.2] 32) := ⟨_, rfl⟩
      rw [← hB] at hP hBx ⊢
      rw [← hW] at hP ⊢
      have HP := Lib.hid hP
      have HBx := Lib.hid hBx
      clear hB hW hP hBx x0 x1
      go_loopw [43] (fun v wr => ∃ j : Nat, v = .int .i64 j ∧ j ≤ lb ∧ Pr w wr o N (inn a b i (outP a b i) j) [(Bx, 0, .int .u32 x.1), (Bx, 1, .int .u32 x.2)]) (fun v _ => 100 - (intOf v).toNat)
      case atStart => exact ⟨0, rfl, Nat.zero_le _, HP.out⟩
      case round =>
        obtain ⟨j, rfl, hj, hp⟩ := hrel
        have HP := Lib.hid hp
        have HJ := Lib.hid hj
        clear hj hp
        by_cases hjt : j < lb
        · obtain ⟨y, hy⟩ : ∃ y, y = at2 b j := ⟨_, rfl⟩
          obtain ⟨y0, y1⟩ := (HNB.out.below rfl HP.out.at_.below) j y (by rw [hy]; exact at2_at (by rw [HLB.out]; exact hjt))
          rw [Nat.mul_comm] at y0 y1
          obtain ⟨q, hq⟩ : ∃ q, q = i + j := ⟨_, rfl⟩
          have j2 : (j : Int) < lb := by omega
          have j3 : (0 : Int) ≤ j := by omega
          have hqN : q < N := by have := HNN.out; have := HLT.out; omega
          have j4 : (q : Int) < N := by omega
          have j5 : (0 : Int) ≤ q := by omega
          have j6 : IntKind.i64.wrap ((i : Int) + j) = (q : Int) := by rw [show (i : Int) + j = (q : Int) by omega]; exact IntWalk.i64_in _ (by have := H34.out; have := HLT.out; omega)
          have HY := Lib.hid hy
          have HQN := Lib.hid hqN
          have HQ := Lib.hid hq
          have HJT := Lib.hid hjt
          clear hy hqN hq hjt
          go_wp2_with fail
          have hP := HP.out.two (.int .u32 y.1) (.int .u32 y.2) 32 _ rfl
          have hBy : o < wr.heap.size := (HP.out.own.lt o rfl).2
          obtain ⟨By, hB⟩ : ∃ By, By = wr.heap.size := ⟨_, rfl⟩
          obtain ⟨W, hW⟩ : ∃ W, W = wr.alloc (.cells #[.int .u32 y.1, .int .u32 y.2] 32) := ⟨_, rfl⟩
          rw [← hB] at hP hBy ⊢
          rw [← hW] at hP ⊢
          have HP := Lib.hid hP
          have HBy := Lib.hid hBy
          clear hP y0 y1 hB hW hBy
          obtain ⟨v, hv⟩ : ∃ v, v = at2 (inn a b i (outP a b i) j) q := ⟨_, rfl⟩
          have HV := Lib.hid hv
          clear hv
          obtain ⟨⟨c0, f0⟩, ⟨c1, f1⟩, ⟨d0, g0⟩, ⟨d1, g1⟩, -⟩ := HP.out.at_.mem; have o0 := HP.out.cell0 q HQN.out; have o1 := HP.out.cell1 q HQN.out; rw [← HV.out] at o0 o1; have r0 := HP.out.own.frozenAt (q * 2); have r1 := HP.out.own.frozenAt (q * 2 + 1)
          go_region_with (first
            | (go_at_call 15; refine (mul_any x.1 x.2 y.1 y.2 _).mono ?_; rintro e w3 ⟨rfl, hb1⟩; clear c0 f0 c1 f1 d0 g0 d1 g1 o0 o1 r0 r1; have HP := Lib.hid (HP.out.step hb1); obtain ⟨⟨c0, f0⟩, ⟨c1, f1⟩, ⟨d0, g0⟩, ⟨d1, g1⟩, -⟩ := HP.out.at_.mem; have o0 := HP.out.cell0 q HQN.out; have o1 := HP.out.cell1 q HQN.out; rw [← HV.out] at o0 o1; have r0 := HP.out.own.frozenAt (q * 2); have r1 := HP.out.own.frozenAt (q * 2 + 1); clear hb1; obtain ⟨m, hm⟩ : ∃ m, m = mulW (x.1, x.2) (y.1, y.2) := ⟨_, rfl⟩; rw [← hm]; have HM := Lib.hid hm; clear hm; unfold num)
            | (go_at_call 13; refine (add_any v.1 v.2 m.1 m.2 _).mono ?_; rintro e w3 ⟨rfl, hb1⟩; clear c0 f0 c1 f1 d0 g0 d1 g1 o0 o1 r0 r1; have HP := Lib.hid (HP.out.step hb1); obtain ⟨⟨c0, f0⟩, ⟨c1, f1⟩, ⟨d0, g0⟩, ⟨d1, g1⟩, -⟩ := HP.out.at_.mem; have o0 := HP.out.cell0 q HQN.out; have o1 := HP.out.cell1 q HQN.out; rw [← HV.out] at o0 o1; have r0 := HP.out.own.frozenAt (q * 2); have r1 := HP.out.own.frozenAt (q * 2 + 1); clear hb1))
          all_goals
            have hP := (HP.out.put (by rw [HO.out]; exact Nat.le_refl _) (by have := HBx.out; have := HBy.out; intro z hz; simp at hz; rcases hz with rfl | rfl | rfl | rfl <;> (dsimp only; omega)) q (fop .add v.1 m.1) (fop .add v.2 m.2)).drop2
            have hh : (inn a b i (outP a b i) j).set q (fop .add v.1 m.1, fop .add v.2 m.2) = inn a b i (outP a b i) (j + 1) := by
              show _ = (inn a b i (outP a b i) j).set (i + j) (addW (at2 (inn a b i (outP a b i) j) (i + j)) (mulW (at2 a i) (at2 b j)))
              rw [← HQ.out, ← HV.out, ← HX.out, ← HY.out, ← show m = mulW x y from HM.out]
              rfl
            rw [hh] at hP
            have HP2 := Lib.hid hP
            clear hP hh
            clear c0 f0 c1 f1 d0 g0 d1 g1 o0 o1 r0 r1
            go_wp2
            go_roundw
            case rel => exact ⟨j + 1, congrArg (Value.int .i64) (by omega), by have := HJT.out; omega, HP2.out⟩
            case measure => simp [intOf]; omega
        · have hjl : j = lb := by have := HJ.out; omega
          have j2 : ¬ (j : Int) < lb := by omega
          have hp := HP.out.drop2
          have hh : inn a b i (outP a b i) j = outP a b (i + 1) := by rw [hjl, ← HLB.out]; rfl
          rw [hh] at hp
          have HP2 := Lib.hid hp
          clear hjt hjl hp hh
          go_wp2
          go_roundw
          case rel => exact ⟨i + 1, congrArg (Value.int .i64) (by omega), by have := HLT.out; omega, HP2.out⟩
          case measure => simp [intOf]; omega
    · have hil : i = la := by have := HI.out; omega
      have HIL := Lib.hid hil
      have i2 : ¬ (i : Int) < la := by omega
      clear hil hlt
      go_wp2
      go_ret2
      refine ⟨o, ⟨N, rfl⟩, ?_, HP.out.at_.below⟩
      have := Num.of_own HP.out.own
      rw [HIL.out] at this
      exact this

end Nu
end Go.Proofs.Ytkkdimhibfpopaa
