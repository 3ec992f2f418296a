/- NumericPolynomials: the walk. -/
import Derived.Test.YtkahkdifjjafdaaV5
import Derived.Deep.Cut
import Derived.Deep.CutRange
namespace Go.Proofs.Ytkahkdifjjafdaa
open Go.ChangeShapes Go.WideShapes Go.ChangeAt Go.RowKit Go.WideMaps Go.Maps
namespace Nu

theorem ka {W : World} {p : Addr} {v : Value} {o : Obj} (h : W.cell? p = some v) : (W.alloc o).cell? p = some v := (World.grownBy_alloc W o none).cell h (by simp)
theorem arg_one (W : World) (a b : Nat) (t : TypeId) : ArgN (W.alloc (.cells #[.int .u32 a, .int .u32 b] t)) (.slice (some ⟨W.heap.size, 0, none⟩) 1 1) [(a, b)] := by
  refine ⟨_, 1, rfl, .inr ⟨_, 0, rfl, by simp, fun j x hx => ?_⟩⟩
  match j, hx with
  | 0, hx =>
    simp at hx
    subst hx
    exact ⟨(new_cell W _ _ 0 _ rfl).1, (new_cell W _ _ 1 _ rfl).1⟩
  | j + 1, hx => simp at hx
theorem arg_up (W : World) (o : Obj) (a b : Nat) (t : TypeId) : ArgN ((W.alloc o).alloc (.cells #[.int .u32 a, .int .u32 b] t)) (.slice (some ⟨W.heap.size + 1, 0, none⟩) 1 1) [(a, b)] := by
  have h := arg_one (W.alloc o) a b t
  rw [show (W.alloc o).heap.size = W.heap.size + 1 by simp] at h
  exact h
theorem Sl.far {W X V : World} {v : Value} {L : List (Nat × Nat)} (h : Sl W v L) (hb : Below X.heap.size X V) (hX : ∀ p u, W.cell? p = some u → X.cell? p = some u := by intro p u h; first | exact h | exact ka h | exact ka (ka h)) : Sl V v L := by
  obtain ⟨ao, cap, rfl, h⟩ := h
  refine ⟨ao, cap, rfl, ?_⟩
  rcases h with h | ⟨b, hb', hN⟩
  · exact .inl h
  · refine .inr ⟨b, hb', fun j y hy => ?_⟩
    have h1 := hX _ _ (hN j y hy).1
    have h2 := hX _ _ (hN j y hy).2
    have e : V.heap[b]? = X.heap[b]? := hb.block b (cell_lt h1)
    exact ⟨(World.cell?_of_block (w := X) e).trans h1, (World.cell?_of_block (w := X) e).trans h2⟩
theorem own_row {W : World} {base n : Nat} {t : TypeId} {v : Value} {xs : List Value} (h : W.ownsRow base t 2 v n xs) (hn : 0 < n) : ∃ g cap, v = .slice (some ⟨g, 0, none⟩) n cap ∧ base ≤ g := by
  rcases h.2 with ⟨_, h0⟩ | ⟨g, cap, cur, h1, h2, _⟩
  · omega
  · exact ⟨g, cap, h1, h2⟩
theorem first_last {W : World} {b : Nat} {u v : Value} : ∀ {L : List (Nat × Nat × Value)}, Mem W (L ++ [(b, 0, u), (b, 1, v)]) → W.cell? ⟨b, 0, none⟩ = some u ∧ W.cell? ⟨b, 1, none⟩ = some v
  | [], h => ⟨h.1.1, h.2.1.1⟩
  | (_, _, _) :: l, h => first_last (L := l) h.2
theorem Mem.sub {W : World} : ∀ {L' L : List (Nat × Nat × Value)}, Mem W L → (∀ e ∈ L', e ∈ L) → Mem W L'
  | [], _, _, _ => trivial
  | (b, o, v) :: l, L, h, hs => by
    have key : ∀ {L : List (Nat × Nat × Value)}, Mem W L → (b, o, v) ∈ L → W.cell? ⟨b, o, none⟩ = some v ∧ W.frozen? ⟨b, o, none⟩ = false := by
      intro L
      induction L with
      | nil => intro _ hm; cases hm
      | cons a l ih =>
        obtain ⟨b', o', v'⟩ := a
        intro h hm
        rcases List.mem_cons.1 hm with e | hm
        · cases e; exact h.1
        · exact ih h.2 hm
    exact ⟨key h (hs _ (List.mem_cons_self ..)), Mem.sub h (fun e he => hs e (List.mem_cons_of_mem _ he))⟩
theorem At.sub {w W : World} {L' L : List (Nat × Nat × Value)} (h : At w W L) (hs : ∀ e ∈ L', e ∈ L) : At w W L' := ⟨h.below, h.mem.sub hs⟩
theorem arg_cells {W : World} {B a b : Nat} (h0 : W.cell? ⟨B, 0, none⟩ = some (.int .u32 a)) (h1 : W.cell? ⟨B, 1, none⟩ = some (.int .u32 b)) : ArgN W (.slice (some ⟨B, 0, none⟩) 1 1) [(a, b)] := by
  refine ⟨_, 1, rfl, .inr ⟨_, 0, rfl, cell_lt h0, fun j x hx => ?_⟩⟩
  match j, hx with
  | 0, hx =>
    simp at hx
    subst hx
    exact ⟨h0, h1⟩
  | j + 1, hx => simp at hx

set_option maxRecDepth 100000 in
set_option maxHeartbeats 4000000 in
theorem polynomials_any (L M : List (Nat × Nat)) (v0 v1 : Value) (x : Nat × Nat) (w : World) (hl : ArgN w v0 L) (hm : ArgN w v1 M) :
    Calls Try.prog 4 #[v0, v1, .agg #[.int .u32 x.1, .int .u32 x.2]] w fun e w' => e = .returned (.bool true) ∧ Below w.heap.size w w' := by
  obtain ⟨ao, ca, rfl, hl⟩ := hl
  obtain ⟨bo, cb, rfl, hm⟩ := hm
  obtain ⟨n, hn⟩ : ∃ n, n = L.length := ⟨_, rfl⟩
  obtain ⟨k, hk⟩ : ∃ k, k = M.length := ⟨_, rfl⟩
  have HAL := Lib.hid (show ArgN w (.slice ao n ca) L from ⟨ao, ca, by rw [hn], hl⟩)
  have HAM := Lib.hid (show ArgN w (.slice bo k cb) M from ⟨bo, cb, by rw [hk], hm⟩)
  rw [← hn, ← hk]
  have HN := Lib.hid hn
  have HK := Lib.hid hk
  have hA := (At.first w).two (.int .u32 x.1) (.int .u32 x.2) 23 _ rfl
  have HA := Lib.hid hA
  clear hn hk hl hm hA
  by_cases hbig : 70 < n ∨ 70 < k
  · have hguard : (decide ((70 : Int) < n) || decide ((70 : Int) < k)) = true := by simp; omega
    by_cases h1 : 70 < n
    · have i1 : (70 : Int) < n := by omega
      clear hguard hbig h1
      go_enter Try.func4, Try.ntmps4
      go_wp2_with (go_at_call 27; refine (awake_true _).mono ?_; rintro e w1 ⟨rfl, hb⟩; have HA := Lib.hid (HA.out.step hb); clear hb)
      go_ret
      exact ⟨rfl, HA.out.below⟩
    · have i1 : ¬ (70 : Int) < n := by omega
      have i2 : (70 : Int) < k := by omega
      clear hguard hbig h1
      go_enter Try.func4, Try.ntmps4
      go_wp2_with (go_at_call 27; refine (awake_true _).mono ?_; rintro e w1 ⟨rfl, hb⟩; have HA := Lib.hid (HA.out.step hb); clear hb)
      go_ret
      exact ⟨rfl, HA.out.below⟩
  · have i1 : ¬ (70 : Int) < n := by omega
    have i2 : ¬ (70 : Int) < k := by omega
    have hnl : L.length ≤ 200 := by have := HN.out; omega
    have hml : M.length ≤ 200 := by have := HK.out; omega
    have HNL := Lib.hid hnl
    have HML := Lib.hid hml
    have H1L : Hid (([x] : List (Nat × Nat)).length ≤ 200) := by show 1 ≤ 200; omega
    clear hbig hnl hml
    go_enter Try.func4, Try.ntmps4
    go_upto_region 3 with (fail)
    obtain ⟨W0, hW0⟩ : ∃ W0, W0 = w.alloc (.cells #[.int .u32 x.1, .int .u32 x.2] 23) := ⟨_, rfl⟩
    rw [← hW0] at HA ⊢
    clear hW0
    go_cut [7] from 22 to 29 (fun t7 wx => ∃ B, t7 = .pointer (some ⟨B, 0, none⟩) ∧ At w wx [(B, 0, .int .u32 (polyW L x).1), (B, 1, .int .u32 (polyW L x).2), (w.heap.size, 0, .int .u32 x.1), (w.heap.size, 1, .int .u32 x.2)])
    case first =>
      obtain ⟨⟨k00, -⟩, ⟨k01, -⟩, -⟩ := HA.out.mem
      have l0 := cell_lt k00
      dsimp only at l0
      have k02 := ka (o := (.cells #[.int .u32 0, .int .u32 0] 32)) k00
      have k03 := ka (o := (.cells #[.int .u32 0, .int .u32 0] 32)) k01
      go_region_with (first
          | (go_at_call 9
             refine (given_any ?_ _ _ ?_ ?_).mono ?_
             rotate_left 1
             first
               | exact HAL.out.step (HA.out.below)
               | exact HAL.out.step (((HA.out.below).alloc (HA.out.below).size (.cells #[.int .u32 0, .int .u32 0] 32)))
               | exact HAL.out.step (((HA.out.below).alloc (HA.out.below).size (.cells #[.int .u32 x.1, .int .u32 x.2] 23)))
               | exact HAL.out.step (((((HA.out.below).alloc (HA.out.below).size (.cells #[.int .u32 0, .int .u32 0] 32))).alloc (((HA.out.below).alloc (HA.out.below).size (.cells #[.int .u32 0, .int .u32 0] 32))).size (.cells #[.int .u32 x.1, .int .u32 x.2] 23)))
               | exact HAL.out.step (((((HA.out.below).alloc (HA.out.below).size (.cells #[.int .u32 x.1, .int .u32 x.2] 23))).alloc (((HA.out.below).alloc (HA.out.below).size (.cells #[.int .u32 x.1, .int .u32 x.2] 23))).size (.cells #[.int .u32 0, .int .u32 0] 32)))
               | exact arg_one _ x.1 x.2 23
               | exact (arg_one _ x.1 x.2 23).step ((Below.refl _ _).alloc (Nat.le_refl _) (.cells #[.int .u32 0, .int .u32 0] 32))
               | exact arg_up _ _ x.1 x.2 23
               | exact arg_cells HA.out.mem.1.1 HA.out.mem.2.1.1
               | exact arg_cells (ka HA.out.mem.1.1) (ka HA.out.mem.2.1.1)
               | exact arg_cells HA.out.mem.2.2.1.1 HA.out.mem.2.2.2.1.1
               | exact arg_cells (ka HA.out.mem.2.2.1.1) (ka HA.out.mem.2.2.2.1.1)
             first | exact HNL.out | exact H1L.out
             rintro e w1 ⟨v, rfl, hrow, hb⟩
             first
               | (have HA := Lib.hid (HA.out.step hb))
               | (have HA := Lib.hid ((HA.out.two (.int .u32 0) (.int .u32 0) 32 _ rfl).step hb))
               | (have HA := Lib.hid ((HA.out.two (.int .u32 x.1) (.int .u32 x.2) 23 _ rfl).step hb))
               | (have HA := Lib.hid (((HA.out.two (.int .u32 0) (.int .u32 0) 32 _ rfl).two (.int .u32 x.1) (.int .u32 x.2) 23 _ (by simp; rfl)).step hb))
               | (have HA := Lib.hid (((HA.out.two (.int .u32 x.1) (.int .u32 x.2) 23 _ rfl).two (.int .u32 0) (.int .u32 0) 32 _ (by simp; rfl)).step hb))
             have kx : w1.cell? ⟨w.heap.size, 0, none⟩ = some (.int .u32 x.1) ∧ w1.cell? ⟨w.heap.size, 1, none⟩ = some (.int .u32 x.2) := by first | exact first_last (L := []) HA.out.mem | exact first_last (L := [_, _]) HA.out.mem | exact first_last (L := [_, _, _, _]) HA.out.mem
             obtain ⟨kx0, kx1⟩ := kx
             have lx := cell_lt kx0
             dsimp only at lx
             have kx2 := ka (o := (.cells #[.int .u32 0, .int .u32 0] 32)) kx0
             have kx3 := ka (o := (.cells #[.int .u32 0, .int .u32 0] 32)) kx1
             obtain ⟨⟨q0, r0⟩, ⟨q1, r1⟩, -⟩ := HA.out.mem
             try obtain ⟨-, -, ⟨q2, r2⟩, ⟨q3, r3⟩, -⟩ := HA.out.mem
             first
               | (have HSL := Lib.hid (Sl.far HSL.out hb)
                  simp only [List.length_cons, List.length_nil, Nat.zero_add] at hrow
                  obtain ⟨g, cap, rfl, hg⟩ := own_row hrow (by omega)
                  have m0 : w1.cell? ⟨g, 0, none⟩ = some (.int .u32 x.1) := hrow.cellAt 0 (by omega)
                  have m1 : w1.cell? ⟨g, 1, none⟩ = some (.int .u32 x.2) := hrow.cellAt 1 (by omega)
                  have m2 := ka (o := (.cells #[.int .u32 0, .int .u32 0] 32)) m0
                  have m3 := ka (o := (.cells #[.int .u32 0, .int .u32 0] 32)) m1
                  clear hrow hb hg)
               | (have HSL := Lib.hid (Sl.of_row hrow rfl)
                  clear hrow hb))
          | (go_at_call 28
             refine (poly_sl _ L x _ ?_ HNL.out).mono ?_
             first | exact HSL.out | exact HSL.out.step ((Below.refl _ _).alloc (Nat.le_refl _) (.cells #[.int .u32 0, .int .u32 0] 32))
             rintro e w1 ⟨rfl, hb⟩
             first
               | (have HA := Lib.hid (HA.out.step hb))
               | (have HA := Lib.hid ((HA.out.two (.int .u32 0) (.int .u32 0) 32 _ rfl).step hb))
               | (have HA := Lib.hid ((HA.out.two (.int .u32 x.1) (.int .u32 x.2) 23 _ rfl).step hb))
               | (have HA := Lib.hid (((HA.out.two (.int .u32 0) (.int .u32 0) 32 _ rfl).two (.int .u32 x.1) (.int .u32 x.2) 23 _ (by simp; rfl)).step hb))
               | (have HA := Lib.hid (((HA.out.two (.int .u32 x.1) (.int .u32 x.2) 23 _ rfl).two (.int .u32 0) (.int .u32 0) 32 _ (by simp; rfl)).step hb))
             have kx : w1.cell? ⟨w.heap.size, 0, none⟩ = some (.int .u32 x.1) ∧ w1.cell? ⟨w.heap.size, 1, none⟩ = some (.int .u32 x.2) := by first | exact first_last (L := []) HA.out.mem | exact first_last (L := [_, _]) HA.out.mem | exact first_last (L := [_, _, _, _]) HA.out.mem
             obtain ⟨kx0, kx1⟩ := kx
             have lx := cell_lt kx0
             dsimp only at lx
             have kx2 := ka (o := (.cells #[.int .u32 0, .int .u32 0] 32)) kx0
             have kx3 := ka (o := (.cells #[.int .u32 0, .int .u32 0] 32)) kx1
             obtain ⟨⟨q0, r0⟩, ⟨q1, r1⟩, -⟩ := HA.out.mem
             try obtain ⟨-, -, ⟨q2, r2⟩, ⟨q3, r3⟩, -⟩ := HA.out.mem
             obtain ⟨P, hP⟩ : ∃ P, P = polyW L x := ⟨_, rfl⟩
             rw [← hP]
             have HP := Lib.hid hP
             clear hb hP))
      all_goals
        go_wp2_with fail
        go_meet
        first
          | (rw [← HP.out]; exact ⟨_, rfl, (HA.out.two _ _ _ _ rfl).sub (by intro e he; simp at he; rcases he with rfl | rfl | rfl | rfl <;> simp)⟩)
          | (rw [← HP.out]; exact ⟨_, rfl, (HA.out.sub (by intro e he; simp at he; rcases he with rfl | rfl | rfl | rfl <;> simp) : At w w1 [(_, 0, .int .u32 0), (_, 1, .int .u32 0), (w.heap.size, 0, .int .u32 x.1), (w.heap.size, 1, .int .u32 x.2)]).put2 (by omega) (by intro z hz; simp at hz; rcases hz with rfl | rfl <;> (dsimp only; omega))⟩)
          | trace_state
    case rest =>
      obtain ⟨B7, rfl, hA⟩ := hcut
      obtain ⟨Q, hQ⟩ : ∃ Q, Q = polyW L x := ⟨_, rfl⟩
      rw [← hQ] at hA
      have HA := Lib.hid hA
      have HQ := Lib.hid hQ
      clear hA hQ
      go_upto_region 4 with (fail)
      go_cut [8] from 30 to 37 (fun t8 wx => ∃ B, t8 = .pointer (some ⟨B, 0, none⟩) ∧ At w wx [(B, 0, .int .u32 Q.1), (B, 1, .int .u32 Q.2), (B7, 0, .int .u32 Q.1), (B7, 1, .int .u32 Q.2), (w.heap.size, 0, .int .u32 x.1), (w.heap.size, 1, .int .u32 x.2)])
      case first =>
        obtain ⟨k00, k01⟩ := first_last (L := [_, _]) HA.out.mem
        have kb0 := HA.out.mem.1.1
        have ly0 := cell_lt kb0
        dsimp only at ly0
        have l0 := cell_lt k00
        dsimp only at l0
        have k02 := ka (o := (.cells #[.int .u32 0, .int .u32 0] 38)) k00
        have k03 := ka (o := (.cells #[.int .u32 0, .int .u32 0] 38)) k01
        go_region_with (first
            | (go_at_call 10
               refine (own_any ?_ _ _ ?_ ?_).mono ?_
               rotate_left 1
               first
                 | exact HAL.out.step (HA.out.below)
                 | exact HAL.out.step (((HA.out.below).alloc (HA.out.below).size (.cells #[.int .u32 0, .int .u32 0] 38)))
                 | exact HAL.out.step (((HA.out.below).alloc (HA.out.below).size (.cells #[.int .u32 x.1, .int .u32 x.2] 23)))
                 | exact HAL.out.step (((((HA.out.below).alloc (HA.out.below).size (.cells #[.int .u32 0, .int .u32 0] 38))).alloc (((HA.out.below).alloc (HA.out.below).size (.cells #[.int .u32 0, .int .u32 0] 38))).size (.cells #[.int .u32 x.1, .int .u32 x.2] 23)))
                 | exact HAL.out.step (((((HA.out.below).alloc (HA.out.below).size (.cells #[.int .u32 x.1, .int .u32 x.2] 23))).alloc (((HA.out.below).alloc (HA.out.below).size (.cells #[.int .u32 x.1, .int .u32 x.2] 23))).size (.cells #[.int .u32 0, .int .u32 0] 38)))
                 | exact arg_one _ x.1 x.2 23
                 | exact (arg_one _ x.1 x.2 23).step ((Below.refl _ _).alloc (Nat.le_refl _) (.cells #[.int .u32 0, .int .u32 0] 38))
                 | exact arg_up _ _ x.1 x.2 23
                 | exact arg_cells HA.out.mem.1.1 HA.out.mem.2.1.1
                 | exact arg_cells (ka HA.out.mem.1.1) (ka HA.out.mem.2.1.1)
                 | exact arg_cells HA.out.mem.2.2.1.1 HA.out.mem.2.2.2.1.1
                 | exact arg_cells (ka HA.out.mem.2.2.1.1) (ka HA.out.mem.2.2.2.1.1)
               first | exact HNL.out | exact H1L.out
               rintro e w1 ⟨v, rfl, hrow, hb⟩
               first
                 | (have HA := Lib.hid (HA.out.step hb))
                 | (have HA := Lib.hid ((HA.out.two (.int .u32 0) (.int .u32 0) 38 _ rfl).step hb))
                 | (have HA := Lib.hid ((HA.out.two (.int .u32 x.1) (.int .u32 x.2) 23 _ rfl).step hb))
                 | (have HA := Lib.hid (((HA.out.two (.int .u32 0) (.int .u32 0) 38 _ rfl).two (.int .u32 x.1) (.int .u32 x.2) 23 _ (by simp; rfl)).step hb))
                 | (have HA := Lib.hid (((HA.out.two (.int .u32 x.1) (.int .u32 x.2) 23 _ rfl).two (.int .u32 0) (.int .u32 0) 38 _ (by simp; rfl)).step hb))
               have kx : w1.cell? ⟨w.heap.size, 0, none⟩ = some (.int .u32 x.1) ∧ w1.cell? ⟨w.heap.size, 1, none⟩ = some (.int .u32 x.2) := by first | exact first_last (L := []) HA.out.mem | exact first_last (L := [_, _]) HA.out.mem | exact first_last (L := [_, _, _, _]) HA.out.mem | exact first_last (L := [_, _, _, _, _, _]) HA.out.mem
               obtain ⟨kx0, kx1⟩ := kx
               have kb := (Mem.sub (L' := [(B7, 0, .int .u32 Q.1)]) HA.out.mem (by intro e he; simp at he; subst he; simp)).1.1
               have ly := cell_lt kb
               dsimp only at ly
               have lx := cell_lt kx0
               dsimp only at lx
               have kx2 := ka (o := (.cells #[.int .u32 0, .int .u32 0] 38)) kx0
               have kx3 := ka (o := (.cells #[.int .u32 0, .int .u32 0] 38)) kx1
               obtain ⟨⟨q0, r0⟩, ⟨q1, r1⟩, -⟩ := HA.out.mem
               try obtain ⟨-, -, ⟨q2, r2⟩, ⟨q3, r3⟩, -⟩ := HA.out.mem
               first
                 | (have HSL := Lib.hid (Sl.far HSL.out hb)
                    simp only [List.length_cons, List.length_nil, Nat.zero_add] at hrow
                    obtain ⟨g, cap, rfl, hg⟩ := own_row hrow (by omega)
                    have m0 : w1.cell? ⟨g, 0, none⟩ = some (.int .u32 x.1) := hrow.cellAt 0 (by omega)
                    have m1 : w1.cell? ⟨g, 1, none⟩ = some (.int .u32 x.2) := hrow.cellAt 1 (by omega)
                    have m2 := ka (o := (.cells #[.int .u32 0, .int .u32 0] 38)) m0
                    have m3 := ka (o := (.cells #[.int .u32 0, .int .u32 0] 38)) m1
                    clear hrow hb hg)
                 | (have HSL := Lib.hid (Sl.of_row hrow rfl)
                    clear hrow hb))
            | (go_at_call 29
               refine (rpoly_sl _ L x _ ?_ HNL.out).mono ?_
               first | exact HSL.out | exact HSL.out.step ((Below.refl _ _).alloc (Nat.le_refl _) (.cells #[.int .u32 0, .int .u32 0] 38))
               rintro e w1 ⟨rfl, hb⟩
               first
                 | (have HA := Lib.hid (HA.out.step hb))
                 | (have HA := Lib.hid ((HA.out.two (.int .u32 0) (.int .u32 0) 38 _ rfl).step hb))
                 | (have HA := Lib.hid ((HA.out.two (.int .u32 x.1) (.int .u32 x.2) 23 _ rfl).step hb))
                 | (have HA := Lib.hid (((HA.out.two (.int .u32 0) (.int .u32 0) 38 _ rfl).two (.int .u32 x.1) (.int .u32 x.2) 23 _ (by simp; rfl)).step hb))
                 | (have HA := Lib.hid (((HA.out.two (.int .u32 x.1) (.int .u32 x.2) 23 _ rfl).two (.int .u32 0) (.int .u32 0) 38 _ (by simp; rfl)).step hb))
               have kx : w1.cell? ⟨w.heap.size, 0, none⟩ = some (.int .u32 x.1) ∧ w1.cell? ⟨w.heap.size, 1, none⟩ = some (.int .u32 x.2) := by first | exact first_last (L := []) HA.out.mem | exact first_last (L := [_, _]) HA.out.mem | exact first_last (L := [_, _, _, _]) HA.out.mem | exact first_last (L := [_, _, _, _, _, _]) HA.out.mem
               obtain ⟨kx0, kx1⟩ := kx
               have kb := (Mem.sub (L' := [(B7, 0, .int .u32 Q.1)]) HA.out.mem (by intro e he; simp at he; subst he; simp)).1.1
               have ly := cell_lt kb
               dsimp only at ly
               have lx := cell_lt kx0
               dsimp only at lx
               have kx2 := ka (o := (.cells #[.int .u32 0, .int .u32 0] 38)) kx0
               have kx3 := ka (o := (.cells #[.int .u32 0, .int .u32 0] 38)) kx1
               obtain ⟨⟨q0, r0⟩, ⟨q1, r1⟩, -⟩ := HA.out.mem
               try obtain ⟨-, -, ⟨q2, r2⟩, ⟨q3, r3⟩, -⟩ := HA.out.mem
               obtain ⟨P, hP⟩ : ∃ P, P = polyW L x := ⟨_, rfl⟩
               rw [← hP]
               have HP := Lib.hid hP
               clear hb hP))
        all_goals
          go_wp2_with fail
          go_meet
          first
            | (rw [show Q = P from HQ.out.trans HP.out.symm]; exact ⟨_, rfl, (HA.out.two _ _ _ _ rfl).sub (by rw [show Q = P from HQ.out.trans HP.out.symm]; intro e he; simp at he; rcases he with rfl | rfl | rfl | rfl | rfl | rfl <;> simp)⟩)
            | (exact ⟨_, rfl, by rw [show P = Q from HP.out.trans HQ.out.symm]; exact (HA.out.sub (by intro e he; simp at he; rcases he with rfl | rfl | rfl | rfl | rfl | rfl <;> simp) : At w w1 [(_, 0, .int .u32 0), (_, 1, .int .u32 0), (B7, 0, .int .u32 Q.1), (B7, 1, .int .u32 Q.2), (w.heap.size, 0, .int .u32 x.1), (w.heap.size, 1, .int .u32 x.2)]).put2 (by omega) (by intro z hz; simp at hz; rcases hz with rfl | rfl | rfl | rfl <;> (dsimp only; omega))⟩)
            | trace_state

      case rest =>
        obtain ⟨B8, rfl, hA⟩ := hcut
        have HA := Lib.hid hA
        have hpl : (prodE L M).1.length ≤ 200 := by
          unfold prodE
          split
          · simp
          · rename_i h
            show (prodW L M).length ≤ 200
            unfold prodW
            split
            · simp
            · rw [outP_len]; omega
        have HPL := Lib.hid hpl
        obtain ⟨PE, hPE⟩ : ∃ e, e = prodE L M := ⟨_, rfl⟩
        rw [← hPE] at HPL
        have HPE := Lib.hid hPE
        clear hA hpl hPE
        go_wp2_with (first
          | (go_at_call 9
             refine (given_any ?_ _ _ ?_ ?_).mono ?_
             rotate_left 1
             first | exact HAL.out.step HA.out.below | exact HAM.out.step HA.out.below
             first | exact HNL.out | exact HML.out
             rintro e w1 ⟨v, rfl, hrow, hb⟩
             have HA := Lib.hid (HA.out.step hb)
             first
               | (have HS1 := Lib.hid (HS1.out.step hb); have HS2 := Lib.hid (Sl.of_row hrow rfl); clear hrow hb)
               | (have HS1 := Lib.hid (Sl.of_row hrow rfl); clear hrow hb))
          | (go_at_call 10
             refine (own_any ?_ _ _ ?_ ?_).mono ?_
             rotate_left 1
             first | exact HAL.out.step HA.out.below | exact HAM.out.step HA.out.below
             first | exact HNL.out | exact HML.out
             rintro e w1 ⟨v, rfl, hrow, hb⟩
             have HA := Lib.hid (HA.out.step hb)
             have HP1 := Lib.hid (HP1.out.step hb)
             first
               | (have HR1 := Lib.hid (HR1.out.step hb); have HR2 := Lib.hid (Sl.of_row hrow rfl); clear hrow hb)
               | (have HR1 := Lib.hid (Sl.of_row hrow rfl); clear hrow hb))
          | (go_at_call 30
             refine (prod_both _ _ L M _ HS1.out HS2.out).1.mono ?_
             rintro e w1 ⟨v, rfl, hs, hb⟩
             have HA := Lib.hid (HA.out.step hb)
             rw [← HPE.out] at hs ⊢
             have HP1 := Lib.hid hs
             clear hs hb)
          | (go_at_call 31
             refine (prod_both _ _ L M _ HR1.out HR2.out).2.mono ?_
             rintro e w1 ⟨v, rfl, hs, hb⟩
             have HA := Lib.hid (HA.out.step hb)
             have HP1 := Lib.hid (HP1.out.step hb)
             rw [← HPE.out] at hs ⊢
             have HP2 := Lib.hid hs
             obtain ⟨⟨c0, -⟩, ⟨c1, -⟩, ⟨c2, -⟩, ⟨c3, -⟩, -⟩ := HA.out.mem
             clear hs hb)
          | (go_at_call 12
             refine (alike_any _ _ PE.1 _ HP1.out HP2.out HPL.out).mono ?_
             rintro e w1 ⟨rfl, hb⟩
             have HA := Lib.hid (HA.out.step hb)
             clear hb)
          | (go_at_call 27
             refine (awake_true _).mono ?_
             rintro e w1 ⟨rfl, hb⟩
             have HA := Lib.hid (HA.out.step hb)
             clear hb))
        go_ret
        exact ⟨rfl, HA.out.below⟩

end Nu
end Go.Proofs.Ytkahkdifjjafdaa
