/- NumericSmall: its first region, in whatever order. -/
import Derived.Test.YtkkdimhibfpopaaY4
import Derived.Test.YtkkdimhibfpopaaY3
namespace Go.Proofs.Ytkkdimhibfpopaa
open Go.ChangeShapes Go.WideShapes Go.ChangeAt Go.RowKit Go.WideMaps Go.Maps
namespace Nu

def frS (A B C : Value) (k : Int) (p : Nat) (U : Nat → Value) : Act := { tmps := #[A, B, C, .int .u8 k, .pointer (some ⟨p, 0, none⟩), .pointer (some ⟨p + 1, 0, none⟩), .pointer (some ⟨p + 1 + 1, 0, none⟩), undef, .bool false, U 21, U 22, U 23, undef, undef, undef, undef, undef, undef, undef, undef, U 0, U 1, U 2, U 3, U 4, U 5, U 6, U 7, U 8, U 9, U 10, U 11, U 12, U 13, U 14, U 15, U 16, U 17, U 18, U 19, U 20, undef, undef, undef, undef, undef, undef, undef, undef, undef, undef, undef, undef, undef, undef, undef, undef, undef, undef, undef, undef, undef, undef, undef, undef, undef, undef, undef, undef, undef, undef, undef, undef, undef, undef, undef, undef, undef, undef, undef, undef, undef, undef, undef, undef, undef, undef, undef, undef, undef, undef, undef, undef, undef, undef, undef, undef, undef, undef, undef, undef, undef, undef, undef, undef, undef, undef, undef, undef, undef, undef, undef, undef, undef, undef, undef, undef, undef, undef, undef, undef, undef, undef, undef, undef, undef, undef, undef, undef, undef, undef, undef, undef, undef, undef, undef, undef, undef, undef, undef, undef, undef, undef, undef, undef, undef, undef, undef, undef, undef, undef, undef, undef, undef, undef, undef, undef, undef, undef, undef, undef, undef, undef, undef, undef, undef, undef], defers := [] }

/-- The values that the region's first 21 operations leave: an address, a word, a small integer, the same of the second part, a number; thrice. -/
def vS (p : Nat) (a b c : Int × Int) : Nat → Value := fun j => [.pointer (some ⟨p, 0, none⟩), .int .i16 a.1, .int .i64 (a.1.tmod 1001), .pointer (some ⟨p, 1, none⟩), .int .i16 a.2, .int .i64 (a.2.tmod 1001), num (smallN a),
  .pointer (some ⟨p + 1, 0, none⟩), .int .i16 b.1, .int .i64 (b.1.tmod 1001), .pointer (some ⟨p + 1, 1, none⟩), .int .i16 b.2, .int .i64 (b.2.tmod 1001), num (smallN b),
  .pointer (some ⟨p + 1 + 1, 0, none⟩), .int .i16 c.1, .int .i64 (c.1.tmod 1001), .pointer (some ⟨p + 1 + 1, 1, none⟩), .int .i16 c.2, .int .i64 (c.2.tmod 1001), num (smallN c)].getD j undef
def xS (a b c : Int × Int) : Nat → Nat × Nat := fun j => if j = 21 then smallN a else if j = 22 then smallN b else smallN c

/-- The arrays' cells. -/
structure Ar (W : World) (p : Nat) (a b c : Int × Int) : Prop where
  x0 : W.cell? ⟨p, 0, none⟩ = some (.int .i16 a.1)
  x1 : W.cell? ⟨p, 1, none⟩ = some (.int .i16 a.2)
  y0 : W.cell? ⟨p + 1, 0, none⟩ = some (.int .i16 b.1)
  y1 : W.cell? ⟨p + 1, 1, none⟩ = some (.int .i16 b.2)
  z0 : W.cell? ⟨p + 1 + 1, 0, none⟩ = some (.int .i16 c.1)
  z1 : W.cell? ⟨p + 1 + 1, 1, none⟩ = some (.int .i16 c.2)
theorem Ar.below {n : Nat} {W V : World} {p : Nat} {a b c : Int × Int} (h : Ar W p a b c) (hb : Below n W V) (hl : p + 1 + 1 < n) : Ar V p a b c :=
  ⟨(hb.cell (p := ⟨p, 0, none⟩) (by dsimp only; omega)).trans h.x0, (hb.cell (p := ⟨p, 1, none⟩) (by dsimp only; omega)).trans h.x1, (hb.cell (p := ⟨p + 1, 0, none⟩) (by dsimp only; omega)).trans h.y0, (hb.cell (p := ⟨p + 1, 1, none⟩) (by dsimp only; omega)).trans h.y1, (hb.cell (p := ⟨p + 1 + 1, 0, none⟩) hl).trans h.z0, (hb.cell (p := ⟨p + 1 + 1, 1, none⟩) hl).trans h.z1⟩

def B16 (a : Int × Int) : Prop := -32768 ≤ a.1 ∧ a.1 ≤ 32767 ∧ -32768 ≤ a.2 ∧ a.2 ≤ 32767

def frT (a b c : Int × Int) (A B C : Nat × Nat) (k : Int) (r : Nat) (m P Q R S : Int) (p ga gb gc gt : Nat) (U : Nat → Value) : Act := { tmps := #[.agg #[.int .i16 a.1, .int .i16 a.2], .agg #[.int .i16 b.1, .int .i16 b.2], .agg #[.int .i16 c.1, .int .i16 c.2], .int .u8 k, .pointer (some ⟨p, 0, none⟩), .pointer (some ⟨p + 1, 0, none⟩), .pointer (some ⟨p + 1 + 1, 0, none⟩), undef, .bool false, .pointer (some ⟨ga, 0, none⟩), .pointer (some ⟨gb, 0, none⟩), .pointer (some ⟨gc, 0, none⟩), .int .i64 P, .int .i64 Q, .int .i64 R, .int .i64 S, .pointer (some ⟨gt, 0, none⟩), U 4, undef, undef, .pointer (some ⟨p, 0, none⟩), .int .i16 a.1, .int .i64 (P), .pointer (some ⟨p, 1, none⟩), .int .i16 a.2, .int .i64 (Q), .agg #[.int .u32 A.1, .int .u32 A.2], .pointer (some ⟨p + 1, 0, none⟩), .int .i16 b.1, .int .i64 (R), .pointer (some ⟨p + 1, 1, none⟩), .int .i16 b.2, .int .i64 (S), .agg #[.int .u32 B.1, .int .u32 B.2], .pointer (some ⟨p + 1 + 1, 0, none⟩), .int .i16 c.1, .int .i64 (c.1.tmod 1001), .pointer (some ⟨p + 1 + 1, 1, none⟩), .int .i16 c.2, .int .i64 (c.2.tmod 1001), .agg #[.int .u32 C.1, .int .u32 C.2], .pointer (some ⟨p, 0, none⟩), .int .i16 a.1, .int .i64 (P), .pointer (some ⟨p, 1, none⟩), .int .i16 a.2, .int .i64 (Q), .pointer (some ⟨p + 1, 0, none⟩), .int .i16 b.1, .int .i64 (R), .pointer (some ⟨p + 1, 1, none⟩), .int .i16 b.2, .int .i64 (S), .int .u8 k, .int .u8 r, .int .i64 m, .agg #[.int .u32 (wd m), .int .u32 (wd 0)], U 0, U 1, U 2, U 3, undef, undef, undef, undef, undef, undef, undef, undef, undef, undef, undef, undef, undef, undef, undef, undef, undef, undef, undef, undef, undef, undef, undef, undef, undef, undef, undef, undef, undef, undef, undef, undef, undef, undef, undef, undef, undef, undef, undef, undef, undef, undef, undef, undef, undef, undef, undef, undef, undef, undef, undef, undef, undef, undef, undef, undef, undef, undef, undef, undef, undef, undef, undef, undef, undef, undef, undef, undef, undef, undef, undef, undef, undef, undef, undef, undef, undef, undef, undef, undef, undef, undef, undef, undef, undef, undef, undef, undef, undef, undef, undef, undef, undef, undef, undef, undef, undef, undef, undef, undef, undef, undef, undef, undef, undef, undef], defers := [] }
def vT (A : Nat × Nat) : Nat → Value := fun j => [.agg #[.int .u32 A.1, .int .u32 A.2], .agg #[.int .u32 A.1, .int .u32 A.2], num (conjW A), num (mulW A (conjW A))].getD j undef

/-- Four numbers in their blocks, and the frame. -/
structure Fv (w W : World) (ga gb gc gt : Nat) (A B C T : Nat × Nat) : Prop where
  below : Below w.heap.size w W
  a : Has W ga A
  b : Has W gb B
  c : Has W gc C
  t : Has W gt T
theorem Fv.step {w W X V : World} {ga gb gc gt : Nat} {A B C T : Nat × Nat} (h : Fv w W ga gb gc gt A B C T) (hv : Below X.heap.size X V) (e1 : X.heap = W.heap := by rfl) (e2 : X.os = W.os := by rfl) (e3 : X.tape = W.tape := by rfl) (e4 : X.output = W.output := by rfl) : Fv w V ga gb gc gt A B C T :=
  ⟨h.below.grown (below_grown hv e1 e2 e3 e4 none) h.below.size (by simp), h.a.step hv e1, h.b.step hv e1, h.c.step hv e1, h.t.step hv e1⟩

def vQ (P Q R S PR QS PS QR PP QQ : Int) (A B C T M : Nat × Nat) : Nat → Value := fun j => [.agg #[.int .u32 A.1, .int .u32 A.2], .agg #[.int .u32 B.1, .int .u32 B.2], .agg #[.int .u32 (addW A B).1, .int .u32 (addW A B).2], .int .i64 (P), .int .i64 (R), .int .i64 (P + R), .int .i64 (Q), .int .i64 (S), .int .i64 (Q + S), .agg #[.int .u32 ((wd (P + R), wd (Q + S))).1, .int .u32 ((wd (P + R), wd (Q + S))).2], .bool true, .bool true, .agg #[.int .u32 A.1, .int .u32 A.2], .agg #[.int .u32 B.1, .int .u32 B.2], .agg #[.int .u32 (subW A B).1, .int .u32 (subW A B).2], .int .i64 (P), .int .i64 (R), .int .i64 (P - R), .int .i64 (Q), .int .i64 (S), .int .i64 (Q - S), .agg #[.int .u32 ((wd (P - R), wd (Q - S))).1, .int .u32 ((wd (P - R), wd (Q - S))).2], .bool true, .bool true, .bool true, .agg #[.int .u32 A.1, .int .u32 A.2], .agg #[.int .u32 B.1, .int .u32 B.2], .agg #[.int .u32 (mulW A B).1, .int .u32 (mulW A B).2], .int .i64 (P), .int .i64 (R), .int .i64 (PR), .int .i64 (Q), .int .i64 (S), .int .i64 (QS), .int .i64 (PR - QS), .int .i64 (P), .int .i64 (S), .int .i64 (PS), .int .i64 (Q), .int .i64 (R), .int .i64 (QR), .int .i64 (PS + QR), .agg #[.int .u32 ((wd (PR - QS), wd (PS + QR))).1, .int .u32 ((wd (PR - QS), wd (PS + QR))).2], .bool true, .bool true, .bool true, .agg #[.int .u32 A.1, .int .u32 A.2], .agg #[.int .u32 B.1, .int .u32 B.2], .agg #[.int .u32 (addW A B).1, .int .u32 (addW A B).2], .agg #[.int .u32 C.1, .int .u32 C.2], .agg #[.int .u32 (addW (addW A B) C).1, .int .u32 (addW (addW A B) C).2], .agg #[.int .u32 A.1, .int .u32 A.2], .agg #[.int .u32 B.1, .int .u32 B.2], .agg #[.int .u32 C.1, .int .u32 C.2], .agg #[.int .u32 (addW B C).1, .int .u32 (addW B C).2], .agg #[.int .u32 (addW A (addW B C)).1, .int .u32 (addW A (addW B C)).2], .bool true, .bool true, .bool true, .agg #[.int .u32 A.1, .int .u32 A.2], .agg #[.int .u32 B.1, .int .u32 B.2], .agg #[.int .u32 C.1, .int .u32 C.2], .agg #[.int .u32 (addW B C).1, .int .u32 (addW B C).2], .agg #[.int .u32 (mulW A (addW B C)).1, .int .u32 (mulW A (addW B C)).2], .agg #[.int .u32 A.1, .int .u32 A.2], .agg #[.int .u32 B.1, .int .u32 B.2], .agg #[.int .u32 (mulW A B).1, .int .u32 (mulW A B).2], .agg #[.int .u32 A.1, .int .u32 A.2], .agg #[.int .u32 C.1, .int .u32 C.2], .agg #[.int .u32 (mulW A C).1, .int .u32 (mulW A C).2], .agg #[.int .u32 (addW (mulW A B) (mulW A C)).1, .int .u32 (addW (mulW A B) (mulW A C)).2], .bool true, .bool true, .bool true, .float .f32 (canon M.2), .bool true, .bool true, .bool true, .agg #[.int .u32 M.1, .int .u32 M.2], .int .i64 (P), .int .i64 (P), .int .i64 (PP), .int .i64 (Q), .int .i64 (Q), .int .i64 (QQ), .int .i64 (PP + QQ), .agg #[.int .u32 ((wd (PP + QQ), wd 0)).1, .int .u32 ((wd (PP + QQ), wd 0)).2], .bool true, .bool true, .bool true, .agg #[.int .u32 A.1, .int .u32 A.2], .agg #[.int .u32 T.1, .int .u32 T.2], .agg #[.int .u32 (mulW A T).1, .int .u32 (mulW A T).2], .agg #[.int .u32 T.1, .int .u32 T.2], .agg #[.int .u32 (divW (mulW A T) T).1, .int .u32 (divW (mulW A T) T).2], .agg #[.int .u32 A.1, .int .u32 A.2], .bool true, .bool true, .bool true, .bool true, .bool true, .bool true].getD j undef
def frQ (v : Nat → Value) (ga gb gc gt gm : Nat) (P Q R S : Int) (f : Value) (U : Nat → Value) : Act := { tmps := #[v 0, v 1, v 2, v 3, v 4, v 5, v 6, v 7, U 101, .pointer (some ⟨ga, 0, none⟩), .pointer (some ⟨gb, 0, none⟩), .pointer (some ⟨gc, 0, none⟩), .int .i64 P, .int .i64 Q, .int .i64 R, .int .i64 S, .pointer (some ⟨gt, 0, none⟩), .pointer (some ⟨gm, 0, none⟩), v 18, f, v 20, v 21, v 22, v 23, v 24, v 25, v 26, v 27, v 28, v 29, v 30, v 31, v 32, v 33, v 34, v 35, v 36, v 37, v 38, v 39, v 40, v 41, v 42, v 43, v 44, v 45, v 46, v 47, v 48, v 49, v 50, v 51, v 52, v 53, v 54, v 55, v 56, v 57, v 58, v 59, v 60, v 61, v 62, v 63, v 64, v 65, U 0, U 1, U 2, U 3, U 4, U 5, U 6, U 7, U 8, U 9, U 10, U 11, U 12, U 13, U 14, U 15, U 16, U 17, U 18, U 19, U 20, U 21, U 22, U 23, U 24, U 25, U 26, U 27, U 28, U 29, U 30, U 31, U 32, U 33, U 34, U 35, U 36, U 37, U 38, U 39, U 40, U 41, U 42, U 43, U 44, U 45, U 46, U 47, U 48, U 49, U 50, U 51, U 52, U 53, U 54, U 55, U 56, U 57, U 58, U 59, U 60, U 61, U 62, U 63, U 64, U 65, U 66, U 67, U 68, U 69, U 70, U 71, U 72, U 73, U 74, U 75, U 76, U 77, U 78, U 79, U 80, U 81, U 82, U 83, U 84, U 85, U 86, U 87, U 88, U 89, U 90, U 91, U 92, U 93, U 94, U 95, U 96, U 97, U 98, U 99, U 100], defers := [] }

/-- What has come up of the last statement's region: each operation leaves the value that its place asks. -/
structure Rq (V : Nat → Value) (w0 : World) (ga gb gc gt gm : Nat) (A B C T M : Nat × Nat) (l : Array Bool) (U : Nat → Value) (w : World) : Prop where
  size : l.size = 102
  fv : Fv w0 w ga gb gc gt A B C T
  m : Has w gm M
  val : ∀ j, l.getD j false = true → U j = V j
theorem Rq.go {V : Nat → Value} {w0 w w' : World} {ga gb gc gt gm : Nat} {A B C T M : Nat × Nat} {l : Array Bool} {U : Nat → Value} (h : Rq V w0 ga gb gc gt gm A B C T M l U w) {i : Nat} {x : Value} (hl : l.getD i true = false) (hv : x = V i) (hb : Below w.heap.size w w') : Rq V w0 ga gb gc gt gm A B C T M (l.setIfInBounds i true) (upd U i x) w' := by
  have _ := hl
  refine ⟨by simp [h.size], h.fv.step hb, h.m.step hb, fun j hj => ?_⟩
  by_cases e : j = i
  · subst e; rw [upd_same]; exact hv
  · rw [upd_other _ _ _ _ e]; exact h.val j (getD_old hj e)
theorem Rq.start {V : Nat → Value} {w0 w : World} {ga gb gc gt gm : Nat} {A B C T M : Nat × Nat} {P Q R S : Int} {f : Value} {s : Act} (h : s = frQ (fun j => s.tmps.getD j undef) ga gb gc gt gm P Q R S f (upd (fun _ => undef) 101 (.bool false))) (hf : Fv w0 w ga gb gc gt A B C T) (hm : Has w gm M) :
    ∃ v U, s = frQ v ga gb gc gt gm P Q R S f U ∧ Rq V w0 ga gb gc gt gm A B C T M (Array.replicate 102 false) U w := by
  refine ⟨_, _, h, by simp, hf, hm, fun j hj => ?_⟩
  have h0 : (Array.replicate 102 false).getD j false = false := by
    by_cases h : j < 102
    · simp [h]
    · simp [h]
  rw [h0] at hj
  cases hj

theorem tmod_eight (k : Int) (h : 0 ≤ k) : ∃ r : Nat, k.tmod 8 = (r : Int) ∧ r ≤ 7 := by
  have h1 := Int.tmod_nonneg 8 h
  have h2 := Int.tmod_lt_of_pos k (show (0 : Int) < 8 by omega)
  exact ⟨(k.tmod 8).toNat, by omega, by omega⟩

theorem flag {ops : Array Oper} {l : Array Bool} (hr : Region.ready .any ops l = []) (hs : l.size = ops.size) (i : Nat) (o : Oper) (ho : ops[i]? = some o) (hd : ∀ e ∈ o.after, Region.binds .any e = true → l.getD e.on false = true) : l.getD i false = true := by
  have hi : i < l.size := by rw [hs]; exact (Array.getElem?_eq_some_iff.1 ho).1
  cases h : l.getD i false
  · exfalso
    have h2 : l.getD i true = false := by simpa [hi] using h
    have : i ∈ Region.ready .any ops l := mem_ready.2 ⟨h2, o, ho, hd⟩
    rw [hr] at this
    cases this
  · rfl

set_option maxRecDepth 100000 in
set_option maxHeartbeats 16000000 in
theorem small_law (a b c : Int × Int) (k : Int) (w : World) (hk : 0 ≤ k) (ha : B16 a) (hb : B16 b) (hc : B16 c) :
    Calls Try.prog 6 #[.agg #[.int .i16 a.1, .int .i16 a.2], .agg #[.int .i16 b.1, .int .i16 b.2], .agg #[.int .i16 c.1, .int .i16 c.2], .int .u8 k] w fun e w' => e = .returned (.bool true) ∧ Below w.heap.size w w' := by
  have hA := (((At.first w).two (.int .i16 a.1) (.int .i16 a.2) 64 _ rfl).two (.int .i16 b.1) (.int .i16 b.2) 64 (w.heap.size + 1) (by simp)).two (.int .i16 c.1) (.int .i16 c.2) 64 (w.heap.size + 1 + 1) (by simp)
  obtain ⟨W0, hW0⟩ : ∃ W0, W0 = ((w.alloc (.cells #[.int .i16 a.1, .int .i16 a.2] 64)).alloc (.cells #[.int .i16 b.1, .int .i16 b.2] 64)).alloc (.cells #[.int .i16 c.1, .int .i16 c.2] 64) := ⟨_, rfl⟩
  have hZ : W0.heap.size = w.heap.size + 3 := by rw [hW0]; simp
  rw [← hW0] at hA
  have hAr : Ar W0 w.heap.size a b c := by
    obtain ⟨⟨c0, -⟩, ⟨c1, -⟩, ⟨b0, -⟩, ⟨b1, -⟩, ⟨a0, -⟩, ⟨a1, -⟩, -⟩ := hA.mem
    exact ⟨a0, a1, b0, b1, c0, c1⟩
  have HB0 := Lib.hid hA.below
  have HAR := Lib.hid hAr
  have HZ := Lib.hid hZ
  have HW := Lib.hid hW0
  have HA := Lib.hid ha
  have HB := Lib.hid hb
  have HC := Lib.hid hc
  clear hA hAr hZ hW0 ha hb hc
  go_enter Try.func6, Try.ntmps6
  go_upto_region 1 with (fail)
  rw [← HW.out]
  clear HW
  obtain ⟨p, hp⟩ : ∃ p, p = w.heap.size := ⟨_, rfl⟩
  rw [← hp] at HAR HZ ⊢
  have Hp := Lib.hid hp
  clear hp
  refine wp_region_inv (by kernel_rfl) (fun l s W => ∃ U, s = frS (.agg #[.int .i16 a.1, .int .i16 a.2]) (.agg #[.int .i16 b.1, .int .i16 b.2]) (.agg #[.int .i16 c.1, .int .i16 c.2]) k p U ∧ Ri 21 3 (vS p a b c) (xS a b c) W0 l U W) ?_ ?_ ?_
  · exact ⟨fun _ => undef, rfl, Ri.start 21 3 _ _ W0 _ rfl _ (below_drewN (Below.refl _ _) 1) _⟩
  · rintro i l s W ⟨U, rfl, hR⟩ hi
    obtain ⟨hl, o, ho, hdep⟩ := mem_ready.1 hi
    have hi27 : i < 27 := (Array.getElem?_eq_some_iff.1 ho).1
    clear hi
    have HR := Lib.hid hR
    have HL := Lib.hid hl
    have HD := Lib.hid hdep
    have harw := HAR.out.below hR.below (by have := HZ.out; omega)
    have HAW := Lib.hid harw
    clear hR hl hdep harw
    rcases (show i = 0 ∨ i = 1 ∨ i = 2 ∨ i = 3 ∨ i = 4 ∨ i = 5 ∨ i = 6 ∨ i = 7 ∨ i = 8 ∨ i = 9 ∨ i = 10 ∨ i = 11 ∨ i = 12 ∨ i = 13 ∨ i = 14 ∨ i = 15 ∨ i = 16 ∨ i = 17 ∨ i = 18 ∨ i = 19 ∨ i = 20 ∨ i = 21 ∨ i = 22 ∨ i = 23 ∨ i = 24 ∨ i = 25 ∨ i = 26 by omega) with rfl | rfl | rfl | rfl | rfl | rfl | rfl | rfl | rfl | rfl | rfl | rfl | rfl | rfl | rfl | rfl | rfl | rfl | rfl | rfl | rfl | rfl | rfl | rfl | rfl | rfl | rfl
    · have ho2 := ho
      simp only [List.getElem?_toArray, List.getElem?_cons_zero, Option.some.injEq] at ho2
      subst ho2
      refine wpOp_step ho (fun K hK => ?_)
      have HK := Lib.hid hK
      clear hK ho
      unfold frS
      go_simp
      exact HK.out _ _ ⟨upd U 0 (vS p a b c 0), rfl, HR.out.value (by omega) HL.out (Below.refl _ _)⟩
    · have ho2 := ho
      simp only [List.getElem?_toArray, List.getElem?_cons_succ, List.getElem?_cons_zero, Option.some.injEq] at ho2
      subst ho2
      refine wpOp_step ho (fun K hK => ?_)
      have HK := Lib.hid hK
      clear hK ho
      have e0 : U 0 = vS p a b c 0 := HR.out.val 0 (by omega) (HD.out { on := 0, ground := .data } (by simp) rfl)
      have e1 : U 0 = .pointer (some ⟨p, 0, none⟩) := e0
      have hcell := HAW.out.x0
      clear e0
      unfold frS
      go_simp
      refine HK.out _ _ ⟨upd U 1 (vS p a b c 1), ?_, HR.out.value (by omega) HL.out (Below.refl _ _)⟩
      unfold frS
      rw [upd_other U 1 0 _ (by decide), e1]
      rfl
    · have ho2 := ho
      simp only [List.getElem?_toArray, List.getElem?_cons_succ, List.getElem?_cons_zero, Option.some.injEq] at ho2
      subst ho2
      refine wpOp_step ho (fun K hK => ?_)
      have HK := Lib.hid hK
      clear hK ho
      have e0 : U 1 = vS p a b c 1 := HR.out.val 1 (by omega) (HD.out { on := 1, ground := .data } (by simp) rfl)
      have e1 : U 1 = .int .i16 a.1 := e0
      have HE := Lib.hid e1
      clear e0 e1
      unfold frS
      go_simp
      have hcall := small_any a.1 W HA.out.1 HA.out.2.1
      rw [← HE.out] at hcall
      refine hcall.mono ?_
      rintro e w' ⟨rfl, rfl⟩
      exact HK.out _ _ ⟨upd U 2 (vS p a b c 2), rfl, HR.out.value (by omega) HL.out (Below.refl _ _)⟩
    · have ho2 := ho
      simp only [List.getElem?_toArray, List.getElem?_cons_succ, List.getElem?_cons_zero, Option.some.injEq] at ho2
      subst ho2
      refine wpOp_step ho (fun K hK => ?_)
      have HK := Lib.hid hK
      clear hK ho
      unfold frS
      go_simp
      exact HK.out _ _ ⟨upd U 3 (vS p a b c 3), rfl, HR.out.value (by omega) HL.out (Below.refl _ _)⟩
    · have ho2 := ho
      simp only [List.getElem?_toArray, List.getElem?_cons_succ, List.getElem?_cons_zero, Option.some.injEq] at ho2
      subst ho2
      refine wpOp_step ho (fun K hK => ?_)
      have HK := Lib.hid hK
      clear hK ho
      have e0 : U 3 = vS p a b c 3 := HR.out.val 3 (by omega) (HD.out { on := 3, ground := .data } (by simp) rfl)
      have e1 : U 3 = .pointer (some ⟨p, 1, none⟩) := e0
      have hcell := HAW.out.x1
      clear e0
      unfold frS
      go_simp
      refine HK.out _ _ ⟨upd U 4 (vS p a b c 4), ?_, HR.out.value (by omega) HL.out (Below.refl _ _)⟩
      unfold frS
      rw [upd_other U 4 3 _ (by decide), e1]
      rfl
    · have ho2 := ho
      simp only [List.getElem?_toArray, List.getElem?_cons_succ, List.getElem?_cons_zero, Option.some.injEq] at ho2
      subst ho2
      refine wpOp_step ho (fun K hK => ?_)
      have HK := Lib.hid hK
      clear hK ho
      have e0 : U 4 = vS p a b c 4 := HR.out.val 4 (by omega) (HD.out { on := 4, ground := .data } (by simp) rfl)
      have e1 : U 4 = .int .i16 a.2 := e0
      have HE := Lib.hid e1
      clear e0 e1
      unfold frS
      go_simp
      have hcall := small_any a.2 W HA.out.2.2.1 HA.out.2.2.2
      rw [← HE.out] at hcall
      refine hcall.mono ?_
      rintro e w' ⟨rfl, rfl⟩
      exact HK.out _ _ ⟨upd U 5 (vS p a b c 5), rfl, HR.out.value (by omega) HL.out (Below.refl _ _)⟩
    · have ho2 := ho
      simp only [List.getElem?_toArray, List.getElem?_cons_succ, List.getElem?_cons_zero, Option.some.injEq] at ho2
      subst ho2
      refine wpOp_step ho (fun K hK => ?_)
      have HK := Lib.hid hK
      clear hK ho
      have e0 : U 2 = vS p a b c 2 := HR.out.val 2 (by omega) (HD.out { on := 2, ground := .data } (by simp) rfl)
      have e1 : U 5 = vS p a b c 5 := HR.out.val 5 (by omega) (HD.out { on := 5, ground := .data } (by simp) rfl)
      have e2 : U 2 = .int .i64 (a.1.tmod 1001) := e0
      have e3 : U 5 = .int .i64 (a.2.tmod 1001) := e1
      have HE := Lib.hid (And.intro e2 e3)
      clear e0 e1 e2 e3
      unfold frS
      go_simp
      have hcall := of_int (a.1.tmod 1001) (a.2.tmod 1001) W
      rw [← HE.out.1, ← HE.out.2] at hcall
      refine hcall.mono ?_
      rintro e w' ⟨rfl, hb'⟩
      exact HK.out _ _ ⟨upd U 6 (vS p a b c 6), rfl, HR.out.value (by omega) HL.out hb'⟩
    · have ho2 := ho
      simp only [List.getElem?_toArray, List.getElem?_cons_succ, List.getElem?_cons_zero, Option.some.injEq] at ho2
      subst ho2
      refine wpOp_step ho (fun K hK => ?_)
      have HK := Lib.hid hK
      clear hK ho
      unfold frS
      go_simp
      exact HK.out _ _ ⟨upd U 7 (vS p a b c 7), rfl, HR.out.value (by omega) HL.out (Below.refl _ _)⟩
    · have ho2 := ho
      simp only [List.getElem?_toArray, List.getElem?_cons_succ, List.getElem?_cons_zero, Option.some.injEq] at ho2
      subst ho2
      refine wpOp_step ho (fun K hK => ?_)
      have HK := Lib.hid hK
      clear hK ho
      have e0 : U 7 = vS p a b c 7 := HR.out.val 7 (by omega) (HD.out { on := 7, ground := .data } (by simp) rfl)
      have e1 : U 7 = .pointer (some ⟨p + 1, 0, none⟩) := e0
      have hcell := HAW.out.y0
      clear e0
      unfold frS
      go_simp
      refine HK.out _ _ ⟨upd U 8 (vS p a b c 8), ?_, HR.out.value (by omega) HL.out (Below.refl _ _)⟩
      unfold frS
      rw [upd_other U 8 7 _ (by decide), e1]
      rfl
    · have ho2 := ho
      simp only [List.getElem?_toArray, List.getElem?_cons_succ, List.getElem?_cons_zero, Option.some.injEq] at ho2
      subst ho2
      refine wpOp_step ho (fun K hK => ?_)
      have HK := Lib.hid hK
      clear hK ho
      have e0 : U 8 = vS p a b c 8 := HR.out.val 8 (by omega) (HD.out { on := 8, ground := .data } (by simp) rfl)
      have e1 : U 8 = .int .i16 b.1 := e0
      have HE := Lib.hid e1
      clear e0 e1
      unfold frS
      go_simp
      have hcall := small_any b.1 W HB.out.1 HB.out.2.1
      rw [← HE.out] at hcall
      refine hcall.mono ?_
      rintro e w' ⟨rfl, rfl⟩
      exact HK.out _ _ ⟨upd U 9 (vS p a b c 9), rfl, HR.out.value (by omega) HL.out (Below.refl _ _)⟩
    · have ho2 := ho
      simp only [List.getElem?_toArray, List.getElem?_cons_succ, List.getElem?_cons_zero, Option.some.injEq] at ho2
      subst ho2
      refine wpOp_step ho (fun K hK => ?_)
      have HK := Lib.hid hK
      clear hK ho
      unfold frS
      go_simp
      exact HK.out _ _ ⟨upd U 10 (vS p a b c 10), rfl, HR.out.value (by omega) HL.out (Below.refl _ _)⟩
    · have ho2 := ho
      simp only [List.getElem?_toArray, List.getElem?_cons_succ, List.getElem?_cons_zero, Option.some.injEq] at ho2
      subst ho2
      refine wpOp_step ho (fun K hK => ?_)
      have HK := Lib.hid hK
      clear hK ho
      have e0 : U 10 = vS p a b c 10 := HR.out.val 10 (by omega) (HD.out { on := 10, ground := .data } (by simp) rfl)
      have e1 : U 10 = .pointer (some ⟨p + 1, 1, none⟩) := e0
      have hcell := HAW.out.y1
      clear e0
      unfold frS
      go_simp
      refine HK.out _ _ ⟨upd U 11 (vS p a b c 11), ?_, HR.out.value (by omega) HL.out (Below.refl _ _)⟩
      unfold frS
      rw [upd_other U 11 10 _ (by decide), e1]
      rfl
    · have ho2 := ho
      simp only [List.getElem?_toArray, List.getElem?_cons_succ, List.getElem?_cons_zero, Option.some.injEq] at ho2
      subst ho2
      refine wpOp_step ho (fun K hK => ?_)
      have HK := Lib.hid hK
      clear hK ho
      have e0 : U 11 = vS p a b c 11 := HR.out.val 11 (by omega) (HD.out { on := 11, ground := .data } (by simp) rfl)
      have e1 : U 11 = .int .i16 b.2 := e0
      have HE := Lib.hid e1
      clear e0 e1
      unfold frS
      go_simp
      have hcall := small_any b.2 W HB.out.2.2.1 HB.out.2.2.2
      rw [← HE.out] at hcall
      refine hcall.mono ?_
      rintro e w' ⟨rfl, rfl⟩
      exact HK.out _ _ ⟨upd U 12 (vS p a b c 12), rfl, HR.out.value (by omega) HL.out (Below.refl _ _)⟩
    · have ho2 := ho
      simp only [List.getElem?_toArray, List.getElem?_cons_succ, List.getElem?_cons_zero, Option.some.injEq] at ho2
      subst ho2
      refine wpOp_step ho (fun K hK => ?_)
      have HK := Lib.hid hK
      clear hK ho
      have e0 : U 9 = vS p a b c 9 := HR.out.val 9 (by omega) (HD.out { on := 9, ground := .data } (by simp) rfl)
      have e1 : U 12 = vS p a b c 12 := HR.out.val 12 (by omega) (HD.out { on := 12, ground := .data } (by simp) rfl)
      have e2 : U 9 = .int .i64 (b.1.tmod 1001) := e0
      have e3 : U 12 = .int .i64 (b.2.tmod 1001) := e1
      have HE := Lib.hid (And.intro e2 e3)
      clear e0 e1 e2 e3
      unfold frS
      go_simp
      have hcall := of_int (b.1.tmod 1001) (b.2.tmod 1001) W
      rw [← HE.out.1, ← HE.out.2] at hcall
      refine hcall.mono ?_
      rintro e w' ⟨rfl, hb'⟩
      exact HK.out _ _ ⟨upd U 13 (vS p a b c 13), rfl, HR.out.value (by omega) HL.out hb'⟩
    · have ho2 := ho
      simp only [List.getElem?_toArray, List.getElem?_cons_succ, List.getElem?_cons_zero, Option.some.injEq] at ho2
      subst ho2
      refine wpOp_step ho (fun K hK => ?_)
      have HK := Lib.hid hK
      clear hK ho
      unfold frS
      go_simp
      exact HK.out _ _ ⟨upd U 14 (vS p a b c 14), rfl, HR.out.value (by omega) HL.out (Below.refl _ _)⟩
    · have ho2 := ho
      simp only [List.getElem?_toArray, List.getElem?_cons_succ, List.getElem?_cons_zero, Option.some.injEq] at ho2
      subst ho2
      refine wpOp_step ho (fun K hK => ?_)
      have HK := Lib.hid hK
      clear hK ho
      have e0 : U 14 = vS p a b c 14 := HR.out.val 14 (by omega) (HD.out { on := 14, ground := .data } (by simp) rfl)
      have e1 : U 14 = .pointer (some ⟨p + 1 + 1, 0, none⟩) := e0
      have hcell := HAW.out.z0
      clear e0
      unfold frS
      go_simp
      refine HK.out _ _ ⟨upd U 15 (vS p a b c 15), ?_, HR.out.value (by omega) HL.out (Below.refl _ _)⟩
      unfold frS
      rw [upd_other U 15 14 _ (by decide), e1]
      rfl
    · have ho2 := ho
      simp only [List.getElem?_toArray, List.getElem?_cons_succ, List.getElem?_cons_zero, Option.some.injEq] at ho2
      subst ho2
      refine wpOp_step ho (fun K hK => ?_)
      have HK := Lib.hid hK
      clear hK ho
      have e0 : U 15 = vS p a b c 15 := HR.out.val 15 (by omega) (HD.out { on := 15, ground := .data } (by simp) rfl)
      have e1 : U 15 = .int .i16 c.1 := e0
      have HE := Lib.hid e1
      clear e0 e1
      unfold frS
      go_simp
      have hcall := small_any c.1 W HC.out.1 HC.out.2.1
      rw [← HE.out] at hcall
      refine hcall.mono ?_
      rintro e w' ⟨rfl, rfl⟩
      exact HK.out _ _ ⟨upd U 16 (vS p a b c 16), rfl, HR.out.value (by omega) HL.out (Below.refl _ _)⟩
    · have ho2 := ho
      simp only [List.getElem?_toArray, List.getElem?_cons_succ, List.getElem?_cons_zero, Option.some.injEq] at ho2
      subst ho2
      refine wpOp_step ho (fun K hK => ?_)
      have HK := Lib.hid hK
      clear hK ho
      unfold frS
      go_simp
      exact HK.out _ _ ⟨upd U 17 (vS p a b c 17), rfl, HR.out.value (by omega) HL.out (Below.refl _ _)⟩
    · have ho2 := ho
      simp only [List.getElem?_toArray, List.getElem?_cons_succ, List.getElem?_cons_zero, Option.some.injEq] at ho2
      subst ho2
      refine wpOp_step ho (fun K hK => ?_)
      have HK := Lib.hid hK
      clear hK ho
      have e0 : U 17 = vS p a b c 17 := HR.out.val 17 (by omega) (HD.out { on := 17, ground := .data } (by simp) rfl)
      have e1 : U 17 = .pointer (some ⟨p + 1 + 1, 1, none⟩) := e0
      have hcell := HAW.out.z1
      clear e0
      unfold frS
      go_simp
      refine HK.out _ _ ⟨upd U 18 (vS p a b c 18), ?_, HR.out.value (by omega) HL.out (Below.refl _ _)⟩
      unfold frS
      rw [upd_other U 18 17 _ (by decide), e1]
      rfl
    · have ho2 := ho
      simp only [List.getElem?_toArray, List.getElem?_cons_succ, List.getElem?_cons_zero, Option.some.injEq] at ho2
      subst ho2
      refine wpOp_step ho (fun K hK => ?_)
      have HK := Lib.hid hK
      clear hK ho
      have e0 : U 18 = vS p a b c 18 := HR.out.val 18 (by omega) (HD.out { on := 18, ground := .data } (by simp) rfl)
      have e1 : U 18 = .int .i16 c.2 := e0
      have HE := Lib.hid e1
      clear e0 e1
      unfold frS
      go_simp
      have hcall := small_any c.2 W HC.out.2.2.1 HC.out.2.2.2
      rw [← HE.out] at hcall
      refine hcall.mono ?_
      rintro e w' ⟨rfl, rfl⟩
      exact HK.out _ _ ⟨upd U 19 (vS p a b c 19), rfl, HR.out.value (by omega) HL.out (Below.refl _ _)⟩
    · have ho2 := ho
      simp only [List.getElem?_toArray, List.getElem?_cons_succ, List.getElem?_cons_zero, Option.some.injEq] at ho2
      subst ho2
      refine wpOp_step ho (fun K hK => ?_)
      have HK := Lib.hid hK
      clear hK ho
      have e0 : U 16 = vS p a b c 16 := HR.out.val 16 (by omega) (HD.out { on := 16, ground := .data } (by simp) rfl)
      have e1 : U 19 = vS p a b c 19 := HR.out.val 19 (by omega) (HD.out { on := 19, ground := .data } (by simp) rfl)
      have e2 : U 16 = .int .i64 (c.1.tmod 1001) := e0
      have e3 : U 19 = .int .i64 (c.2.tmod 1001) := e1
      have HE := Lib.hid (And.intro e2 e3)
      clear e0 e1 e2 e3
      unfold frS
      go_simp
      have hcall := of_int (c.1.tmod 1001) (c.2.tmod 1001) W
      rw [← HE.out.1, ← HE.out.2] at hcall
      refine hcall.mono ?_
      rintro e w' ⟨rfl, hb'⟩
      exact HK.out _ _ ⟨upd U 20 (vS p a b c 20), rfl, HR.out.value (by omega) HL.out hb'⟩
    · have ho2 := ho
      simp only [List.getElem?_toArray, List.getElem?_cons_succ, List.getElem?_cons_zero, Option.some.injEq] at ho2
      subst ho2
      refine wpOp_step ho (fun K hK => ?_)
      have HK := Lib.hid hK
      clear hK ho
      unfold frS
      go_simp
      exact HK.out _ _ ⟨upd U 21 (.pointer (some ⟨W.heap.size, 0, none⟩)), rfl, HR.out.alloc (by omega) (by omega) HL.out _⟩
    · have ho2 := ho
      simp only [List.getElem?_toArray, List.getElem?_cons_succ, List.getElem?_cons_zero, Option.some.injEq] at ho2
      subst ho2
      refine wpOp_step ho (fun K hK => ?_)
      have HK := Lib.hid hK
      clear hK ho
      unfold frS
      go_simp
      exact HK.out _ _ ⟨upd U 22 (.pointer (some ⟨W.heap.size, 0, none⟩)), rfl, HR.out.alloc (by omega) (by omega) HL.out _⟩
    · have ho2 := ho
      simp only [List.getElem?_toArray, List.getElem?_cons_succ, List.getElem?_cons_zero, Option.some.injEq] at ho2
      subst ho2
      refine wpOp_step ho (fun K hK => ?_)
      have HK := Lib.hid hK
      clear hK ho
      unfold frS
      go_simp
      exact HK.out _ _ ⟨upd U 23 (.pointer (some ⟨W.heap.size, 0, none⟩)), rfl, HR.out.alloc (by omega) (by omega) HL.out _⟩
    · have ho2 := ho
      simp only [List.getElem?_toArray, List.getElem?_cons_succ, List.getElem?_cons_zero, Option.some.injEq] at ho2
      subst ho2
      refine wpOp_step ho (fun K hK => ?_)
      have HK := Lib.hid hK
      clear hK ho
      have f1 := HD.out { on := 21, ground := .data } (by simp) rfl
      have e0 : U 6 = vS p a b c 6 := HR.out.val 6 (by omega) (HD.out { on := 6, ground := .data } (by simp) rfl)
      have e1 : U 6 = .agg #[.int .u32 (smallN a).1, .int .u32 (smallN a).2] := e0
      obtain ⟨g, e2, hg, ⟨q0, q1, h0, h1, z0, z1⟩, -⟩ := HR.out.mem 21 (by omega) (by omega) f1
      have HE := Lib.hid e2
      have HF := Lib.hid f1
      have HG := Lib.hid e1
      clear f1 e0 hg
      unfold frS
      go_simp
      refine HK.out _ _ ⟨U, ?_, HR.out.store (i := 21) (by omega) (by omega) HF.out HE.out⟩
      unfold frS
      rw [HE.out, HG.out]
    · have ho2 := ho
      simp only [List.getElem?_toArray, List.getElem?_cons_succ, List.getElem?_cons_zero, Option.some.injEq] at ho2
      subst ho2
      refine wpOp_step ho (fun K hK => ?_)
      have HK := Lib.hid hK
      clear hK ho
      have f1 := HD.out { on := 22, ground := .data } (by simp) rfl
      have e0 : U 13 = vS p a b c 13 := HR.out.val 13 (by omega) (HD.out { on := 13, ground := .data } (by simp) rfl)
      have e1 : U 13 = .agg #[.int .u32 (smallN b).1, .int .u32 (smallN b).2] := e0
      obtain ⟨g, e2, hg, ⟨q0, q1, h0, h1, z0, z1⟩, -⟩ := HR.out.mem 22 (by omega) (by omega) f1
      have HE := Lib.hid e2
      have HF := Lib.hid f1
      have HG := Lib.hid e1
      clear f1 e0 hg
      unfold frS
      go_simp
      refine HK.out _ _ ⟨U, ?_, HR.out.store (i := 22) (by omega) (by omega) HF.out HE.out⟩
      unfold frS
      rw [HE.out, HG.out]
    · have ho2 := ho
      simp only [List.getElem?_toArray, List.getElem?_cons_succ, List.getElem?_cons_zero, Option.some.injEq] at ho2
      subst ho2
      refine wpOp_step ho (fun K hK => ?_)
      have HK := Lib.hid hK
      clear hK ho
      have f1 := HD.out { on := 23, ground := .data } (by simp) rfl
      have e0 : U 20 = vS p a b c 20 := HR.out.val 20 (by omega) (HD.out { on := 20, ground := .data } (by simp) rfl)
      have e1 : U 20 = .agg #[.int .u32 (smallN c).1, .int .u32 (smallN c).2] := e0
      obtain ⟨g, e2, hg, ⟨q0, q1, h0, h1, z0, z1⟩, -⟩ := HR.out.mem 23 (by omega) (by omega) f1
      have HE := Lib.hid e2
      have HF := Lib.hid f1
      have HG := Lib.hid e1
      clear f1 e0 hg
      unfold frS
      go_simp
      refine HK.out _ _ ⟨U, ?_, HR.out.store (i := 23) (by omega) (by omega) HF.out HE.out⟩
      unfold frS
      rw [HE.out, HG.out]
  · rintro l s W ⟨U, rfl, hR⟩ hr
    have hs := hR.size
    have f0 := flag hr hs 0 _ rfl (by intro e he hbd; simp at he; try (exact he.elim))
    have f1 := flag hr hs 1 _ rfl (by intro e he hbd; simp at he; first | exact he.elim | (subst he; assumption) | (rcases he with rfl | rfl <;> assumption) | (rcases he with rfl | rfl | rfl <;> assumption))
    have f2 := flag hr hs 2 _ rfl (by intro e he hbd; simp at he; first | exact he.elim | (subst he; assumption) | (rcases he with rfl | rfl <;> assumption) | (rcases he with rfl | rfl | rfl <;> assumption))
    have f3 := flag hr hs 3 _ rfl (by intro e he hbd; simp at he; try (exact he.elim))
    have f4 := flag hr hs 4 _ rfl (by intro e he hbd; simp at he; first | exact he.elim | (subst he; assumption) | (rcases he with rfl | rfl <;> assumption) | (rcases he with rfl | rfl | rfl <;> assumption))
    have f5 := flag hr hs 5 _ rfl (by intro e he hbd; simp at he; first | exact he.elim | (subst he; assumption) | (rcases he with rfl | rfl <;> assumption) | (rcases he with rfl | rfl | rfl <;> assumption))
    have f6 := flag hr hs 6 _ rfl (by intro e he hbd; simp at he; first | exact he.elim | (subst he; assumption) | (rcases he with rfl | rfl <;> assumption) | (rcases he with rfl | rfl | rfl <;> assumption))
    have f7 := flag hr hs 7 _ rfl (by intro e he hbd; simp at he; try (exact he.elim))
    have f8 := flag hr hs 8 _ rfl (by intro e he hbd; simp at he; first | exact he.elim | (subst he; assumption) | (rcases he with rfl | rfl <;> assumption) | (rcases he with rfl | rfl | rfl <;> assumption))
    have f9 := flag hr hs 9 _ rfl (by intro e he hbd; simp at he; first | exact he.elim | (subst he; assumption) | (rcases he with rfl | rfl <;> assumption) | (rcases he with rfl | rfl | rfl <;> assumption))
    have f10 := flag hr hs 10 _ rfl (by intro e he hbd; simp at he; try (exact he.elim))
    have f11 := flag hr hs 11 _ rfl (by intro e he hbd; simp at he; first | exact he.elim | (subst he; assumption) | (rcases he with rfl | rfl <;> assumption) | (rcases he with rfl | rfl | rfl <;> assumption))
    have f12 := flag hr hs 12 _ rfl (by intro e he hbd; simp at he; first | exact he.elim | (subst he; assumption) | (rcases he with rfl | rfl <;> assumption) | (rcases he with rfl | rfl | rfl <;> assumption))
    have f13 := flag hr hs 13 _ rfl (by intro e he hbd; simp at he; first | exact he.elim | (subst he; assumption) | (rcases he with rfl | rfl <;> assumption) | (rcases he with rfl | rfl | rfl <;> assumption))
    have f14 := flag hr hs 14 _ rfl (by intro e he hbd; simp at he; try (exact he.elim))
    have f15 := flag hr hs 15 _ rfl (by intro e he hbd; simp at he; first | exact he.elim | (subst he; assumption) | (rcases he with rfl | rfl <;> assumption) | (rcases he with rfl | rfl | rfl <;> assumption))
    have f16 := flag hr hs 16 _ rfl (by intro e he hbd; simp at he; first | exact he.elim | (subst he; assumption) | (rcases he with rfl | rfl <;> assumption) | (rcases he with rfl | rfl | rfl <;> assumption))
    have f17 := flag hr hs 17 _ rfl (by intro e he hbd; simp at he; try (exact he.elim))
    have f18 := flag hr hs 18 _ rfl (by intro e he hbd; simp at he; first | exact he.elim | (subst he; assumption) | (rcases he with rfl | rfl <;> assumption) | (rcases he with rfl | rfl | rfl <;> assumption))
    have f19 := flag hr hs 19 _ rfl (by intro e he hbd; simp at he; first | exact he.elim | (subst he; assumption) | (rcases he with rfl | rfl <;> assumption) | (rcases he with rfl | rfl | rfl <;> assumption))
    have f20 := flag hr hs 20 _ rfl (by intro e he hbd; simp at he; first | exact he.elim | (subst he; assumption) | (rcases he with rfl | rfl <;> assumption) | (rcases he with rfl | rfl | rfl <;> assumption))
    have f21 := flag hr hs 21 _ rfl (by intro e he hbd; simp at he; try (exact he.elim))
    have f22 := flag hr hs 22 _ rfl (by intro e he hbd; simp at he; try (exact he.elim))
    have f23 := flag hr hs 23 _ rfl (by intro e he hbd; simp at he; try (exact he.elim))
    have f24 := flag hr hs 24 _ rfl (by intro e he hbd; simp at he; rcases he with rfl | rfl | rfl | rfl | rfl | rfl | rfl | rfl | rfl | rfl | rfl | rfl | rfl | rfl | rfl | rfl | rfl | rfl | rfl | rfl | rfl | rfl | rfl | rfl | rfl | rfl | rfl | rfl | rfl | rfl | rfl | rfl | rfl | rfl | rfl | rfl | rfl | rfl | rfl | rfl <;> first | assumption | (exact absurd hbd (by decide)))
    have f25 := flag hr hs 25 _ rfl (by intro e he hbd; simp at he; rcases he with rfl | rfl | rfl | rfl | rfl | rfl | rfl | rfl | rfl | rfl | rfl | rfl | rfl | rfl | rfl | rfl | rfl | rfl | rfl | rfl | rfl | rfl | rfl | rfl | rfl | rfl | rfl | rfl | rfl | rfl | rfl | rfl | rfl | rfl | rfl | rfl | rfl | rfl | rfl | rfl <;> first | assumption | (exact absurd hbd (by decide)))
    have f26 := flag hr hs 26 _ rfl (by intro e he hbd; simp at he; rcases he with rfl | rfl | rfl | rfl | rfl | rfl | rfl | rfl | rfl | rfl | rfl | rfl | rfl | rfl | rfl | rfl | rfl | rfl | rfl | rfl | rfl | rfl | rfl | rfl | rfl | rfl | rfl | rfl | rfl | rfl | rfl | rfl | rfl | rfl | rfl | rfl | rfl | rfl | rfl | rfl <;> first | assumption | (exact absurd hbd (by decide)))
    have u0 : U 0 = .pointer (some ⟨p, 0, none⟩) := hR.val 0 (by omega) f0
    have u1 : U 1 = .int .i16 a.1 := hR.val 1 (by omega) f1
    have u2 : U 2 = .int .i64 (a.1.tmod 1001) := hR.val 2 (by omega) f2
    have u3 : U 3 = .pointer (some ⟨p, 1, none⟩) := hR.val 3 (by omega) f3
    have u4 : U 4 = .int .i16 a.2 := hR.val 4 (by omega) f4
    have u5 : U 5 = .int .i64 (a.2.tmod 1001) := hR.val 5 (by omega) f5
    have u6 : U 6 = .agg #[.int .u32 (smallN a).1, .int .u32 (smallN a).2] := hR.val 6 (by omega) f6
    have u7 : U 7 = .pointer (some ⟨p + 1, 0, none⟩) := hR.val 7 (by omega) f7
    have u8 : U 8 = .int .i16 b.1 := hR.val 8 (by omega) f8
    have u9 : U 9 = .int .i64 (b.1.tmod 1001) := hR.val 9 (by omega) f9
    have u10 : U 10 = .pointer (some ⟨p + 1, 1, none⟩) := hR.val 10 (by omega) f10
    have u11 : U 11 = .int .i16 b.2 := hR.val 11 (by omega) f11
    have u12 : U 12 = .int .i64 (b.2.tmod 1001) := hR.val 12 (by omega) f12
    have u13 : U 13 = .agg #[.int .u32 (smallN b).1, .int .u32 (smallN b).2] := hR.val 13 (by omega) f13
    have u14 : U 14 = .pointer (some ⟨p + 1 + 1, 0, none⟩) := hR.val 14 (by omega) f14
    have u15 : U 15 = .int .i16 c.1 := hR.val 15 (by omega) f15
    have u16 : U 16 = .int .i64 (c.1.tmod 1001) := hR.val 16 (by omega) f16
    have u17 : U 17 = .pointer (some ⟨p + 1 + 1, 1, none⟩) := hR.val 17 (by omega) f17
    have u18 : U 18 = .int .i16 c.2 := hR.val 18 (by omega) f18
    have u19 : U 19 = .int .i64 (c.2.tmod 1001) := hR.val 19 (by omega) f19
    have u20 : U 20 = .agg #[.int .u32 (smallN c).1, .int .u32 (smallN c).2] := hR.val 20 (by omega) f20
    obtain ⟨ga, u21, la, -, ta⟩ := hR.mem 21 (by omega) (by omega) f21
    have ma : Has W ga (smallN a) := ta f24
    obtain ⟨gb, u22, lb, -, tb⟩ := hR.mem 22 (by omega) (by omega) f22
    have mb : Has W gb (smallN b) := tb f25
    obtain ⟨gc, u23, lc, -, tc⟩ := hR.mem 23 (by omega) (by omega) f23
    have mc : Has W gc (smallN c) := tc f26
    have hB := hR.below
    have HB1 := Lib.hid hB
    have HMA := Lib.hid ma
    have HMB := Lib.hid mb
    have HMC := Lib.hid mc
    unfold frS
    rw [u0, u1, u2, u3, u4, u5, u6, u7, u8, u9, u10, u11, u12, u13, u14, u15, u16, u17, u18, u19, u20, u21, u22, u23]
    clear f0 f1 f2 f3 f4 f5 f6 f7 f8 f9 f10 f11 f12 f13 f14 f15 f16 f17 f18 f19 f20 f21 f22 f23 f24 f25 f26 u0 u1 u2 u3 u4 u5 u6 u7 u8 u9 u10 u11 u12 u13 u14 u15 u16 u17 u18 u19 u20 u21 u22 u23 hR hr hs hB ma mb mc ta tb tc la lb lc
    dsimp only
    obtain ⟨x0, x1, y0, y1, -, -⟩ := HAR.out.below HB1.out (by have := HZ.out; omega)
    go_upto_region 2 with fail
    go_quiet ((first
      | (go_at_call 40; exact Calls.quiet_of_same (small_any a.1 _ HA.out.1 HA.out.2.1))
      | (go_at_call 40; exact Calls.quiet_of_same (small_any a.2 _ HA.out.2.2.1 HA.out.2.2.2))
      | (go_at_call 40; exact Calls.quiet_of_same (small_any b.1 _ HB.out.1 HB.out.2.1))
      | (go_at_call 40; exact Calls.quiet_of_same (small_any b.2 _ HB.out.2.2.1 HB.out.2.2.2))))
    clear x0 x1 y0 y1
    obtain ⟨r, hr, hr7⟩ := tmod_eight k hk
    have s1 : wrap64 ((2 : Int) ^ r) = ((2 ^ r : Nat) : Int) := by
      rcases (show r = 0 ∨ r = 1 ∨ r = 2 ∨ r = 3 ∨ r = 4 ∨ r = 5 ∨ r = 6 ∨ r = 7 by omega) with rfl | rfl | rfl | rfl | rfl | rfl | rfl | rfl <;> decide +kernel
    obtain ⟨m, hm⟩ : ∃ m : Int, m = ((2 ^ r : Nat) : Int) := ⟨_, rfl⟩
    rw [← hm] at s1
    have Hm := Lib.hid hm
    have Hr7 := Lib.hid hr7
    have S1 := Lib.hid s1
    clear hm s1
    go_upto_region 4 with (go_at_call 39
                           simp only [S1.out]
                           refine (of_int m 0 _).mono ?_
                           rintro e w1 ⟨rfl, hb1⟩
                           unfold num
                           have HB2 := Lib.hid hb1
                           have HMA := Lib.hid (HMA.out.step hb1)
                           have HMB := Lib.hid (HMB.out.step hb1)
                           have HMC := Lib.hid (HMC.out.step hb1)
                           clear hb1)
    obtain ⟨A, hA⟩ : ∃ A, A = smallN a := ⟨_, rfl⟩
    obtain ⟨B, hB⟩ : ∃ B, B = smallN b := ⟨_, rfl⟩
    obtain ⟨C, hC⟩ : ∃ C, C = smallN c := ⟨_, rfl⟩
    obtain ⟨P, hP⟩ : ∃ P, P = a.1.tmod 1001 := ⟨_, rfl⟩
    obtain ⟨Q, hQ⟩ : ∃ Q, Q = a.2.tmod 1001 := ⟨_, rfl⟩
    obtain ⟨R, hR⟩ : ∃ R, R = b.1.tmod 1001 := ⟨_, rfl⟩
    obtain ⟨S, hS⟩ : ∃ S, S = b.2.tmod 1001 := ⟨_, rfl⟩
    have hma := HMA.out
    have hmb := HMB.out
    have hmc := HMC.out
    rw [← hA] at hma
    rw [← hB] at hmb
    rw [← hC] at hmc
    rw [← hA, ← hB, ← hC, ← hP, ← hQ, ← hR, ← hS]
    have hmt : Has (w1.alloc (.cells #[.int .u32 (wd m), .int .u32 (wd 0)] 32)) w1.heap.size (wd m, wd 0) := ⟨(new_cell w1 #[.int .u32 (wd m), .int .u32 (wd 0)] 32 0 _ rfl).1, (new_cell w1 #[.int .u32 (wd m), .int .u32 (wd 0)] 32 1 _ rfl).1⟩
    have hfv : Fv W0 (w1.alloc (.cells #[.int .u32 (wd m), .int .u32 (wd 0)] 32)) ga gb gc w1.heap.size A B C (wd m, wd 0) := by
      have hb := (Below.refl _ w1).alloc (Nat.le_refl _) (.cells #[.int .u32 (wd m), .int .u32 (wd 0)] 32)
      have b0 : Below W0.heap.size W0 w1 := HB1.out.grown (grown_same (below_grown HB2.out rfl rfl rfl rfl none)) HB1.out.size (by simp)
      exact ⟨b0.alloc b0.size _, hma.step hb, hmb.step hb, hmc.step hb, hmt⟩
    obtain ⟨gt, hgt⟩ : ∃ gt, gt = w1.heap.size := ⟨_, rfl⟩
    obtain ⟨W5, hW5⟩ : ∃ W5, W5 = w1.alloc (.cells #[.int .u32 (wd m), .int .u32 (wd 0)] 32) := ⟨_, rfl⟩
    rw [← hW5, ← hgt] at hfv ⊢
    have HFV := Lib.hid hfv
    have hsa := rc_small a
    have hsb := rc_small b
    have hsc := rc_small c
    rw [← hA, ← hP, ← hQ] at hsa
    rw [← hB, ← hR, ← hS] at hsb
    rw [← hC] at hsc
    have HSE := Lib.hid (small_eq hsa hsb hsc)
    have HSA := Lib.hid hsa
    have bP := hsa.rb.b1
    have bQ := hsa.rb.b2
    have bR := hsb.rb.b1
    have bS := hsb.rb.b2
    dsimp only at bP bQ bR bS
    clear hma hmb hmc hmt hfv hW5 hgt hsa hsb hsc hA hB hC hP hQ hR hS HMA HMB HMC HB2
    obtain ⟨M, hM⟩ : ∃ M, M = mulW A (conjW A) := ⟨_, rfl⟩
    have HM := Lib.hid hM
    clear hM
    refine wp_region_inv (by kernel_rfl) (fun l s W => ∃ U, s = frT a b c A B C k r m P Q R S p ga gb gc gt U ∧ Ri 4 1 (vT A) (fun _ => mulW A (conjW A)) W5 l U W) ?_ ?_ ?_
    · exact ⟨fun _ => undef, rfl, Ri.start 4 1 _ _ W5 _ rfl _ (below_drewN (Below.refl _ _) 1) _⟩
    · rintro i l s W ⟨U, rfl, hR⟩ hi
      obtain ⟨hl, o, ho, hdep⟩ := mem_ready.1 hi
      have hi27 : i < 6 := (Array.getElem?_eq_some_iff.1 ho).1
      clear hi
      have HR := Lib.hid hR
      have HL := Lib.hid hl
      have HD := Lib.hid hdep
      have HAW := Lib.hid (HFV.out.a.step (X := W5) hR.below)
      clear hR hl hdep bP bQ bR bS
      rcases (show i = 0 ∨ i = 1 ∨ i = 2 ∨ i = 3 ∨ i = 4 ∨ i = 5 by omega) with rfl | rfl | rfl | rfl | rfl | rfl
      · have ho2 := ho
        simp only [List.getElem?_toArray, List.getElem?_cons_zero, Option.some.injEq] at ho2
        subst ho2
        refine wpOp_step ho (fun K hK => ?_)
        have HK := Lib.hid hK
        clear hK ho
        obtain ⟨k0, k1⟩ := HAW.out
        unfold frT
        go_simp
        exact HK.out _ _ ⟨upd U 0 (vT A 0), rfl, HR.out.value (by omega) HL.out (Below.refl _ _)⟩
      · have ho2 := ho
        simp only [List.getElem?_toArray, List.getElem?_cons_succ, List.getElem?_cons_zero, Option.some.injEq] at ho2
        subst ho2
        refine wpOp_step ho (fun K hK => ?_)
        have HK := Lib.hid hK
        clear hK ho
        obtain ⟨k0, k1⟩ := HAW.out
        unfold frT
        go_simp
        exact HK.out _ _ ⟨upd U 1 (vT A 1), rfl, HR.out.value (by omega) HL.out (Below.refl _ _)⟩
      · have ho2 := ho
        simp only [List.getElem?_toArray, List.getElem?_cons_succ, List.getElem?_cons_zero, Option.some.injEq] at ho2
        subst ho2
        refine wpOp_step ho (fun K hK => ?_)
        have HK := Lib.hid hK
        clear hK ho
        have e0 : U 1 = .agg #[.int .u32 A.1, .int .u32 A.2] := HR.out.val 1 (by omega) (HD.out { on := 1, ground := .data } (by simp) rfl)
        have HE := Lib.hid e0
        clear e0
        unfold frT
        go_simp
        have hcall := conj_any A.1 A.2 W
        rw [← HE.out] at hcall
        refine hcall.mono ?_
        rintro e w' ⟨rfl, hb'⟩
        exact HK.out _ _ ⟨upd U 2 (vT A 2), rfl, HR.out.value (by omega) HL.out hb'⟩
      · have ho2 := ho
        simp only [List.getElem?_toArray, List.getElem?_cons_succ, List.getElem?_cons_zero, Option.some.injEq] at ho2
        subst ho2
        refine wpOp_step ho (fun K hK => ?_)
        have HK := Lib.hid hK
        clear hK ho
        have e0 : U 0 = .agg #[.int .u32 A.1, .int .u32 A.2] := HR.out.val 0 (by omega) (HD.out { on := 0, ground := .data } (by simp) rfl)
        have e1 : U 2 = .agg #[.int .u32 (conjW A).1, .int .u32 (conjW A).2] := HR.out.val 2 (by omega) (HD.out { on := 2, ground := .data } (by simp) rfl)
        have HE := Lib.hid (And.intro e0 e1)
        clear e0 e1
        unfold frT
        go_simp
        have hcall := mul_any A.1 A.2 (conjW A).1 (conjW A).2 W
        rw [← HE.out.1, ← HE.out.2] at hcall
        refine hcall.mono ?_
        rintro e w' ⟨rfl, hb'⟩
        exact HK.out _ _ ⟨upd U 3 (vT A 3), rfl, HR.out.value (by omega) HL.out hb'⟩
      · have ho2 := ho
        simp only [List.getElem?_toArray, List.getElem?_cons_succ, List.getElem?_cons_zero, Option.some.injEq] at ho2
        subst ho2
        refine wpOp_step ho (fun K hK => ?_)
        have HK := Lib.hid hK
        clear hK ho
        unfold frT
        go_simp
        exact HK.out _ _ ⟨upd U 4 (.pointer (some ⟨W.heap.size, 0, none⟩)), rfl, HR.out.alloc (by omega) (by omega) HL.out _⟩
      · have ho2 := ho
        simp only [List.getElem?_toArray, List.getElem?_cons_succ, List.getElem?_cons_zero, Option.some.injEq] at ho2
        subst ho2
        refine wpOp_step ho (fun K hK => ?_)
        have HK := Lib.hid hK
        clear hK ho
        have f1 := HD.out { on := 4, ground := .data } (by simp) rfl
        have e0 : U 3 = .agg #[.int .u32 (mulW A (conjW A)).1, .int .u32 (mulW A (conjW A)).2] := HR.out.val 3 (by omega) (HD.out { on := 3, ground := .data } (by simp) rfl)
        obtain ⟨g, e2, hg, ⟨q0, q1, h0, h1, z0, z1⟩, -⟩ := HR.out.mem 4 (by omega) (by omega) f1
        have HE := Lib.hid e2
        have HF := Lib.hid f1
        have HG := Lib.hid e0
        clear f1 hg
        unfold frT
        go_simp
        refine HK.out _ _ ⟨U, ?_, HR.out.store (i := 4) (by omega) (by omega) HF.out HE.out⟩
        unfold frT
        rw [HE.out, HG.out]
    · rintro l s W ⟨U, rfl, hR⟩ hr2
      have hs := hR.size
      have f0 := flag hr2 hs 0 _ rfl (by intro e he hbd; simp at he; try (exact he.elim))
      have f1 := flag hr2 hs 1 _ rfl (by intro e he hbd; simp at he; try (exact he.elim))
      have f2 := flag hr2 hs 2 _ rfl (by intro e he hbd; simp at he; first | exact he.elim | (subst he; assumption) | (rcases he with rfl | rfl <;> assumption) | (rcases he with rfl | rfl | rfl <;> assumption))
      have f3 := flag hr2 hs 3 _ rfl (by intro e he hbd; simp at he; first | exact he.elim | (subst he; assumption) | (rcases he with rfl | rfl <;> assumption) | (rcases he with rfl | rfl | rfl <;> assumption))
      have f4 := flag hr2 hs 4 _ rfl (by intro e he hbd; simp at he; try (exact he.elim))
      have f5 := flag hr2 hs 5 _ rfl (by intro e he hbd; simp at he; rcases he with rfl | rfl | rfl | rfl | rfl | rfl | rfl | rfl | rfl | rfl | rfl | rfl <;> first | assumption | (exact absurd hbd (by decide)))
      have u0 : U 0 = .agg #[.int .u32 A.1, .int .u32 A.2] := hR.val 0 (by omega) f0
      have u1 : U 1 = .agg #[.int .u32 A.1, .int .u32 A.2] := hR.val 1 (by omega) f1
      have u2 : U 2 = .agg #[.int .u32 (conjW A).1, .int .u32 (conjW A).2] := hR.val 2 (by omega) f2
      have u3 : U 3 = .agg #[.int .u32 (mulW A (conjW A)).1, .int .u32 (mulW A (conjW A)).2] := hR.val 3 (by omega) f3
      obtain ⟨gm, u4, -, -, t4⟩ := hR.mem 4 (by omega) (by omega) f4
      have mm : Has W gm (mulW A (conjW A)) := t4 f5
      rw [← HM.out] at mm u3
      have hfv := HFV.out.step (X := W5) hR.below
      have HFV := Lib.hid hfv
      have HMM := Lib.hid mm
      unfold frT
      rw [u0, u1, u2, u3, u4]
      clear f0 f1 f2 f3 f4 f5 u0 u1 u2 u3 u4 hR hr2 hs mm t4 hfv
      dsimp only
      obtain ⟨PR, hPR⟩ : ∃ x, x = P * R := ⟨_, rfl⟩
      obtain ⟨QS, hQS⟩ : ∃ x, x = Q * S := ⟨_, rfl⟩
      obtain ⟨PS, hPS⟩ : ∃ x, x = P * S := ⟨_, rfl⟩
      obtain ⟨QR, hQR⟩ : ∃ x, x = Q * R := ⟨_, rfl⟩
      obtain ⟨PP, hPP⟩ : ∃ x, x = P * P := ⟨_, rfl⟩
      obtain ⟨QQ, hQQ⟩ : ∃ x, x = Q * Q := ⟨_, rfl⟩
      have z1 := mul_bound bP bR
      have z2 := mul_bound bQ bS
      have z3 := mul_bound bP bS
      have z4 := mul_bound bQ bR
      have z5 := mul_bound bP bP
      have z6 := mul_bound bQ bQ
      rw [← hPR] at z1
      rw [← hQS] at z2
      rw [← hPS] at z3
      rw [← hQR] at z4
      rw [← hPP] at z5
      rw [← hQQ] at z6
      have n1 : IntKind.i64.wrap (P * R) = PR := by rw [← hPR]; exact IntWalk.i64_in _ (by omega)
      have n2 : IntKind.i64.wrap (Q * S) = QS := by rw [← hQS]; exact IntWalk.i64_in _ (by omega)
      have n3 : IntKind.i64.wrap (P * S) = PS := by rw [← hPS]; exact IntWalk.i64_in _ (by omega)
      have n4 : IntKind.i64.wrap (Q * R) = QR := by rw [← hQR]; exact IntWalk.i64_in _ (by omega)
      have n5 : IntKind.i64.wrap (P * P) = PP := by rw [← hPP]; exact IntWalk.i64_in _ (by omega)
      have n6 : IntKind.i64.wrap (Q * Q) = QQ := by rw [← hQQ]; exact IntWalk.i64_in _ (by omega)
      have hse := HSE.out
      have q1 : RpN (mulW A B) (PR - QS) (PS + QR) := by rw [hPR, hQS, hPS, hQR]; exact hse.mul
      have q2 : RpN M (PP + QQ) 0 := by rw [hPP, hQQ, HM.out]; exact hse.norm
      obtain ⟨v1, v2, q3, q4⟩ := hse.assoc
      obtain ⟨v3, v4, q5, q6⟩ := hse.dist
      obtain ⟨T, hT⟩ : ∃ T, T = (wd m, wd 0) := ⟨_, rfl⟩
      have q7 : RpN (divW (mulW A T) T) P Q := by rw [hT, Hm.out]; exact div_eq HSA.out r Hr7.out
      rw [← hT] at HFV
      clear hT
      have q8 : (FloatKind.f32.format.order (canon M.2) 0 == some .eq) = true := by
        rw [q2.2.canon]
        have h0 : wd 0 = 0 := by decide
        have z := wd_rp 0 (by omega) (by omega)
        rw [h0] at z
        exact q2.2.eq z
      have Q0 := Lib.hid hse
      have Q1 := Lib.hid q1
      have Q2 := Lib.hid q2
      have Q3 := Lib.hid (And.intro q3 q4)
      have Q5 := Lib.hid (And.intro q5 q6)
      have Q7 := Lib.hid q7
      have i1 : -1000000 ≤ PR ∧ PR ≤ 1000000 := by omega
      have i2 : -1000000 ≤ QS ∧ QS ≤ 1000000 := by omega
      have i3 : -1000000 ≤ PS ∧ PS ≤ 1000000 := by omega
      have i4 : -1000000 ≤ QR ∧ QR ≤ 1000000 := by omega
      have i5 : -1000000 ≤ PP ∧ PP ≤ 1000000 := by omega
      have i6 : -1000000 ≤ QQ ∧ QQ ≤ 1000000 := by omega
      have I := Lib.hid (And.intro i1 (And.intro i2 (And.intro i3 (And.intro i4 (And.intro i5 i6)))))
      have BP := Lib.hid (And.intro bP (And.intro bQ (And.intro bR bS)))
      have k1 : IntKind.i64.wrap (P + R) = P + R := IntWalk.i64_in _ (by omega)
      have k2 : IntKind.i64.wrap (Q + S) = Q + S := IntWalk.i64_in _ (by omega)
      have k3 : IntKind.i64.wrap (P - R) = P - R := IntWalk.i64_in _ (by omega)
      have k4 : IntKind.i64.wrap (Q - S) = Q - S := IntWalk.i64_in _ (by omega)
      have k5 : IntKind.i64.wrap (PR - QS) = PR - QS := IntWalk.i64_in _ (by omega)
      have k6 : IntKind.i64.wrap (PS + QR) = PS + QR := IntWalk.i64_in _ (by omega)
      have k7 : IntKind.i64.wrap (PP + QQ) = PP + QQ := IntWalk.i64_in _ (by omega)
      clear hPR hQS hPS hQR hPP hQQ z1 z2 z3 z4 z5 z6 hse q1 q2 q3 q4 q5 q6 q7 i1 i2 i3 i4 i5 i6 bP bQ bR bS hr hk
      obtain ⟨-, ⟨a0, a1⟩, ⟨b0, b1⟩, ⟨c0, c1⟩, ⟨t0, t1⟩⟩ := HFV.out
      obtain ⟨m0, m1⟩ := HMM.out
      go_upto_region 6 with (first
        | (go_at_call 11
           refine (parts_any M.1 M.2 _).mono ?_
           rintro e w' ⟨rfl, hb'⟩
           have HFV := Lib.hid (HFV.out.step hb')
           have HMM := Lib.hid (HMM.out.step hb')
           clear a0 a1 b0 b1 c0 c1 t0 t1 m0 m1 hb'
           obtain ⟨-, ⟨a0, a1⟩, ⟨b0, b1⟩, ⟨c0, c1⟩, ⟨t0, t1⟩⟩ := HFV.out
           obtain ⟨m0, m1⟩ := HMM.out))
      dsimp only [List.append]
      clear a0 a1 b0 b1 c0 c1 t0 t1 m0 m1
      have HFV := Lib.hid (HFV.out.step (below_drewN (Below.refl _ _) 1))
      have HMM := Lib.hid (HMM.out.step (below_drewN (Below.refl _ _) 1))
      refine wp_region_all 102 (by kernel_rfl) (by kernel_rfl) (by kernel_rfl) (fun l s W => ∃ v U, s = frQ v ga gb gc gt gm P Q R S (.float .f32 (canon M.2)) U ∧ Rq (vQ P Q R S PR QS PS QR PP QQ A B C T M) W0 ga gb gc gt gm A B C T M l U W) (fun l s W h => by obtain ⟨_, _, -, h⟩ := h; exact h.size) ?_ ?_ ?_
      · exact Rq.start rfl HFV.out HMM.out
      · intro os hO i l s W hI hi hi2
        obtain ⟨v, U, rfl, hR⟩ := hI
        obtain ⟨hl, o, ho, hdep⟩ := mem_ready.1 hi2
        clear hi2
        have HR := Lib.hid hR
        have HL := Lib.hid hl
        have HD := Lib.hid hdep
        have HFW := Lib.hid hR.fv
        have HMW := Lib.hid hR.m
        clear hR hl hdep
        rcases Nat.eq_or_lt_of_le (Nat.le_of_lt_succ hi) with rfl | hi
        · obtain rfl := op_at hO ho rfl
          refine wpOp_go ho (wanted_none rfl _) (fun K hK => ?_)
          have HK := Lib.hid hK
          clear hK ho hO
          have e0 : U 100 = .bool true := HR.out.val 100 (HD.out { on := 100, ground := .data } (by simp) rfl)
          have HE := Lib.hid e0
          clear e0
          unfold frQ
          go_simp
          exact HK.out _ _ ⟨v, upd U 101 (U 100), rfl, HR.out.go HL.out HE.out (Below.refl _ _)⟩
        rcases Nat.eq_or_lt_of_le (Nat.le_of_lt_succ hi) with rfl | hi
        · obtain rfl := op_at hO ho rfl
          refine wpOp_go ho (wanted_none rfl _) (fun K hK => ?_)
          have HK := Lib.hid hK
          clear hK ho hO
          have e0 : U 98 = .bool true := HR.out.val 98 (HD.out { on := 98, ground := .data } (by simp) rfl)
          have e1 : U 99 = .bool true := HR.out.val 99 (HD.out { on := 99, ground := .data } (by simp) rfl)
          have HE := Lib.hid e1
          clear e1
          unfold frQ
          go_simp
          refine HK.out _ _ ⟨v, upd (upd U 98 (.bool true)) 100 (U 99), rfl, ?_⟩
          rw [upd_self e0]
          exact HR.out.go HL.out HE.out (Below.refl _ _)
        rcases Nat.eq_or_lt_of_le (Nat.le_of_lt_succ hi) with rfl | hi
        · obtain rfl := op_at hO ho rfl
          have eg : U 98 = .bool true := HR.out.val 98 (HD.out { on := 98, ground := .guard } (by simp) rfl)
          refine wpOp_go ho (wanted_some hO rfl rfl rfl rfl eg) (fun K hK => ?_)
          clear eg
          have HK := Lib.hid hK
          clear hK ho hO
          unfold frQ
          go_simp
          refine calls_args rfl ((awake_true W).mono ?_)
          rintro e w' ⟨rfl, hb'⟩
          exact HK.out _ _ ⟨v, upd U 99 (.bool true), rfl, HR.out.go HL.out rfl hb'⟩
        rcases Nat.eq_or_lt_of_le (Nat.le_of_lt_succ hi) with rfl | hi
        · obtain rfl := op_at hO ho rfl
          refine wpOp_go ho (wanted_none rfl _) (fun K hK => ?_)
          have HK := Lib.hid hK
          clear hK ho hO
          have e0 : U 97 = .bool true := HR.out.val 97 (HD.out { on := 97, ground := .data } (by simp) rfl)
          have HE := Lib.hid e0
          clear e0
          unfold frQ
          go_simp
          exact HK.out _ _ ⟨v, upd U 98 (U 97), rfl, HR.out.go HL.out HE.out (Below.refl _ _)⟩
        rcases Nat.eq_or_lt_of_le (Nat.le_of_lt_succ hi) with rfl | hi
        · obtain rfl := op_at hO ho rfl
          refine wpOp_go ho (wanted_none rfl _) (fun K hK => ?_)
          have HK := Lib.hid hK
          clear hK ho hO
          have e0 : U 89 = .bool true := HR.out.val 89 (HD.out { on := 89, ground := .data } (by simp) rfl)
          have e1 : U 96 = .bool true := HR.out.val 96 (HD.out { on := 96, ground := .data } (by simp) rfl)
          have HE := Lib.hid e1
          clear e1
          unfold frQ
          go_simp
          refine HK.out _ _ ⟨v, upd (upd U 89 (.bool true)) 97 (U 96), rfl, ?_⟩
          rw [upd_self e0]
          exact HR.out.go HL.out HE.out (Below.refl _ _)
        rcases Nat.eq_or_lt_of_le (Nat.le_of_lt_succ hi) with rfl | hi
        · obtain rfl := op_at hO ho rfl
          have eg : U 89 = .bool true := HR.out.val 89 (HD.out { on := 89, ground := .guard } (by simp) rfl)
          refine wpOp_go ho (wanted_some hO rfl rfl rfl rfl eg) (fun K hK => ?_)
          clear eg
          have HK := Lib.hid hK
          clear hK ho hO
          have e0 : U 94 = .agg #[.int .u32 (divW (mulW A T) T).1, .int .u32 (divW (mulW A T) T).2] := HR.out.val 94 (HD.out { on := 94, ground := .data } (by simp) rfl)
          have e1 : U 95 = .agg #[.int .u32 A.1, .int .u32 A.2] := HR.out.val 95 (HD.out { on := 95, ground := .data } (by simp) rfl)
          have HE := Lib.hid (And.intro e0 e1)
          clear e0 e1
          unfold frQ
          go_simp
          refine calls_args (y := #[.agg #[.int .u32 (divW (mulW A T) T).1, .int .u32 (divW (mulW A T) T).2], .agg #[.int .u32 A.1, .int .u32 A.2]]) (by rw [HE.out.1, HE.out.2]) ((equal_yes (x := divW (mulW A T) T) (y := A) Q7.out HSA.out.rb.rp W).mono ?_)
          rintro e w' ⟨rfl, hb'⟩
          exact HK.out _ _ ⟨v, upd U 96 (.bool true), rfl, HR.out.go HL.out rfl hb'⟩
        rcases Nat.eq_or_lt_of_le (Nat.le_of_lt_succ hi) with rfl | hi
        · obtain rfl := op_at hO ho rfl
          have eg : U 89 = .bool true := HR.out.val 89 (HD.out { on := 89, ground := .guard } (by simp) rfl)
          refine wpOp_go ho (wanted_some hO rfl rfl rfl rfl eg) (fun K hK => ?_)
          clear eg
          have HK := Lib.hid hK
          clear hK ho hO
          obtain ⟨c0, c1⟩ := HFW.out.a
          unfold frQ
          go_simp
          exact HK.out _ _ ⟨v, upd U 95 (.agg #[.int .u32 A.1, .int .u32 A.2]), rfl, HR.out.go HL.out rfl (Below.refl _ _)⟩
        rcases Nat.eq_or_lt_of_le (Nat.le_of_lt_succ hi) with rfl | hi
        · obtain rfl := op_at hO ho rfl
          have eg : U 89 = .bool true := HR.out.val 89 (HD.out { on := 89, ground := .guard } (by simp) rfl)
          refine wpOp_go ho (wanted_some hO rfl rfl rfl rfl eg) (fun K hK => ?_)
          clear eg
          have HK := Lib.hid hK
          clear hK ho hO
          have e0 : U 92 = .agg #[.int .u32 (mulW A T).1, .int .u32 (mulW A T).2] := HR.out.val 92 (HD.out { on := 92, ground := .data } (by simp) rfl)
          have e1 : U 93 = .agg #[.int .u32 T.1, .int .u32 T.2] := HR.out.val 93 (HD.out { on := 93, ground := .data } (by simp) rfl)
          have HE := Lib.hid (And.intro e0 e1)
          clear e0 e1
          unfold frQ
          go_simp
          refine calls_args (by rw [HE.out.1, HE.out.2]) ((div_any (mulW A T).1 (mulW A T).2 T.1 T.2 W).mono ?_)
          rintro e w' ⟨rfl, hb'⟩
          exact HK.out _ _ ⟨v, upd U 94 (.agg #[.int .u32 (divW (mulW A T) T).1, .int .u32 (divW (mulW A T) T).2]), rfl, HR.out.go HL.out rfl hb'⟩
        rcases Nat.eq_or_lt_of_le (Nat.le_of_lt_succ hi) with rfl | hi
        · obtain rfl := op_at hO ho rfl
          have eg : U 89 = .bool true := HR.out.val 89 (HD.out { on := 89, ground := .guard } (by simp) rfl)
          refine wpOp_go ho (wanted_some hO rfl rfl rfl rfl eg) (fun K hK => ?_)
          clear eg
          have HK := Lib.hid hK
          clear hK ho hO
          obtain ⟨c0, c1⟩ := HFW.out.t
          unfold frQ
          go_simp
          exact HK.out _ _ ⟨v, upd U 93 (.agg #[.int .u32 T.1, .int .u32 T.2]), rfl, HR.out.go HL.out rfl (Below.refl _ _)⟩
        rcases Nat.eq_or_lt_of_le (Nat.le_of_lt_succ hi) with rfl | hi
        · obtain rfl := op_at hO ho rfl
          have eg : U 89 = .bool true := HR.out.val 89 (HD.out { on := 89, ground := .guard } (by simp) rfl)
          refine wpOp_go ho (wanted_some hO rfl rfl rfl rfl eg) (fun K hK => ?_)
          clear eg
          have HK := Lib.hid hK
          clear hK ho hO
          have e0 : U 90 = .agg #[.int .u32 A.1, .int .u32 A.2] := HR.out.val 90 (HD.out { on := 90, ground := .data } (by simp) rfl)
          have e1 : U 91 = .agg #[.int .u32 T.1, .int .u32 T.2] := HR.out.val 91 (HD.out { on := 91, ground := .data } (by simp) rfl)
          have HE := Lib.hid (And.intro e0 e1)
          clear e0 e1
          unfold frQ
          go_simp
          refine calls_args (by rw [HE.out.1, HE.out.2]) ((mul_any A.1 A.2 T.1 T.2 W).mono ?_)
          rintro e w' ⟨rfl, hb'⟩
          exact HK.out _ _ ⟨v, upd U 92 (.agg #[.int .u32 (mulW A T).1, .int .u32 (mulW A T).2]), rfl, HR.out.go HL.out rfl hb'⟩
        rcases Nat.eq_or_lt_of_le (Nat.le_of_lt_succ hi) with rfl | hi
        · obtain rfl := op_at hO ho rfl
          have eg : U 89 = .bool true := HR.out.val 89 (HD.out { on := 89, ground := .guard } (by simp) rfl)
          refine wpOp_go ho (wanted_some hO rfl rfl rfl rfl eg) (fun K hK => ?_)
          clear eg
          have HK := Lib.hid hK
          clear hK ho hO
          obtain ⟨c0, c1⟩ := HFW.out.t
          unfold frQ
          go_simp
          exact HK.out _ _ ⟨v, upd U 91 (.agg #[.int .u32 T.1, .int .u32 T.2]), rfl, HR.out.go HL.out rfl (Below.refl _ _)⟩
        rcases Nat.eq_or_lt_of_le (Nat.le_of_lt_succ hi) with rfl | hi
        · obtain rfl := op_at hO ho rfl
          have eg : U 89 = .bool true := HR.out.val 89 (HD.out { on := 89, ground := .guard } (by simp) rfl)
          refine wpOp_go ho (wanted_some hO rfl rfl rfl rfl eg) (fun K hK => ?_)
          clear eg
          have HK := Lib.hid hK
          clear hK ho hO
          obtain ⟨c0, c1⟩ := HFW.out.a
          unfold frQ
          go_simp
          exact HK.out _ _ ⟨v, upd U 90 (.agg #[.int .u32 A.1, .int .u32 A.2]), rfl, HR.out.go HL.out rfl (Below.refl _ _)⟩
        rcases Nat.eq_or_lt_of_le (Nat.le_of_lt_succ hi) with rfl | hi
        · obtain rfl := op_at hO ho rfl
          refine wpOp_go ho (wanted_none rfl _) (fun K hK => ?_)
          have HK := Lib.hid hK
          clear hK ho hO
          have e0 : U 88 = .bool true := HR.out.val 88 (HD.out { on := 88, ground := .data } (by simp) rfl)
          have HE := Lib.hid e0
          clear e0
          unfold frQ
          go_simp
          exact HK.out _ _ ⟨v, upd U 89 (U 88), rfl, HR.out.go HL.out HE.out (Below.refl _ _)⟩
        rcases Nat.eq_or_lt_of_le (Nat.le_of_lt_succ hi) with rfl | hi
        · obtain rfl := op_at hO ho rfl
          refine wpOp_go ho (wanted_none rfl _) (fun K hK => ?_)
          have HK := Lib.hid hK
          clear hK ho hO
          have e0 : U 77 = .bool true := HR.out.val 77 (HD.out { on := 77, ground := .data } (by simp) rfl)
          have e1 : U 87 = .bool true := HR.out.val 87 (HD.out { on := 87, ground := .data } (by simp) rfl)
          have HE := Lib.hid e1
          clear e1
          unfold frQ
          go_simp
          refine HK.out _ _ ⟨v, upd (upd U 77 (.bool true)) 88 (U 87), rfl, ?_⟩
          rw [upd_self e0]
          exact HR.out.go HL.out HE.out (Below.refl _ _)
        rcases Nat.eq_or_lt_of_le (Nat.le_of_lt_succ hi) with rfl | hi
        · obtain rfl := op_at hO ho rfl
          have eg : U 77 = .bool true := HR.out.val 77 (HD.out { on := 77, ground := .guard } (by simp) rfl)
          refine wpOp_go ho (wanted_some hO rfl rfl rfl rfl eg) (fun K hK => ?_)
          clear eg
          have HK := Lib.hid hK
          clear hK ho hO
          have e0 : U 78 = .agg #[.int .u32 M.1, .int .u32 M.2] := HR.out.val 78 (HD.out { on := 78, ground := .data } (by simp) rfl)
          have e1 : U 86 = .agg #[.int .u32 ((wd (PP + QQ), wd 0)).1, .int .u32 ((wd (PP + QQ), wd 0)).2] := HR.out.val 86 (HD.out { on := 86, ground := .data } (by simp) rfl)
          have HE := Lib.hid (And.intro e0 e1)
          clear e0 e1
          unfold frQ
          go_simp
          refine calls_args (y := #[.agg #[.int .u32 M.1, .int .u32 M.2], .agg #[.int .u32 ((wd (PP + QQ), wd 0)).1, .int .u32 ((wd (PP + QQ), wd 0)).2]]) (by rw [HE.out.1, HE.out.2]) ((equal_yes (x := M) (y := (wd (PP + QQ), wd 0)) Q2.out (rp_wd _ _ (by have := I.out; omega) (by omega)) W).mono ?_)
          rintro e w' ⟨rfl, hb'⟩
          exact HK.out _ _ ⟨v, upd U 87 (.bool true), rfl, HR.out.go HL.out rfl hb'⟩
        rcases Nat.eq_or_lt_of_le (Nat.le_of_lt_succ hi) with rfl | hi
        · obtain rfl := op_at hO ho rfl
          have eg : U 77 = .bool true := HR.out.val 77 (HD.out { on := 77, ground := .guard } (by simp) rfl)
          refine wpOp_go ho (wanted_some hO rfl rfl rfl rfl eg) (fun K hK => ?_)
          clear eg
          have HK := Lib.hid hK
          clear hK ho hO
          have e0 : U 85 = .int .i64 (PP + QQ) := HR.out.val 85 (HD.out { on := 85, ground := .data } (by simp) rfl)
          have HE := Lib.hid (e0)
          clear e0
          unfold frQ
          go_simp
          refine calls_args (by rw [HE.out]) ((of_int (PP + QQ) 0 W).mono ?_)
          rintro e w' ⟨rfl, hb'⟩
          exact HK.out _ _ ⟨v, upd U 86 (.agg #[.int .u32 ((wd (PP + QQ), wd 0)).1, .int .u32 ((wd (PP + QQ), wd 0)).2]), rfl, HR.out.go HL.out rfl hb'⟩
        rcases Nat.eq_or_lt_of_le (Nat.le_of_lt_succ hi) with rfl | hi
        · obtain rfl := op_at hO ho rfl
          have eg : U 77 = .bool true := HR.out.val 77 (HD.out { on := 77, ground := .guard } (by simp) rfl)
          refine wpOp_go ho (wanted_some hO rfl rfl rfl rfl eg) (fun K hK => ?_)
          clear eg
          have HK := Lib.hid hK
          clear hK ho hO
          have e0 : U 81 = .int .i64 (PP) := HR.out.val 81 (HD.out { on := 81, ground := .data } (by simp) rfl)
          have e1 : U 84 = .int .i64 (QQ) := HR.out.val 84 (HD.out { on := 84, ground := .data } (by simp) rfl)
          unfold frQ
          go_simp
          refine HK.out _ _ ⟨v, upd (upd (upd U 81 (.int .i64 (PP))) 84 (.int .i64 (QQ))) 85 (.int .i64 (PP + QQ)), rfl, ?_⟩
          rw [upd_self e0, upd_self e1]
          exact HR.out.go HL.out rfl (Below.refl _ _)
        rcases Nat.eq_or_lt_of_le (Nat.le_of_lt_succ hi) with rfl | hi
        · obtain rfl := op_at hO ho rfl
          have eg : U 77 = .bool true := HR.out.val 77 (HD.out { on := 77, ground := .guard } (by simp) rfl)
          refine wpOp_go ho (wanted_some hO rfl rfl rfl rfl eg) (fun K hK => ?_)
          clear eg
          have HK := Lib.hid hK
          clear hK ho hO
          have e0 : U 82 = .int .i64 (Q) := HR.out.val 82 (HD.out { on := 82, ground := .data } (by simp) rfl)
          have e1 : U 83 = .int .i64 (Q) := HR.out.val 83 (HD.out { on := 83, ground := .data } (by simp) rfl)
          unfold frQ
          go_simp
          refine HK.out _ _ ⟨v, upd (upd (upd U 82 (.int .i64 (Q))) 83 (.int .i64 (Q))) 84 (.int .i64 (QQ)), rfl, ?_⟩
          rw [upd_self e0, upd_self e1]
          exact HR.out.go HL.out rfl (Below.refl _ _)
        rcases Nat.eq_or_lt_of_le (Nat.le_of_lt_succ hi) with rfl | hi
        · obtain rfl := op_at hO ho rfl
          have eg : U 77 = .bool true := HR.out.val 77 (HD.out { on := 77, ground := .guard } (by simp) rfl)
          refine wpOp_go ho (wanted_some hO rfl rfl rfl rfl eg) (fun K hK => ?_)
          clear eg
          have HK := Lib.hid hK
          clear hK ho hO
          unfold frQ
          go_simp
          exact HK.out _ _ ⟨v, upd U 83 (.int .i64 (Q)), rfl, HR.out.go HL.out rfl (Below.refl _ _)⟩
        rcases Nat.eq_or_lt_of_le (Nat.le_of_lt_succ hi) with rfl | hi
        · obtain rfl := op_at hO ho rfl
          have eg : U 77 = .bool true := HR.out.val 77 (HD.out { on := 77, ground := .guard } (by simp) rfl)
          refine wpOp_go ho (wanted_some hO rfl rfl rfl rfl eg) (fun K hK => ?_)
          clear eg
          have HK := Lib.hid hK
          clear hK ho hO
          unfold frQ
          go_simp
          exact HK.out _ _ ⟨v, upd U 82 (.int .i64 (Q)), rfl, HR.out.go HL.out rfl (Below.refl _ _)⟩
        rcases Nat.eq_or_lt_of_le (Nat.le_of_lt_succ hi) with rfl | hi
        · obtain rfl := op_at hO ho rfl
          have eg : U 77 = .bool true := HR.out.val 77 (HD.out { on := 77, ground := .guard } (by simp) rfl)
          refine wpOp_go ho (wanted_some hO rfl rfl rfl rfl eg) (fun K hK => ?_)
          clear eg
          have HK := Lib.hid hK
          clear hK ho hO
          have e0 : U 79 = .int .i64 (P) := HR.out.val 79 (HD.out { on := 79, ground := .data } (by simp) rfl)
          have e1 : U 80 = .int .i64 (P) := HR.out.val 80 (HD.out { on := 80, ground := .data } (by simp) rfl)
          unfold frQ
          go_simp
          refine HK.out _ _ ⟨v, upd (upd (upd U 79 (.int .i64 (P))) 80 (.int .i64 (P))) 81 (.int .i64 (PP)), rfl, ?_⟩
          rw [upd_self e0, upd_self e1]
          exact HR.out.go HL.out rfl (Below.refl _ _)
        rcases Nat.eq_or_lt_of_le (Nat.le_of_lt_succ hi) with rfl | hi
        · obtain rfl := op_at hO ho rfl
          have eg : U 77 = .bool true := HR.out.val 77 (HD.out { on := 77, ground := .guard } (by simp) rfl)
          refine wpOp_go ho (wanted_some hO rfl rfl rfl rfl eg) (fun K hK => ?_)
          clear eg
          have HK := Lib.hid hK
          clear hK ho hO
          unfold frQ
          go_simp
          exact HK.out _ _ ⟨v, upd U 80 (.int .i64 (P)), rfl, HR.out.go HL.out rfl (Below.refl _ _)⟩
        rcases Nat.eq_or_lt_of_le (Nat.le_of_lt_succ hi) with rfl | hi
        · obtain rfl := op_at hO ho rfl
          have eg : U 77 = .bool true := HR.out.val 77 (HD.out { on := 77, ground := .guard } (by simp) rfl)
          refine wpOp_go ho (wanted_some hO rfl rfl rfl rfl eg) (fun K hK => ?_)
          clear eg
          have HK := Lib.hid hK
          clear hK ho hO
          unfold frQ
          go_simp
          exact HK.out _ _ ⟨v, upd U 79 (.int .i64 (P)), rfl, HR.out.go HL.out rfl (Below.refl _ _)⟩
        rcases Nat.eq_or_lt_of_le (Nat.le_of_lt_succ hi) with rfl | hi
        · obtain rfl := op_at hO ho rfl
          have eg : U 77 = .bool true := HR.out.val 77 (HD.out { on := 77, ground := .guard } (by simp) rfl)
          refine wpOp_go ho (wanted_some hO rfl rfl rfl rfl eg) (fun K hK => ?_)
          clear eg
          have HK := Lib.hid hK
          clear hK ho hO
          obtain ⟨c0, c1⟩ := HMW.out
          unfold frQ
          go_simp
          exact HK.out _ _ ⟨v, upd U 78 (.agg #[.int .u32 M.1, .int .u32 M.2]), rfl, HR.out.go HL.out rfl (Below.refl _ _)⟩
        rcases Nat.eq_or_lt_of_le (Nat.le_of_lt_succ hi) with rfl | hi
        · obtain rfl := op_at hO ho rfl
          refine wpOp_go ho (wanted_none rfl _) (fun K hK => ?_)
          have HK := Lib.hid hK
          clear hK ho hO
          have e0 : U 76 = .bool true := HR.out.val 76 (HD.out { on := 76, ground := .data } (by simp) rfl)
          have HE := Lib.hid e0
          clear e0
          unfold frQ
          go_simp
          exact HK.out _ _ ⟨v, upd U 77 (U 76), rfl, HR.out.go HL.out HE.out (Below.refl _ _)⟩
        rcases Nat.eq_or_lt_of_le (Nat.le_of_lt_succ hi) with rfl | hi
        · obtain rfl := op_at hO ho rfl
          refine wpOp_go ho (wanted_none rfl _) (fun K hK => ?_)
          have HK := Lib.hid hK
          clear hK ho hO
          have e0 : U 73 = .bool true := HR.out.val 73 (HD.out { on := 73, ground := .data } (by simp) rfl)
          have e1 : U 75 = .bool true := HR.out.val 75 (HD.out { on := 75, ground := .data } (by simp) rfl)
          have HE := Lib.hid e1
          clear e1
          unfold frQ
          go_simp
          refine HK.out _ _ ⟨v, upd (upd U 73 (.bool true)) 76 (U 75), rfl, ?_⟩
          rw [upd_self e0]
          exact HR.out.go HL.out HE.out (Below.refl _ _)
        rcases Nat.eq_or_lt_of_le (Nat.le_of_lt_succ hi) with rfl | hi
        · obtain rfl := op_at hO ho rfl
          have eg : U 73 = .bool true := HR.out.val 73 (HD.out { on := 73, ground := .guard } (by simp) rfl)
          refine wpOp_go ho (wanted_some hO rfl rfl rfl rfl eg) (fun K hK => ?_)
          clear eg
          have HK := Lib.hid hK
          clear hK ho hO
          have e0 : U 74 = .float .f32 (canon M.2) := HR.out.val 74 (HD.out { on := 74, ground := .data } (by simp) rfl)
          unfold frQ
          go_simp
          refine HK.out _ _ ⟨v, upd (upd U 74 (.float .f32 (canon M.2))) 75 (.bool true), rfl, ?_⟩
          rw [upd_self e0]
          exact HR.out.go HL.out rfl (Below.refl _ _)
        rcases Nat.eq_or_lt_of_le (Nat.le_of_lt_succ hi) with rfl | hi
        · obtain rfl := op_at hO ho rfl
          have eg : U 73 = .bool true := HR.out.val 73 (HD.out { on := 73, ground := .guard } (by simp) rfl)
          refine wpOp_go ho (wanted_some hO rfl rfl rfl rfl eg) (fun K hK => ?_)
          clear eg
          have HK := Lib.hid hK
          clear hK ho hO
          unfold frQ
          go_simp
          exact HK.out _ _ ⟨v, upd U 74 (.float .f32 (canon M.2)), rfl, HR.out.go HL.out rfl (Below.refl _ _)⟩
        rcases Nat.eq_or_lt_of_le (Nat.le_of_lt_succ hi) with rfl | hi
        · obtain rfl := op_at hO ho rfl
          refine wpOp_go ho (wanted_none rfl _) (fun K hK => ?_)
          have HK := Lib.hid hK
          clear hK ho hO
          have e0 : U 72 = .bool true := HR.out.val 72 (HD.out { on := 72, ground := .data } (by simp) rfl)
          have HE := Lib.hid e0
          clear e0
          unfold frQ
          go_simp
          exact HK.out _ _ ⟨v, upd U 73 (U 72), rfl, HR.out.go HL.out HE.out (Below.refl _ _)⟩
        rcases Nat.eq_or_lt_of_le (Nat.le_of_lt_succ hi) with rfl | hi
        · obtain rfl := op_at hO ho rfl
          refine wpOp_go ho (wanted_none rfl _) (fun K hK => ?_)
          have HK := Lib.hid hK
          clear hK ho hO
          have e0 : U 58 = .bool true := HR.out.val 58 (HD.out { on := 58, ground := .data } (by simp) rfl)
          have e1 : U 71 = .bool true := HR.out.val 71 (HD.out { on := 71, ground := .data } (by simp) rfl)
          have HE := Lib.hid e1
          clear e1
          unfold frQ
          go_simp
          refine HK.out _ _ ⟨v, upd (upd U 58 (.bool true)) 72 (U 71), rfl, ?_⟩
          rw [upd_self e0]
          exact HR.out.go HL.out HE.out (Below.refl _ _)
        rcases Nat.eq_or_lt_of_le (Nat.le_of_lt_succ hi) with rfl | hi
        · obtain rfl := op_at hO ho rfl
          have eg : U 58 = .bool true := HR.out.val 58 (HD.out { on := 58, ground := .guard } (by simp) rfl)
          refine wpOp_go ho (wanted_some hO rfl rfl rfl rfl eg) (fun K hK => ?_)
          clear eg
          have HK := Lib.hid hK
          clear hK ho hO
          have e0 : U 63 = .agg #[.int .u32 (mulW A (addW B C)).1, .int .u32 (mulW A (addW B C)).2] := HR.out.val 63 (HD.out { on := 63, ground := .data } (by simp) rfl)
          have e1 : U 70 = .agg #[.int .u32 (addW (mulW A B) (mulW A C)).1, .int .u32 (addW (mulW A B) (mulW A C)).2] := HR.out.val 70 (HD.out { on := 70, ground := .data } (by simp) rfl)
          have HE := Lib.hid (And.intro e0 e1)
          clear e0 e1
          unfold frQ
          go_simp
          refine calls_args (y := #[.agg #[.int .u32 (mulW A (addW B C)).1, .int .u32 (mulW A (addW B C)).2], .agg #[.int .u32 (addW (mulW A B) (mulW A C)).1, .int .u32 (addW (mulW A B) (mulW A C)).2]]) (by rw [HE.out.1, HE.out.2]) ((equal_yes (x := mulW A (addW B C)) (y := addW (mulW A B) (mulW A C)) Q5.out.1 Q5.out.2 W).mono ?_)
          rintro e w' ⟨rfl, hb'⟩
          exact HK.out _ _ ⟨v, upd U 71 (.bool true), rfl, HR.out.go HL.out rfl hb'⟩
        rcases Nat.eq_or_lt_of_le (Nat.le_of_lt_succ hi) with rfl | hi
        · obtain rfl := op_at hO ho rfl
          have eg : U 58 = .bool true := HR.out.val 58 (HD.out { on := 58, ground := .guard } (by simp) rfl)
          refine wpOp_go ho (wanted_some hO rfl rfl rfl rfl eg) (fun K hK => ?_)
          clear eg
          have HK := Lib.hid hK
          clear hK ho hO
          have e0 : U 66 = .agg #[.int .u32 (mulW A B).1, .int .u32 (mulW A B).2] := HR.out.val 66 (HD.out { on := 66, ground := .data } (by simp) rfl)
          have e1 : U 69 = .agg #[.int .u32 (mulW A C).1, .int .u32 (mulW A C).2] := HR.out.val 69 (HD.out { on := 69, ground := .data } (by simp) rfl)
          have HE := Lib.hid (And.intro e0 e1)
          clear e0 e1
          unfold frQ
          go_simp
          refine calls_args (by rw [HE.out.1, HE.out.2]) ((add_any (mulW A B).1 (mulW A B).2 (mulW A C).1 (mulW A C).2 W).mono ?_)
          rintro e w' ⟨rfl, hb'⟩
          exact HK.out _ _ ⟨v, upd U 70 (.agg #[.int .u32 (addW (mulW A B) (mulW A C)).1, .int .u32 (addW (mulW A B) (mulW A C)).2]), rfl, HR.out.go HL.out rfl hb'⟩
        rcases Nat.eq_or_lt_of_le (Nat.le_of_lt_succ hi) with rfl | hi
        · obtain rfl := op_at hO ho rfl
          have eg : U 58 = .bool true := HR.out.val 58 (HD.out { on := 58, ground := .guard } (by simp) rfl)
          refine wpOp_go ho (wanted_some hO rfl rfl rfl rfl eg) (fun K hK => ?_)
          clear eg
          have HK := Lib.hid hK
          clear hK ho hO
          have e0 : U 67 = .agg #[.int .u32 A.1, .int .u32 A.2] := HR.out.val 67 (HD.out { on := 67, ground := .data } (by simp) rfl)
          have e1 : U 68 = .agg #[.int .u32 C.1, .int .u32 C.2] := HR.out.val 68 (HD.out { on := 68, ground := .data } (by simp) rfl)
          have HE := Lib.hid (And.intro e0 e1)
          clear e0 e1
          unfold frQ
          go_simp
          refine calls_args (by rw [HE.out.1, HE.out.2]) ((mul_any A.1 A.2 C.1 C.2 W).mono ?_)
          rintro e w' ⟨rfl, hb'⟩
          exact HK.out _ _ ⟨v, upd U 69 (.agg #[.int .u32 (mulW A C).1, .int .u32 (mulW A C).2]), rfl, HR.out.go HL.out rfl hb'⟩
        rcases Nat.eq_or_lt_of_le (Nat.le_of_lt_succ hi) with rfl | hi
        · obtain rfl := op_at hO ho rfl
          have eg : U 58 = .bool true := HR.out.val 58 (HD.out { on := 58, ground := .guard } (by simp) rfl)
          refine wpOp_go ho (wanted_some hO rfl rfl rfl rfl eg) (fun K hK => ?_)
          clear eg
          have HK := Lib.hid hK
          clear hK ho hO
          obtain ⟨c0, c1⟩ := HFW.out.c
          unfold frQ
          go_simp
          exact HK.out _ _ ⟨v, upd U 68 (.agg #[.int .u32 C.1, .int .u32 C.2]), rfl, HR.out.go HL.out rfl (Below.refl _ _)⟩
        rcases Nat.eq_or_lt_of_le (Nat.le_of_lt_succ hi) with rfl | hi
        · obtain rfl := op_at hO ho rfl
          have eg : U 58 = .bool true := HR.out.val 58 (HD.out { on := 58, ground := .guard } (by simp) rfl)
          refine wpOp_go ho (wanted_some hO rfl rfl rfl rfl eg) (fun K hK => ?_)
          clear eg
          have HK := Lib.hid hK
          clear hK ho hO
          obtain ⟨c0, c1⟩ := HFW.out.a
          unfold frQ
          go_simp
          exact HK.out _ _ ⟨v, upd U 67 (.agg #[.int .u32 A.1, .int .u32 A.2]), rfl, HR.out.go HL.out rfl (Below.refl _ _)⟩
        rcases Nat.eq_or_lt_of_le (Nat.le_of_lt_succ hi) with rfl | hi
        · obtain rfl := op_at hO ho rfl
          have eg : U 58 = .bool true := HR.out.val 58 (HD.out { on := 58, ground := .guard } (by simp) rfl)
          refine wpOp_go ho (wanted_some hO rfl rfl rfl rfl eg) (fun K hK => ?_)
          clear eg
          have HK := Lib.hid hK
          clear hK ho hO
          have e0 : U 64 = .agg #[.int .u32 A.1, .int .u32 A.2] := HR.out.val 64 (HD.out { on := 64, ground := .data } (by simp) rfl)
          have e1 : U 65 = .agg #[.int .u32 B.1, .int .u32 B.2] := HR.out.val 65 (HD.out { on := 65, ground := .data } (by simp) rfl)
          have HE := Lib.hid (And.intro e0 e1)
          clear e0 e1
          unfold frQ
          go_simp
          refine calls_args (by rw [HE.out.1, HE.out.2]) ((mul_any A.1 A.2 B.1 B.2 W).mono ?_)
          rintro e w' ⟨rfl, hb'⟩
          exact HK.out _ _ ⟨v, upd U 66 (.agg #[.int .u32 (mulW A B).1, .int .u32 (mulW A B).2]), rfl, HR.out.go HL.out rfl hb'⟩
        rcases Nat.eq_or_lt_of_le (Nat.le_of_lt_succ hi) with rfl | hi
        · obtain rfl := op_at hO ho rfl
          have eg : U 58 = .bool true := HR.out.val 58 (HD.out { on := 58, ground := .guard } (by simp) rfl)
          refine wpOp_go ho (wanted_some hO rfl rfl rfl rfl eg) (fun K hK => ?_)
          clear eg
          have HK := Lib.hid hK
          clear hK ho hO
          obtain ⟨c0, c1⟩ := HFW.out.b
          unfold frQ
          go_simp
          exact HK.out _ _ ⟨v, upd U 65 (.agg #[.int .u32 B.1, .int .u32 B.2]), rfl, HR.out.go HL.out rfl (Below.refl _ _)⟩
        rcases Nat.eq_or_lt_of_le (Nat.le_of_lt_succ hi) with rfl | hi
        · obtain rfl := op_at hO ho rfl
          have eg : U 58 = .bool true := HR.out.val 58 (HD.out { on := 58, ground := .guard } (by simp) rfl)
          refine wpOp_go ho (wanted_some hO rfl rfl rfl rfl eg) (fun K hK => ?_)
          clear eg
          have HK := Lib.hid hK
          clear hK ho hO
          obtain ⟨c0, c1⟩ := HFW.out.a
          unfold frQ
          go_simp
          exact HK.out _ _ ⟨v, upd U 64 (.agg #[.int .u32 A.1, .int .u32 A.2]), rfl, HR.out.go HL.out rfl (Below.refl _ _)⟩
        rcases Nat.eq_or_lt_of_le (Nat.le_of_lt_succ hi) with rfl | hi
        · obtain rfl := op_at hO ho rfl
          have eg : U 58 = .bool true := HR.out.val 58 (HD.out { on := 58, ground := .guard } (by simp) rfl)
          refine wpOp_go ho (wanted_some hO rfl rfl rfl rfl eg) (fun K hK => ?_)
          clear eg
          have HK := Lib.hid hK
          clear hK ho hO
          have e0 : U 59 = .agg #[.int .u32 A.1, .int .u32 A.2] := HR.out.val 59 (HD.out { on := 59, ground := .data } (by simp) rfl)
          have e1 : U 62 = .agg #[.int .u32 (addW B C).1, .int .u32 (addW B C).2] := HR.out.val 62 (HD.out { on := 62, ground := .data } (by simp) rfl)
          have HE := Lib.hid (And.intro e0 e1)
          clear e0 e1
          unfold frQ
          go_simp
          refine calls_args (by rw [HE.out.1, HE.out.2]) ((mul_any A.1 A.2 (addW B C).1 (addW B C).2 W).mono ?_)
          rintro e w' ⟨rfl, hb'⟩
          exact HK.out _ _ ⟨v, upd U 63 (.agg #[.int .u32 (mulW A (addW B C)).1, .int .u32 (mulW A (addW B C)).2]), rfl, HR.out.go HL.out rfl hb'⟩
        rcases Nat.eq_or_lt_of_le (Nat.le_of_lt_succ hi) with rfl | hi
        · obtain rfl := op_at hO ho rfl
          have eg : U 58 = .bool true := HR.out.val 58 (HD.out { on := 58, ground := .guard } (by simp) rfl)
          refine wpOp_go ho (wanted_some hO rfl rfl rfl rfl eg) (fun K hK => ?_)
          clear eg
          have HK := Lib.hid hK
          clear hK ho hO
          have e0 : U 60 = .agg #[.int .u32 B.1, .int .u32 B.2] := HR.out.val 60 (HD.out { on := 60, ground := .data } (by simp) rfl)
          have e1 : U 61 = .agg #[.int .u32 C.1, .int .u32 C.2] := HR.out.val 61 (HD.out { on := 61, ground := .data } (by simp) rfl)
          have HE := Lib.hid (And.intro e0 e1)
          clear e0 e1
          unfold frQ
          go_simp
          refine calls_args (by rw [HE.out.1, HE.out.2]) ((add_any B.1 B.2 C.1 C.2 W).mono ?_)
          rintro e w' ⟨rfl, hb'⟩
          exact HK.out _ _ ⟨v, upd U 62 (.agg #[.int .u32 (addW B C).1, .int .u32 (addW B C).2]), rfl, HR.out.go HL.out rfl hb'⟩
        rcases Nat.eq_or_lt_of_le (Nat.le_of_lt_succ hi) with rfl | hi
        · obtain rfl := op_at hO ho rfl
          have eg : U 58 = .bool true := HR.out.val 58 (HD.out { on := 58, ground := .guard } (by simp) rfl)
          refine wpOp_go ho (wanted_some hO rfl rfl rfl rfl eg) (fun K hK => ?_)
          clear eg
          have HK := Lib.hid hK
          clear hK ho hO
          obtain ⟨c0, c1⟩ := HFW.out.c
          unfold frQ
          go_simp
          exact HK.out _ _ ⟨v, upd U 61 (.agg #[.int .u32 C.1, .int .u32 C.2]), rfl, HR.out.go HL.out rfl (Below.refl _ _)⟩
        rcases Nat.eq_or_lt_of_le (Nat.le_of_lt_succ hi) with rfl | hi
        · obtain rfl := op_at hO ho rfl
          have eg : U 58 = .bool true := HR.out.val 58 (HD.out { on := 58, ground := .guard } (by simp) rfl)
          refine wpOp_go ho (wanted_some hO rfl rfl rfl rfl eg) (fun K hK => ?_)
          clear eg
          have HK := Lib.hid hK
          clear hK ho hO
          obtain ⟨c0, c1⟩ := HFW.out.b
          unfold frQ
          go_simp
          exact HK.out _ _ ⟨v, upd U 60 (.agg #[.int .u32 B.1, .int .u32 B.2]), rfl, HR.out.go HL.out rfl (Below.refl _ _)⟩
        rcases Nat.eq_or_lt_of_le (Nat.le_of_lt_succ hi) with rfl | hi
        · obtain rfl := op_at hO ho rfl
          have eg : U 58 = .bool true := HR.out.val 58 (HD.out { on := 58, ground := .guard } (by simp) rfl)
          refine wpOp_go ho (wanted_some hO rfl rfl rfl rfl eg) (fun K hK => ?_)
          clear eg
          have HK := Lib.hid hK
          clear hK ho hO
          obtain ⟨c0, c1⟩ := HFW.out.a
          unfold frQ
          go_simp
          exact HK.out _ _ ⟨v, upd U 59 (.agg #[.int .u32 A.1, .int .u32 A.2]), rfl, HR.out.go HL.out rfl (Below.refl _ _)⟩
        rcases Nat.eq_or_lt_of_le (Nat.le_of_lt_succ hi) with rfl | hi
        · obtain rfl := op_at hO ho rfl
          refine wpOp_go ho (wanted_none rfl _) (fun K hK => ?_)
          have HK := Lib.hid hK
          clear hK ho hO
          have e0 : U 57 = .bool true := HR.out.val 57 (HD.out { on := 57, ground := .data } (by simp) rfl)
          have HE := Lib.hid e0
          clear e0
          unfold frQ
          go_simp
          exact HK.out _ _ ⟨v, upd U 58 (U 57), rfl, HR.out.go HL.out HE.out (Below.refl _ _)⟩
        rcases Nat.eq_or_lt_of_le (Nat.le_of_lt_succ hi) with rfl | hi
        · obtain rfl := op_at hO ho rfl
          refine wpOp_go ho (wanted_none rfl _) (fun K hK => ?_)
          have HK := Lib.hid hK
          clear hK ho hO
          have e0 : U 45 = .bool true := HR.out.val 45 (HD.out { on := 45, ground := .data } (by simp) rfl)
          have e1 : U 56 = .bool true := HR.out.val 56 (HD.out { on := 56, ground := .data } (by simp) rfl)
          have HE := Lib.hid e1
          clear e1
          unfold frQ
          go_simp
          refine HK.out _ _ ⟨v, upd (upd U 45 (.bool true)) 57 (U 56), rfl, ?_⟩
          rw [upd_self e0]
          exact HR.out.go HL.out HE.out (Below.refl _ _)
        rcases Nat.eq_or_lt_of_le (Nat.le_of_lt_succ hi) with rfl | hi
        · obtain rfl := op_at hO ho rfl
          have eg : U 45 = .bool true := HR.out.val 45 (HD.out { on := 45, ground := .guard } (by simp) rfl)
          refine wpOp_go ho (wanted_some hO rfl rfl rfl rfl eg) (fun K hK => ?_)
          clear eg
          have HK := Lib.hid hK
          clear hK ho hO
          have e0 : U 50 = .agg #[.int .u32 (addW (addW A B) C).1, .int .u32 (addW (addW A B) C).2] := HR.out.val 50 (HD.out { on := 50, ground := .data } (by simp) rfl)
          have e1 : U 55 = .agg #[.int .u32 (addW A (addW B C)).1, .int .u32 (addW A (addW B C)).2] := HR.out.val 55 (HD.out { on := 55, ground := .data } (by simp) rfl)
          have HE := Lib.hid (And.intro e0 e1)
          clear e0 e1
          unfold frQ
          go_simp
          refine calls_args (y := #[.agg #[.int .u32 (addW (addW A B) C).1, .int .u32 (addW (addW A B) C).2], .agg #[.int .u32 (addW A (addW B C)).1, .int .u32 (addW A (addW B C)).2]]) (by rw [HE.out.1, HE.out.2]) ((equal_yes (x := addW (addW A B) C) (y := addW A (addW B C)) Q3.out.1 Q3.out.2 W).mono ?_)
          rintro e w' ⟨rfl, hb'⟩
          exact HK.out _ _ ⟨v, upd U 56 (.bool true), rfl, HR.out.go HL.out rfl hb'⟩
        rcases Nat.eq_or_lt_of_le (Nat.le_of_lt_succ hi) with rfl | hi
        · obtain rfl := op_at hO ho rfl
          have eg : U 45 = .bool true := HR.out.val 45 (HD.out { on := 45, ground := .guard } (by simp) rfl)
          refine wpOp_go ho (wanted_some hO rfl rfl rfl rfl eg) (fun K hK => ?_)
          clear eg
          have HK := Lib.hid hK
          clear hK ho hO
          have e0 : U 51 = .agg #[.int .u32 A.1, .int .u32 A.2] := HR.out.val 51 (HD.out { on := 51, ground := .data } (by simp) rfl)
          have e1 : U 54 = .agg #[.int .u32 (addW B C).1, .int .u32 (addW B C).2] := HR.out.val 54 (HD.out { on := 54, ground := .data } (by simp) rfl)
          have HE := Lib.hid (And.intro e0 e1)
          clear e0 e1
          unfold frQ
          go_simp
          refine calls_args (by rw [HE.out.1, HE.out.2]) ((add_any A.1 A.2 (addW B C).1 (addW B C).2 W).mono ?_)
          rintro e w' ⟨rfl, hb'⟩
          exact HK.out _ _ ⟨v, upd U 55 (.agg #[.int .u32 (addW A (addW B C)).1, .int .u32 (addW A (addW B C)).2]), rfl, HR.out.go HL.out rfl hb'⟩
        rcases Nat.eq_or_lt_of_le (Nat.le_of_lt_succ hi) with rfl | hi
        · obtain rfl := op_at hO ho rfl
          have eg : U 45 = .bool true := HR.out.val 45 (HD.out { on := 45, ground := .guard } (by simp) rfl)
          refine wpOp_go ho (wanted_some hO rfl rfl rfl rfl eg) (fun K hK => ?_)
          clear eg
          have HK := Lib.hid hK
          clear hK ho hO
          have e0 : U 52 = .agg #[.int .u32 B.1, .int .u32 B.2] := HR.out.val 52 (HD.out { on := 52, ground := .data } (by simp) rfl)
          have e1 : U 53 = .agg #[.int .u32 C.1, .int .u32 C.2] := HR.out.val 53 (HD.out { on := 53, ground := .data } (by simp) rfl)
          have HE := Lib.hid (And.intro e0 e1)
          clear e0 e1
          unfold frQ
          go_simp
          refine calls_args (by rw [HE.out.1, HE.out.2]) ((add_any B.1 B.2 C.1 C.2 W).mono ?_)
          rintro e w' ⟨rfl, hb'⟩
          exact HK.out _ _ ⟨v, upd U 54 (.agg #[.int .u32 (addW B C).1, .int .u32 (addW B C).2]), rfl, HR.out.go HL.out rfl hb'⟩
        rcases Nat.eq_or_lt_of_le (Nat.le_of_lt_succ hi) with rfl | hi
        · obtain rfl := op_at hO ho rfl
          have eg : U 45 = .bool true := HR.out.val 45 (HD.out { on := 45, ground := .guard } (by simp) rfl)
          refine wpOp_go ho (wanted_some hO rfl rfl rfl rfl eg) (fun K hK => ?_)
          clear eg
          have HK := Lib.hid hK
          clear hK ho hO
          obtain ⟨c0, c1⟩ := HFW.out.c
          unfold frQ
          go_simp
          exact HK.out _ _ ⟨v, upd U 53 (.agg #[.int .u32 C.1, .int .u32 C.2]), rfl, HR.out.go HL.out rfl (Below.refl _ _)⟩
        rcases Nat.eq_or_lt_of_le (Nat.le_of_lt_succ hi) with rfl | hi
        · obtain rfl := op_at hO ho rfl
          have eg : U 45 = .bool true := HR.out.val 45 (HD.out { on := 45, ground := .guard } (by simp) rfl)
          refine wpOp_go ho (wanted_some hO rfl rfl rfl rfl eg) (fun K hK => ?_)
          clear eg
          have HK := Lib.hid hK
          clear hK ho hO
          obtain ⟨c0, c1⟩ := HFW.out.b
          unfold frQ
          go_simp
          exact HK.out _ _ ⟨v, upd U 52 (.agg #[.int .u32 B.1, .int .u32 B.2]), rfl, HR.out.go HL.out rfl (Below.refl _ _)⟩
        rcases Nat.eq_or_lt_of_le (Nat.le_of_lt_succ hi) with rfl | hi
        · obtain rfl := op_at hO ho rfl
          have eg : U 45 = .bool true := HR.out.val 45 (HD.out { on := 45, ground := .guard } (by simp) rfl)
          refine wpOp_go ho (wanted_some hO rfl rfl rfl rfl eg) (fun K hK => ?_)
          clear eg
          have HK := Lib.hid hK
          clear hK ho hO
          obtain ⟨c0, c1⟩ := HFW.out.a
          unfold frQ
          go_simp
          exact HK.out _ _ ⟨v, upd U 51 (.agg #[.int .u32 A.1, .int .u32 A.2]), rfl, HR.out.go HL.out rfl (Below.refl _ _)⟩
        rcases Nat.eq_or_lt_of_le (Nat.le_of_lt_succ hi) with rfl | hi
        · obtain rfl := op_at hO ho rfl
          have eg : U 45 = .bool true := HR.out.val 45 (HD.out { on := 45, ground := .guard } (by simp) rfl)
          refine wpOp_go ho (wanted_some hO rfl rfl rfl rfl eg) (fun K hK => ?_)
          clear eg
          have HK := Lib.hid hK
          clear hK ho hO
          have e0 : U 48 = .agg #[.int .u32 (addW A B).1, .int .u32 (addW A B).2] := HR.out.val 48 (HD.out { on := 48, ground := .data } (by simp) rfl)
          have e1 : U 49 = .agg #[.int .u32 C.1, .int .u32 C.2] := HR.out.val 49 (HD.out { on := 49, ground := .data } (by simp) rfl)
          have HE := Lib.hid (And.intro e0 e1)
          clear e0 e1
          unfold frQ
          go_simp
          refine calls_args (by rw [HE.out.1, HE.out.2]) ((add_any (addW A B).1 (addW A B).2 C.1 C.2 W).mono ?_)
          rintro e w' ⟨rfl, hb'⟩
          exact HK.out _ _ ⟨v, upd U 50 (.agg #[.int .u32 (addW (addW A B) C).1, .int .u32 (addW (addW A B) C).2]), rfl, HR.out.go HL.out rfl hb'⟩
        rcases Nat.eq_or_lt_of_le (Nat.le_of_lt_succ hi) with rfl | hi
        · obtain rfl := op_at hO ho rfl
          have eg : U 45 = .bool true := HR.out.val 45 (HD.out { on := 45, ground := .guard } (by simp) rfl)
          refine wpOp_go ho (wanted_some hO rfl rfl rfl rfl eg) (fun K hK => ?_)
          clear eg
          have HK := Lib.hid hK
          clear hK ho hO
          obtain ⟨c0, c1⟩ := HFW.out.c
          unfold frQ
          go_simp
          exact HK.out _ _ ⟨v, upd U 49 (.agg #[.int .u32 C.1, .int .u32 C.2]), rfl, HR.out.go HL.out rfl (Below.refl _ _)⟩
        rcases Nat.eq_or_lt_of_le (Nat.le_of_lt_succ hi) with rfl | hi
        · obtain rfl := op_at hO ho rfl
          have eg : U 45 = .bool true := HR.out.val 45 (HD.out { on := 45, ground := .guard } (by simp) rfl)
          refine wpOp_go ho (wanted_some hO rfl rfl rfl rfl eg) (fun K hK => ?_)
          clear eg
          have HK := Lib.hid hK
          clear hK ho hO
          have e0 : U 46 = .agg #[.int .u32 A.1, .int .u32 A.2] := HR.out.val 46 (HD.out { on := 46, ground := .data } (by simp) rfl)
          have e1 : U 47 = .agg #[.int .u32 B.1, .int .u32 B.2] := HR.out.val 47 (HD.out { on := 47, ground := .data } (by simp) rfl)
          have HE := Lib.hid (And.intro e0 e1)
          clear e0 e1
          unfold frQ
          go_simp
          refine calls_args (by rw [HE.out.1, HE.out.2]) ((add_any A.1 A.2 B.1 B.2 W).mono ?_)
          rintro e w' ⟨rfl, hb'⟩
          exact HK.out _ _ ⟨v, upd U 48 (.agg #[.int .u32 (addW A B).1, .int .u32 (addW A B).2]), rfl, HR.out.go HL.out rfl hb'⟩
        rcases Nat.eq_or_lt_of_le (Nat.le_of_lt_succ hi) with rfl | hi
        · obtain rfl := op_at hO ho rfl
          have eg : U 45 = .bool true := HR.out.val 45 (HD.out { on := 45, ground := .guard } (by simp) rfl)
          refine wpOp_go ho (wanted_some hO rfl rfl rfl rfl eg) (fun K hK => ?_)
          clear eg
          have HK := Lib.hid hK
          clear hK ho hO
          obtain ⟨c0, c1⟩ := HFW.out.b
          unfold frQ
          go_simp
          exact HK.out _ _ ⟨v, upd U 47 (.agg #[.int .u32 B.1, .int .u32 B.2]), rfl, HR.out.go HL.out rfl (Below.refl _ _)⟩
        rcases Nat.eq_or_lt_of_le (Nat.le_of_lt_succ hi) with rfl | hi
        · obtain rfl := op_at hO ho rfl
          have eg : U 45 = .bool true := HR.out.val 45 (HD.out { on := 45, ground := .guard } (by simp) rfl)
          refine wpOp_go ho (wanted_some hO rfl rfl rfl rfl eg) (fun K hK => ?_)
          clear eg
          have HK := Lib.hid hK
          clear hK ho hO
          obtain ⟨c0, c1⟩ := HFW.out.a
          unfold frQ
          go_simp
          exact HK.out _ _ ⟨v, upd U 46 (.agg #[.int .u32 A.1, .int .u32 A.2]), rfl, HR.out.go HL.out rfl (Below.refl _ _)⟩
        rcases Nat.eq_or_lt_of_le (Nat.le_of_lt_succ hi) with rfl | hi
        · obtain rfl := op_at hO ho rfl
          refine wpOp_go ho (wanted_none rfl _) (fun K hK => ?_)
          have HK := Lib.hid hK
          clear hK ho hO
          have e0 : U 44 = .bool true := HR.out.val 44 (HD.out { on := 44, ground := .data } (by simp) rfl)
          have HE := Lib.hid e0
          clear e0
          unfold frQ
          go_simp
          exact HK.out _ _ ⟨v, upd U 45 (U 44), rfl, HR.out.go HL.out HE.out (Below.refl _ _)⟩
        rcases Nat.eq_or_lt_of_le (Nat.le_of_lt_succ hi) with rfl | hi
        · obtain rfl := op_at hO ho rfl
          refine wpOp_go ho (wanted_none rfl _) (fun K hK => ?_)
          have HK := Lib.hid hK
          clear hK ho hO
          have e0 : U 24 = .bool true := HR.out.val 24 (HD.out { on := 24, ground := .data } (by simp) rfl)
          have e1 : U 43 = .bool true := HR.out.val 43 (HD.out { on := 43, ground := .data } (by simp) rfl)
          have HE := Lib.hid e1
          clear e1
          unfold frQ
          go_simp
          refine HK.out _ _ ⟨v, upd (upd U 24 (.bool true)) 44 (U 43), rfl, ?_⟩
          rw [upd_self e0]
          exact HR.out.go HL.out HE.out (Below.refl _ _)
        rcases Nat.eq_or_lt_of_le (Nat.le_of_lt_succ hi) with rfl | hi
        · obtain rfl := op_at hO ho rfl
          have eg : U 24 = .bool true := HR.out.val 24 (HD.out { on := 24, ground := .guard } (by simp) rfl)
          refine wpOp_go ho (wanted_some hO rfl rfl rfl rfl eg) (fun K hK => ?_)
          clear eg
          have HK := Lib.hid hK
          clear hK ho hO
          have e0 : U 27 = .agg #[.int .u32 (mulW A B).1, .int .u32 (mulW A B).2] := HR.out.val 27 (HD.out { on := 27, ground := .data } (by simp) rfl)
          have e1 : U 42 = .agg #[.int .u32 ((wd (PR - QS), wd (PS + QR))).1, .int .u32 ((wd (PR - QS), wd (PS + QR))).2] := HR.out.val 42 (HD.out { on := 42, ground := .data } (by simp) rfl)
          have HE := Lib.hid (And.intro e0 e1)
          clear e0 e1
          unfold frQ
          go_simp
          refine calls_args (y := #[.agg #[.int .u32 (mulW A B).1, .int .u32 (mulW A B).2], .agg #[.int .u32 ((wd (PR - QS), wd (PS + QR))).1, .int .u32 ((wd (PR - QS), wd (PS + QR))).2]]) (by rw [HE.out.1, HE.out.2]) ((equal_yes (x := mulW A B) (y := (wd (PR - QS), wd (PS + QR))) Q1.out (rp_wd _ _ (by have := I.out; omega) (by have := I.out; omega)) W).mono ?_)
          rintro e w' ⟨rfl, hb'⟩
          exact HK.out _ _ ⟨v, upd U 43 (.bool true), rfl, HR.out.go HL.out rfl hb'⟩
        rcases Nat.eq_or_lt_of_le (Nat.le_of_lt_succ hi) with rfl | hi
        · obtain rfl := op_at hO ho rfl
          have eg : U 24 = .bool true := HR.out.val 24 (HD.out { on := 24, ground := .guard } (by simp) rfl)
          refine wpOp_go ho (wanted_some hO rfl rfl rfl rfl eg) (fun K hK => ?_)
          clear eg
          have HK := Lib.hid hK
          clear hK ho hO
          have e0 : U 34 = .int .i64 (PR - QS) := HR.out.val 34 (HD.out { on := 34, ground := .data } (by simp) rfl)
          have e1 : U 41 = .int .i64 (PS + QR) := HR.out.val 41 (HD.out { on := 41, ground := .data } (by simp) rfl)
          have HE := Lib.hid (And.intro e0 e1)
          clear e0 e1
          unfold frQ
          go_simp
          refine calls_args (by rw [HE.out.1, HE.out.2]) ((of_int (PR - QS) (PS + QR) W).mono ?_)
          rintro e w' ⟨rfl, hb'⟩
          exact HK.out _ _ ⟨v, upd U 42 (.agg #[.int .u32 ((wd (PR - QS), wd (PS + QR))).1, .int .u32 ((wd (PR - QS), wd (PS + QR))).2]), rfl, HR.out.go HL.out rfl hb'⟩
        rcases Nat.eq_or_lt_of_le (Nat.le_of_lt_succ hi) with rfl | hi
        · obtain rfl := op_at hO ho rfl
          have eg : U 24 = .bool true := HR.out.val 24 (HD.out { on := 24, ground := .guard } (by simp) rfl)
          refine wpOp_go ho (wanted_some hO rfl rfl rfl rfl eg) (fun K hK => ?_)
          clear eg
          have HK := Lib.hid hK
          clear hK ho hO
          have e0 : U 37 = .int .i64 (PS) := HR.out.val 37 (HD.out { on := 37, ground := .data } (by simp) rfl)
          have e1 : U 40 = .int .i64 (QR) := HR.out.val 40 (HD.out { on := 40, ground := .data } (by simp) rfl)
          unfold frQ
          go_simp
          refine HK.out _ _ ⟨v, upd (upd (upd U 37 (.int .i64 (PS))) 40 (.int .i64 (QR))) 41 (.int .i64 (PS + QR)), rfl, ?_⟩
          rw [upd_self e0, upd_self e1]
          exact HR.out.go HL.out rfl (Below.refl _ _)
        rcases Nat.eq_or_lt_of_le (Nat.le_of_lt_succ hi) with rfl | hi
        · obtain rfl := op_at hO ho rfl
          have eg : U 24 = .bool true := HR.out.val 24 (HD.out { on := 24, ground := .guard } (by simp) rfl)
          refine wpOp_go ho (wanted_some hO rfl rfl rfl rfl eg) (fun K hK => ?_)
          clear eg
          have HK := Lib.hid hK
          clear hK ho hO
          have e0 : U 38 = .int .i64 (Q) := HR.out.val 38 (HD.out { on := 38, ground := .data } (by simp) rfl)
          have e1 : U 39 = .int .i64 (R) := HR.out.val 39 (HD.out { on := 39, ground := .data } (by simp) rfl)
          unfold frQ
          go_simp
          refine HK.out _ _ ⟨v, upd (upd (upd U 38 (.int .i64 (Q))) 39 (.int .i64 (R))) 40 (.int .i64 (QR)), rfl, ?_⟩
          rw [upd_self e0, upd_self e1]
          exact HR.out.go HL.out rfl (Below.refl _ _)
        rcases Nat.eq_or_lt_of_le (Nat.le_of_lt_succ hi) with rfl | hi
        · obtain rfl := op_at hO ho rfl
          have eg : U 24 = .bool true := HR.out.val 24 (HD.out { on := 24, ground := .guard } (by simp) rfl)
          refine wpOp_go ho (wanted_some hO rfl rfl rfl rfl eg) (fun K hK => ?_)
          clear eg
          have HK := Lib.hid hK
          clear hK ho hO
          unfold frQ
          go_simp
          exact HK.out _ _ ⟨v, upd U 39 (.int .i64 (R)), rfl, HR.out.go HL.out rfl (Below.refl _ _)⟩
        rcases Nat.eq_or_lt_of_le (Nat.le_of_lt_succ hi) with rfl | hi
        · obtain rfl := op_at hO ho rfl
          have eg : U 24 = .bool true := HR.out.val 24 (HD.out { on := 24, ground := .guard } (by simp) rfl)
          refine wpOp_go ho (wanted_some hO rfl rfl rfl rfl eg) (fun K hK => ?_)
          clear eg
          have HK := Lib.hid hK
          clear hK ho hO
          unfold frQ
          go_simp
          exact HK.out _ _ ⟨v, upd U 38 (.int .i64 (Q)), rfl, HR.out.go HL.out rfl (Below.refl _ _)⟩
        rcases Nat.eq_or_lt_of_le (Nat.le_of_lt_succ hi) with rfl | hi
        · obtain rfl := op_at hO ho rfl
          have eg : U 24 = .bool true := HR.out.val 24 (HD.out { on := 24, ground := .guard } (by simp) rfl)
          refine wpOp_go ho (wanted_some hO rfl rfl rfl rfl eg) (fun K hK => ?_)
          clear eg
          have HK := Lib.hid hK
          clear hK ho hO
          have e0 : U 35 = .int .i64 (P) := HR.out.val 35 (HD.out { on := 35, ground := .data } (by simp) rfl)
          have e1 : U 36 = .int .i64 (S) := HR.out.val 36 (HD.out { on := 36, ground := .data } (by simp) rfl)
          unfold frQ
          go_simp
          refine HK.out _ _ ⟨v, upd (upd (upd U 35 (.int .i64 (P))) 36 (.int .i64 (S))) 37 (.int .i64 (PS)), rfl, ?_⟩
          rw [upd_self e0, upd_self e1]
          exact HR.out.go HL.out rfl (Below.refl _ _)
        rcases Nat.eq_or_lt_of_le (Nat.le_of_lt_succ hi) with rfl | hi
        · obtain rfl := op_at hO ho rfl
          have eg : U 24 = .bool true := HR.out.val 24 (HD.out { on := 24, ground := .guard } (by simp) rfl)
          refine wpOp_go ho (wanted_some hO rfl rfl rfl rfl eg) (fun K hK => ?_)
          clear eg
          have HK := Lib.hid hK
          clear hK ho hO
          unfold frQ
          go_simp
          exact HK.out _ _ ⟨v, upd U 36 (.int .i64 (S)), rfl, HR.out.go HL.out rfl (Below.refl _ _)⟩
        rcases Nat.eq_or_lt_of_le (Nat.le_of_lt_succ hi) with rfl | hi
        · obtain rfl := op_at hO ho rfl
          have eg : U 24 = .bool true := HR.out.val 24 (HD.out { on := 24, ground := .guard } (by simp) rfl)
          refine wpOp_go ho (wanted_some hO rfl rfl rfl rfl eg) (fun K hK => ?_)
          clear eg
          have HK := Lib.hid hK
          clear hK ho hO
          unfold frQ
          go_simp
          exact HK.out _ _ ⟨v, upd U 35 (.int .i64 (P)), rfl, HR.out.go HL.out rfl (Below.refl _ _)⟩
        rcases Nat.eq_or_lt_of_le (Nat.le_of_lt_succ hi) with rfl | hi
        · obtain rfl := op_at hO ho rfl
          have eg : U 24 = .bool true := HR.out.val 24 (HD.out { on := 24, ground := .guard } (by simp) rfl)
          refine wpOp_go ho (wanted_some hO rfl rfl rfl rfl eg) (fun K hK => ?_)
          clear eg
          have HK := Lib.hid hK
          clear hK ho hO
          have e0 : U 30 = .int .i64 (PR) := HR.out.val 30 (HD.out { on := 30, ground := .data } (by simp) rfl)
          have e1 : U 33 = .int .i64 (QS) := HR.out.val 33 (HD.out { on := 33, ground := .data } (by simp) rfl)
          unfold frQ
          go_simp
          refine HK.out _ _ ⟨v, upd (upd (upd U 30 (.int .i64 (PR))) 33 (.int .i64 (QS))) 34 (.int .i64 (PR - QS)), rfl, ?_⟩
          rw [upd_self e0, upd_self e1]
          exact HR.out.go HL.out rfl (Below.refl _ _)
        rcases Nat.eq_or_lt_of_le (Nat.le_of_lt_succ hi) with rfl | hi
        · obtain rfl := op_at hO ho rfl
          have eg : U 24 = .bool true := HR.out.val 24 (HD.out { on := 24, ground := .guard } (by simp) rfl)
          refine wpOp_go ho (wanted_some hO rfl rfl rfl rfl eg) (fun K hK => ?_)
          clear eg
          have HK := Lib.hid hK
          clear hK ho hO
          have e0 : U 31 = .int .i64 (Q) := HR.out.val 31 (HD.out { on := 31, ground := .data } (by simp) rfl)
          have e1 : U 32 = .int .i64 (S) := HR.out.val 32 (HD.out { on := 32, ground := .data } (by simp) rfl)
          unfold frQ
          go_simp
          refine HK.out _ _ ⟨v, upd (upd (upd U 31 (.int .i64 (Q))) 32 (.int .i64 (S))) 33 (.int .i64 (QS)), rfl, ?_⟩
          rw [upd_self e0, upd_self e1]
          exact HR.out.go HL.out rfl (Below.refl _ _)
        rcases Nat.eq_or_lt_of_le (Nat.le_of_lt_succ hi) with rfl | hi
        · obtain rfl := op_at hO ho rfl
          have eg : U 24 = .bool true := HR.out.val 24 (HD.out { on := 24, ground := .guard } (by simp) rfl)
          refine wpOp_go ho (wanted_some hO rfl rfl rfl rfl eg) (fun K hK => ?_)
          clear eg
          have HK := Lib.hid hK
          clear hK ho hO
          unfold frQ
          go_simp
          exact HK.out _ _ ⟨v, upd U 32 (.int .i64 (S)), rfl, HR.out.go HL.out rfl (Below.refl _ _)⟩
        rcases Nat.eq_or_lt_of_le (Nat.le_of_lt_succ hi) with rfl | hi
        · obtain rfl := op_at hO ho rfl
          have eg : U 24 = .bool true := HR.out.val 24 (HD.out { on := 24, ground := .guard } (by simp) rfl)
          refine wpOp_go ho (wanted_some hO rfl rfl rfl rfl eg) (fun K hK => ?_)
          clear eg
          have HK := Lib.hid hK
          clear hK ho hO
          unfold frQ
          go_simp
          exact HK.out _ _ ⟨v, upd U 31 (.int .i64 (Q)), rfl, HR.out.go HL.out rfl (Below.refl _ _)⟩
        rcases Nat.eq_or_lt_of_le (Nat.le_of_lt_succ hi) with rfl | hi
        · obtain rfl := op_at hO ho rfl
          have eg : U 24 = .bool true := HR.out.val 24 (HD.out { on := 24, ground := .guard } (by simp) rfl)
          refine wpOp_go ho (wanted_some hO rfl rfl rfl rfl eg) (fun K hK => ?_)
          clear eg
          have HK := Lib.hid hK
          clear hK ho hO
          have e0 : U 28 = .int .i64 (P) := HR.out.val 28 (HD.out { on := 28, ground := .data } (by simp) rfl)
          have e1 : U 29 = .int .i64 (R) := HR.out.val 29 (HD.out { on := 29, ground := .data } (by simp) rfl)
          unfold frQ
          go_simp
          refine HK.out _ _ ⟨v, upd (upd (upd U 28 (.int .i64 (P))) 29 (.int .i64 (R))) 30 (.int .i64 (PR)), rfl, ?_⟩
          rw [upd_self e0, upd_self e1]
          exact HR.out.go HL.out rfl (Below.refl _ _)
        rcases Nat.eq_or_lt_of_le (Nat.le_of_lt_succ hi) with rfl | hi
        · obtain rfl := op_at hO ho rfl
          have eg : U 24 = .bool true := HR.out.val 24 (HD.out { on := 24, ground := .guard } (by simp) rfl)
          refine wpOp_go ho (wanted_some hO rfl rfl rfl rfl eg) (fun K hK => ?_)
          clear eg
          have HK := Lib.hid hK
          clear hK ho hO
          unfold frQ
          go_simp
          exact HK.out _ _ ⟨v, upd U 29 (.int .i64 (R)), rfl, HR.out.go HL.out rfl (Below.refl _ _)⟩
        rcases Nat.eq_or_lt_of_le (Nat.le_of_lt_succ hi) with rfl | hi
        · obtain rfl := op_at hO ho rfl
          have eg : U 24 = .bool true := HR.out.val 24 (HD.out { on := 24, ground := .guard } (by simp) rfl)
          refine wpOp_go ho (wanted_some hO rfl rfl rfl rfl eg) (fun K hK => ?_)
          clear eg
          have HK := Lib.hid hK
          clear hK ho hO
          unfold frQ
          go_simp
          exact HK.out _ _ ⟨v, upd U 28 (.int .i64 (P)), rfl, HR.out.go HL.out rfl (Below.refl _ _)⟩
        rcases Nat.eq_or_lt_of_le (Nat.le_of_lt_succ hi) with rfl | hi
        · obtain rfl := op_at hO ho rfl
          have eg : U 24 = .bool true := HR.out.val 24 (HD.out { on := 24, ground := .guard } (by simp) rfl)
          refine wpOp_go ho (wanted_some hO rfl rfl rfl rfl eg) (fun K hK => ?_)
          clear eg
          have HK := Lib.hid hK
          clear hK ho hO
          have e0 : U 25 = .agg #[.int .u32 A.1, .int .u32 A.2] := HR.out.val 25 (HD.out { on := 25, ground := .data } (by simp) rfl)
          have e1 : U 26 = .agg #[.int .u32 B.1, .int .u32 B.2] := HR.out.val 26 (HD.out { on := 26, ground := .data } (by simp) rfl)
          have HE := Lib.hid (And.intro e0 e1)
          clear e0 e1
          unfold frQ
          go_simp
          refine calls_args (by rw [HE.out.1, HE.out.2]) ((mul_any A.1 A.2 B.1 B.2 W).mono ?_)
          rintro e w' ⟨rfl, hb'⟩
          exact HK.out _ _ ⟨v, upd U 27 (.agg #[.int .u32 (mulW A B).1, .int .u32 (mulW A B).2]), rfl, HR.out.go HL.out rfl hb'⟩
        rcases Nat.eq_or_lt_of_le (Nat.le_of_lt_succ hi) with rfl | hi
        · obtain rfl := op_at hO ho rfl
          have eg : U 24 = .bool true := HR.out.val 24 (HD.out { on := 24, ground := .guard } (by simp) rfl)
          refine wpOp_go ho (wanted_some hO rfl rfl rfl rfl eg) (fun K hK => ?_)
          clear eg
          have HK := Lib.hid hK
          clear hK ho hO
          obtain ⟨c0, c1⟩ := HFW.out.b
          unfold frQ
          go_simp
          exact HK.out _ _ ⟨v, upd U 26 (.agg #[.int .u32 B.1, .int .u32 B.2]), rfl, HR.out.go HL.out rfl (Below.refl _ _)⟩
        rcases Nat.eq_or_lt_of_le (Nat.le_of_lt_succ hi) with rfl | hi
        · obtain rfl := op_at hO ho rfl
          have eg : U 24 = .bool true := HR.out.val 24 (HD.out { on := 24, ground := .guard } (by simp) rfl)
          refine wpOp_go ho (wanted_some hO rfl rfl rfl rfl eg) (fun K hK => ?_)
          clear eg
          have HK := Lib.hid hK
          clear hK ho hO
          obtain ⟨c0, c1⟩ := HFW.out.a
          unfold frQ
          go_simp
          exact HK.out _ _ ⟨v, upd U 25 (.agg #[.int .u32 A.1, .int .u32 A.2]), rfl, HR.out.go HL.out rfl (Below.refl _ _)⟩
        rcases Nat.eq_or_lt_of_le (Nat.le_of_lt_succ hi) with rfl | hi
        · obtain rfl := op_at hO ho rfl
          refine wpOp_go ho (wanted_none rfl _) (fun K hK => ?_)
          have HK := Lib.hid hK
          clear hK ho hO
          have e0 : U 23 = .bool true := HR.out.val 23 (HD.out { on := 23, ground := .data } (by simp) rfl)
          have HE := Lib.hid e0
          clear e0
          unfold frQ
          go_simp
          exact HK.out _ _ ⟨v, upd U 24 (U 23), rfl, HR.out.go HL.out HE.out (Below.refl _ _)⟩
        rcases Nat.eq_or_lt_of_le (Nat.le_of_lt_succ hi) with rfl | hi
        · obtain rfl := op_at hO ho rfl
          refine wpOp_go ho (wanted_none rfl _) (fun K hK => ?_)
          have HK := Lib.hid hK
          clear hK ho hO
          have e0 : U 11 = .bool true := HR.out.val 11 (HD.out { on := 11, ground := .data } (by simp) rfl)
          have e1 : U 22 = .bool true := HR.out.val 22 (HD.out { on := 22, ground := .data } (by simp) rfl)
          have HE := Lib.hid e1
          clear e1
          unfold frQ
          go_simp
          refine HK.out _ _ ⟨v, upd (upd U 11 (.bool true)) 23 (U 22), rfl, ?_⟩
          rw [upd_self e0]
          exact HR.out.go HL.out HE.out (Below.refl _ _)
        rcases Nat.eq_or_lt_of_le (Nat.le_of_lt_succ hi) with rfl | hi
        · obtain rfl := op_at hO ho rfl
          have eg : U 11 = .bool true := HR.out.val 11 (HD.out { on := 11, ground := .guard } (by simp) rfl)
          refine wpOp_go ho (wanted_some hO rfl rfl rfl rfl eg) (fun K hK => ?_)
          clear eg
          have HK := Lib.hid hK
          clear hK ho hO
          have e0 : U 14 = .agg #[.int .u32 (subW A B).1, .int .u32 (subW A B).2] := HR.out.val 14 (HD.out { on := 14, ground := .data } (by simp) rfl)
          have e1 : U 21 = .agg #[.int .u32 ((wd (P - R), wd (Q - S))).1, .int .u32 ((wd (P - R), wd (Q - S))).2] := HR.out.val 21 (HD.out { on := 21, ground := .data } (by simp) rfl)
          have HE := Lib.hid (And.intro e0 e1)
          clear e0 e1
          unfold frQ
          go_simp
          refine calls_args (y := #[.agg #[.int .u32 (subW A B).1, .int .u32 (subW A B).2], .agg #[.int .u32 ((wd (P - R), wd (Q - S))).1, .int .u32 ((wd (P - R), wd (Q - S))).2]]) (by rw [HE.out.1, HE.out.2]) ((equal_yes (x := subW A B) (y := (wd (P - R), wd (Q - S))) Q0.out.sub (rp_wd _ _ (by have := BP.out; omega) (by have := BP.out; omega)) W).mono ?_)
          rintro e w' ⟨rfl, hb'⟩
          exact HK.out _ _ ⟨v, upd U 22 (.bool true), rfl, HR.out.go HL.out rfl hb'⟩
        rcases Nat.eq_or_lt_of_le (Nat.le_of_lt_succ hi) with rfl | hi
        · obtain rfl := op_at hO ho rfl
          have eg : U 11 = .bool true := HR.out.val 11 (HD.out { on := 11, ground := .guard } (by simp) rfl)
          refine wpOp_go ho (wanted_some hO rfl rfl rfl rfl eg) (fun K hK => ?_)
          clear eg
          have HK := Lib.hid hK
          clear hK ho hO
          have e0 : U 17 = .int .i64 (P - R) := HR.out.val 17 (HD.out { on := 17, ground := .data } (by simp) rfl)
          have e1 : U 20 = .int .i64 (Q - S) := HR.out.val 20 (HD.out { on := 20, ground := .data } (by simp) rfl)
          have HE := Lib.hid (And.intro e0 e1)
          clear e0 e1
          unfold frQ
          go_simp
          refine calls_args (by rw [HE.out.1, HE.out.2]) ((of_int (P - R) (Q - S) W).mono ?_)
          rintro e w' ⟨rfl, hb'⟩
          exact HK.out _ _ ⟨v, upd U 21 (.agg #[.int .u32 ((wd (P - R), wd (Q - S))).1, .int .u32 ((wd (P - R), wd (Q - S))).2]), rfl, HR.out.go HL.out rfl hb'⟩
        rcases Nat.eq_or_lt_of_le (Nat.le_of_lt_succ hi) with rfl | hi
        · obtain rfl := op_at hO ho rfl
          have eg : U 11 = .bool true := HR.out.val 11 (HD.out { on := 11, ground := .guard } (by simp) rfl)
          refine wpOp_go ho (wanted_some hO rfl rfl rfl rfl eg) (fun K hK => ?_)
          clear eg
          have HK := Lib.hid hK
          clear hK ho hO
          have e0 : U 18 = .int .i64 (Q) := HR.out.val 18 (HD.out { on := 18, ground := .data } (by simp) rfl)
          have e1 : U 19 = .int .i64 (S) := HR.out.val 19 (HD.out { on := 19, ground := .data } (by simp) rfl)
          unfold frQ
          go_simp
          refine HK.out _ _ ⟨v, upd (upd (upd U 18 (.int .i64 (Q))) 19 (.int .i64 (S))) 20 (.int .i64 (Q - S)), rfl, ?_⟩
          rw [upd_self e0, upd_self e1]
          exact HR.out.go HL.out rfl (Below.refl _ _)
        rcases Nat.eq_or_lt_of_le (Nat.le_of_lt_succ hi) with rfl | hi
        · obtain rfl := op_at hO ho rfl
          have eg : U 11 = .bool true := HR.out.val 11 (HD.out { on := 11, ground := .guard } (by simp) rfl)
          refine wpOp_go ho (wanted_some hO rfl rfl rfl rfl eg) (fun K hK => ?_)
          clear eg
          have HK := Lib.hid hK
          clear hK ho hO
          unfold frQ
          go_simp
          exact HK.out _ _ ⟨v, upd U 19 (.int .i64 (S)), rfl, HR.out.go HL.out rfl (Below.refl _ _)⟩
        rcases Nat.eq_or_lt_of_le (Nat.le_of_lt_succ hi) with rfl | hi
        · obtain rfl := op_at hO ho rfl
          have eg : U 11 = .bool true := HR.out.val 11 (HD.out { on := 11, ground := .guard } (by simp) rfl)
          refine wpOp_go ho (wanted_some hO rfl rfl rfl rfl eg) (fun K hK => ?_)
          clear eg
          have HK := Lib.hid hK
          clear hK ho hO
          unfold frQ
          go_simp
          exact HK.out _ _ ⟨v, upd U 18 (.int .i64 (Q)), rfl, HR.out.go HL.out rfl (Below.refl _ _)⟩
        rcases Nat.eq_or_lt_of_le (Nat.le_of_lt_succ hi) with rfl | hi
        · obtain rfl := op_at hO ho rfl
          have eg : U 11 = .bool true := HR.out.val 11 (HD.out { on := 11, ground := .guard } (by simp) rfl)
          refine wpOp_go ho (wanted_some hO rfl rfl rfl rfl eg) (fun K hK => ?_)
          clear eg
          have HK := Lib.hid hK
          clear hK ho hO
          have e0 : U 15 = .int .i64 (P) := HR.out.val 15 (HD.out { on := 15, ground := .data } (by simp) rfl)
          have e1 : U 16 = .int .i64 (R) := HR.out.val 16 (HD.out { on := 16, ground := .data } (by simp) rfl)
          unfold frQ
          go_simp
          refine HK.out _ _ ⟨v, upd (upd (upd U 15 (.int .i64 (P))) 16 (.int .i64 (R))) 17 (.int .i64 (P - R)), rfl, ?_⟩
          rw [upd_self e0, upd_self e1]
          exact HR.out.go HL.out rfl (Below.refl _ _)
        rcases Nat.eq_or_lt_of_le (Nat.le_of_lt_succ hi) with rfl | hi
        · obtain rfl := op_at hO ho rfl
          have eg : U 11 = .bool true := HR.out.val 11 (HD.out { on := 11, ground := .guard } (by simp) rfl)
          refine wpOp_go ho (wanted_some hO rfl rfl rfl rfl eg) (fun K hK => ?_)
          clear eg
          have HK := Lib.hid hK
          clear hK ho hO
          unfold frQ
          go_simp
          exact HK.out _ _ ⟨v, upd U 16 (.int .i64 (R)), rfl, HR.out.go HL.out rfl (Below.refl _ _)⟩
        rcases Nat.eq_or_lt_of_le (Nat.le_of_lt_succ hi) with rfl | hi
        · obtain rfl := op_at hO ho rfl
          have eg : U 11 = .bool true := HR.out.val 11 (HD.out { on := 11, ground := .guard } (by simp) rfl)
          refine wpOp_go ho (wanted_some hO rfl rfl rfl rfl eg) (fun K hK => ?_)
          clear eg
          have HK := Lib.hid hK
          clear hK ho hO
          unfold frQ
          go_simp
          exact HK.out _ _ ⟨v, upd U 15 (.int .i64 (P)), rfl, HR.out.go HL.out rfl (Below.refl _ _)⟩
        rcases Nat.eq_or_lt_of_le (Nat.le_of_lt_succ hi) with rfl | hi
        · obtain rfl := op_at hO ho rfl
          have eg : U 11 = .bool true := HR.out.val 11 (HD.out { on := 11, ground := .guard } (by simp) rfl)
          refine wpOp_go ho (wanted_some hO rfl rfl rfl rfl eg) (fun K hK => ?_)
          clear eg
          have HK := Lib.hid hK
          clear hK ho hO
          have e0 : U 12 = .agg #[.int .u32 A.1, .int .u32 A.2] := HR.out.val 12 (HD.out { on := 12, ground := .data } (by simp) rfl)
          have e1 : U 13 = .agg #[.int .u32 B.1, .int .u32 B.2] := HR.out.val 13 (HD.out { on := 13, ground := .data } (by simp) rfl)
          have HE := Lib.hid (And.intro e0 e1)
          clear e0 e1
          unfold frQ
          go_simp
          refine calls_args (by rw [HE.out.1, HE.out.2]) ((sub_any A.1 A.2 B.1 B.2 W).mono ?_)
          rintro e w' ⟨rfl, hb'⟩
          exact HK.out _ _ ⟨v, upd U 14 (.agg #[.int .u32 (subW A B).1, .int .u32 (subW A B).2]), rfl, HR.out.go HL.out rfl hb'⟩
        rcases Nat.eq_or_lt_of_le (Nat.le_of_lt_succ hi) with rfl | hi
        · obtain rfl := op_at hO ho rfl
          have eg : U 11 = .bool true := HR.out.val 11 (HD.out { on := 11, ground := .guard } (by simp) rfl)
          refine wpOp_go ho (wanted_some hO rfl rfl rfl rfl eg) (fun K hK => ?_)
          clear eg
          have HK := Lib.hid hK
          clear hK ho hO
          obtain ⟨c0, c1⟩ := HFW.out.b
          unfold frQ
          go_simp
          exact HK.out _ _ ⟨v, upd U 13 (.agg #[.int .u32 B.1, .int .u32 B.2]), rfl, HR.out.go HL.out rfl (Below.refl _ _)⟩
        rcases Nat.eq_or_lt_of_le (Nat.le_of_lt_succ hi) with rfl | hi
        · obtain rfl := op_at hO ho rfl
          have eg : U 11 = .bool true := HR.out.val 11 (HD.out { on := 11, ground := .guard } (by simp) rfl)
          refine wpOp_go ho (wanted_some hO rfl rfl rfl rfl eg) (fun K hK => ?_)
          clear eg
          have HK := Lib.hid hK
          clear hK ho hO
          obtain ⟨c0, c1⟩ := HFW.out.a
          unfold frQ
          go_simp
          exact HK.out _ _ ⟨v, upd U 12 (.agg #[.int .u32 A.1, .int .u32 A.2]), rfl, HR.out.go HL.out rfl (Below.refl _ _)⟩
        rcases Nat.eq_or_lt_of_le (Nat.le_of_lt_succ hi) with rfl | hi
        · obtain rfl := op_at hO ho rfl
          refine wpOp_go ho (wanted_none rfl _) (fun K hK => ?_)
          have HK := Lib.hid hK
          clear hK ho hO
          have e0 : U 10 = .bool true := HR.out.val 10 (HD.out { on := 10, ground := .data } (by simp) rfl)
          have HE := Lib.hid e0
          clear e0
          unfold frQ
          go_simp
          exact HK.out _ _ ⟨v, upd U 11 (U 10), rfl, HR.out.go HL.out HE.out (Below.refl _ _)⟩
        rcases Nat.eq_or_lt_of_le (Nat.le_of_lt_succ hi) with rfl | hi
        · obtain rfl := op_at hO ho rfl
          refine wpOp_go ho (wanted_none rfl _) (fun K hK => ?_)
          have HK := Lib.hid hK
          clear hK ho hO
          have e0 : U 2 = .agg #[.int .u32 (addW A B).1, .int .u32 (addW A B).2] := HR.out.val 2 (HD.out { on := 2, ground := .data } (by simp) rfl)
          have e1 : U 9 = .agg #[.int .u32 ((wd (P + R), wd (Q + S))).1, .int .u32 ((wd (P + R), wd (Q + S))).2] := HR.out.val 9 (HD.out { on := 9, ground := .data } (by simp) rfl)
          have HE := Lib.hid (And.intro e0 e1)
          clear e0 e1
          unfold frQ
          go_simp
          refine calls_args (y := #[.agg #[.int .u32 (addW A B).1, .int .u32 (addW A B).2], .agg #[.int .u32 ((wd (P + R), wd (Q + S))).1, .int .u32 ((wd (P + R), wd (Q + S))).2]]) (by rw [HE.out.1, HE.out.2]) ((equal_yes (x := addW A B) (y := (wd (P + R), wd (Q + S))) Q0.out.add (rp_wd _ _ (by have := BP.out; omega) (by have := BP.out; omega)) W).mono ?_)
          rintro e w' ⟨rfl, hb'⟩
          exact HK.out _ _ ⟨v, upd U 10 (.bool true), rfl, HR.out.go HL.out rfl hb'⟩
        rcases Nat.eq_or_lt_of_le (Nat.le_of_lt_succ hi) with rfl | hi
        · obtain rfl := op_at hO ho rfl
          refine wpOp_go ho (wanted_none rfl _) (fun K hK => ?_)
          have HK := Lib.hid hK
          clear hK ho hO
          have e0 : U 5 = .int .i64 (P + R) := HR.out.val 5 (HD.out { on := 5, ground := .data } (by simp) rfl)
          have e1 : U 8 = .int .i64 (Q + S) := HR.out.val 8 (HD.out { on := 8, ground := .data } (by simp) rfl)
          have HE := Lib.hid (And.intro e0 e1)
          clear e0 e1
          unfold frQ
          go_simp
          refine calls_args (by rw [HE.out.1, HE.out.2]) ((of_int (P + R) (Q + S) W).mono ?_)
          rintro e w' ⟨rfl, hb'⟩
          exact HK.out _ _ ⟨v, upd U 9 (.agg #[.int .u32 ((wd (P + R), wd (Q + S))).1, .int .u32 ((wd (P + R), wd (Q + S))).2]), rfl, HR.out.go HL.out rfl hb'⟩
        rcases Nat.eq_or_lt_of_le (Nat.le_of_lt_succ hi) with rfl | hi
        · obtain rfl := op_at hO ho rfl
          refine wpOp_go ho (wanted_none rfl _) (fun K hK => ?_)
          have HK := Lib.hid hK
          clear hK ho hO
          have e0 : U 6 = .int .i64 (Q) := HR.out.val 6 (HD.out { on := 6, ground := .data } (by simp) rfl)
          have e1 : U 7 = .int .i64 (S) := HR.out.val 7 (HD.out { on := 7, ground := .data } (by simp) rfl)
          unfold frQ
          go_simp
          refine HK.out _ _ ⟨v, upd (upd (upd U 6 (.int .i64 (Q))) 7 (.int .i64 (S))) 8 (.int .i64 (Q + S)), rfl, ?_⟩
          rw [upd_self e0, upd_self e1]
          exact HR.out.go HL.out rfl (Below.refl _ _)
        rcases Nat.eq_or_lt_of_le (Nat.le_of_lt_succ hi) with rfl | hi
        · obtain rfl := op_at hO ho rfl
          refine wpOp_go ho (wanted_none rfl _) (fun K hK => ?_)
          have HK := Lib.hid hK
          clear hK ho hO
          unfold frQ
          go_simp
          exact HK.out _ _ ⟨v, upd U 7 (.int .i64 (S)), rfl, HR.out.go HL.out rfl (Below.refl _ _)⟩
        rcases Nat.eq_or_lt_of_le (Nat.le_of_lt_succ hi) with rfl | hi
        · obtain rfl := op_at hO ho rfl
          refine wpOp_go ho (wanted_none rfl _) (fun K hK => ?_)
          have HK := Lib.hid hK
          clear hK ho hO
          unfold frQ
          go_simp
          exact HK.out _ _ ⟨v, upd U 6 (.int .i64 (Q)), rfl, HR.out.go HL.out rfl (Below.refl _ _)⟩
        rcases Nat.eq_or_lt_of_le (Nat.le_of_lt_succ hi) with rfl | hi
        · obtain rfl := op_at hO ho rfl
          refine wpOp_go ho (wanted_none rfl _) (fun K hK => ?_)
          have HK := Lib.hid hK
          clear hK ho hO
          have e0 : U 3 = .int .i64 (P) := HR.out.val 3 (HD.out { on := 3, ground := .data } (by simp) rfl)
          have e1 : U 4 = .int .i64 (R) := HR.out.val 4 (HD.out { on := 4, ground := .data } (by simp) rfl)
          unfold frQ
          go_simp
          refine HK.out _ _ ⟨v, upd (upd (upd U 3 (.int .i64 (P))) 4 (.int .i64 (R))) 5 (.int .i64 (P + R)), rfl, ?_⟩
          rw [upd_self e0, upd_self e1]
          exact HR.out.go HL.out rfl (Below.refl _ _)
        rcases Nat.eq_or_lt_of_le (Nat.le_of_lt_succ hi) with rfl | hi
        · obtain rfl := op_at hO ho rfl
          refine wpOp_go ho (wanted_none rfl _) (fun K hK => ?_)
          have HK := Lib.hid hK
          clear hK ho hO
          unfold frQ
          go_simp
          exact HK.out _ _ ⟨v, upd U 4 (.int .i64 (R)), rfl, HR.out.go HL.out rfl (Below.refl _ _)⟩
        rcases Nat.eq_or_lt_of_le (Nat.le_of_lt_succ hi) with rfl | hi
        · obtain rfl := op_at hO ho rfl
          refine wpOp_go ho (wanted_none rfl _) (fun K hK => ?_)
          have HK := Lib.hid hK
          clear hK ho hO
          unfold frQ
          go_simp
          exact HK.out _ _ ⟨v, upd U 3 (.int .i64 (P)), rfl, HR.out.go HL.out rfl (Below.refl _ _)⟩
        rcases Nat.eq_or_lt_of_le (Nat.le_of_lt_succ hi) with rfl | hi
        · obtain rfl := op_at hO ho rfl
          refine wpOp_go ho (wanted_none rfl _) (fun K hK => ?_)
          have HK := Lib.hid hK
          clear hK ho hO
          have e0 : U 0 = .agg #[.int .u32 A.1, .int .u32 A.2] := HR.out.val 0 (HD.out { on := 0, ground := .data } (by simp) rfl)
          have e1 : U 1 = .agg #[.int .u32 B.1, .int .u32 B.2] := HR.out.val 1 (HD.out { on := 1, ground := .data } (by simp) rfl)
          have HE := Lib.hid (And.intro e0 e1)
          clear e0 e1
          unfold frQ
          go_simp
          refine calls_args (by rw [HE.out.1, HE.out.2]) ((add_any A.1 A.2 B.1 B.2 W).mono ?_)
          rintro e w' ⟨rfl, hb'⟩
          exact HK.out _ _ ⟨v, upd U 2 (.agg #[.int .u32 (addW A B).1, .int .u32 (addW A B).2]), rfl, HR.out.go HL.out rfl hb'⟩
        rcases Nat.eq_or_lt_of_le (Nat.le_of_lt_succ hi) with rfl | hi
        · obtain rfl := op_at hO ho rfl
          refine wpOp_go ho (wanted_none rfl _) (fun K hK => ?_)
          have HK := Lib.hid hK
          clear hK ho hO
          obtain ⟨c0, c1⟩ := HFW.out.b
          unfold frQ
          go_simp
          exact HK.out _ _ ⟨v, upd U 1 (.agg #[.int .u32 B.1, .int .u32 B.2]), rfl, HR.out.go HL.out rfl (Below.refl _ _)⟩
        obtain rfl : i = 0 := by omega
        · obtain rfl := op_at hO ho rfl
          refine wpOp_go ho (wanted_none rfl _) (fun K hK => ?_)
          have HK := Lib.hid hK
          clear hK ho hO
          obtain ⟨c0, c1⟩ := HFW.out.a
          unfold frQ
          go_simp
          exact HK.out _ _ ⟨v, upd U 0 (.agg #[.int .u32 A.1, .int .u32 A.2]), rfl, HR.out.go HL.out rfl (Below.refl _ _)⟩
      · rintro l s W ⟨v, U, rfl, hR⟩ hup
        have u101 : U 101 = .bool true := hR.val 101 (hup 101 (by omega))
        have HFV := Lib.hid hR.fv
        clear hR hup
        unfold frQ
        rw [u101]
        go_wp2_with fail
        go_ret
        exact ⟨rfl, HB0.out.grown (below_grown HFV.out.below rfl rfl rfl rfl none) HB0.out.size (by simp)⟩

end Nu
end Go.Proofs.Ytkkdimhibfpopaa
