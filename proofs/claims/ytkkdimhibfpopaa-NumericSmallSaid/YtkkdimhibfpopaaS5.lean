/- Contracts: the transform of a list. -/
import Derived.Test.YtkkdimhibfpopaaS4
import Derived.Deep.RegionHeld3
namespace Go.Proofs.Ytkkdimhibfpopaa
open Go.ChangeShapes Go.WideShapes Go.ChangeAt Go.RowKit Go.WideMaps Go.Maps
namespace Nu

set_option maxHeartbeats 2000000 in
theorem tr_zero (cap b m c : Nat) (L : List (Nat × Nat)) (w : World) (hL : L.length = 1) (hN : Num w b L) (hT : Tm w m c (fun _ => True)) :
    Calls Try.prog 60 #[.agg #[.map (some m)], .slice (some ⟨b, 0, none⟩) 1 cap] w fun e w' => ∃ g cap', (e = .returned (.slice (some ⟨g, 0, none⟩) 1 cap') ∧ 1 ≤ cap') ∧ Num w' g (trL 0 L) ∧ w.heap.size ≤ g ∧ Tm w' m (c + (2 ^ 0 - 1)) (fun _ => True) ∧ w.grownBy w' (some m) := by
  obtain ⟨n0, n1⟩ := hN 0 (at2 L 0) (at2_at (by omega))
  obtain ⟨x, hx⟩ : ∃ x, x = at2 L 0 := ⟨_, rfl⟩
  rw [← hx] at n0 n1
  have HX := Lib.hid hx
  have c0 := (World.grownBy_alloc w (.cells #[.map (some m)] 92) none).cell n0 (by simp)
  have c1 := (World.grownBy_alloc w (.cells #[.map (some m)] 92) none).cell n1 (by simp)
  have HT := Lib.hid hT
  clear hx hN n0 n1 hT hL
  go_enter Try.func60, Try.ntmps60
  go_wp2_with (first
    | (go_at_call 48; refine (value_any _ _ _).mono ?_; rintro e w1 ⟨rfl, hb1⟩; have hg1 := grown_trans (World.grownBy_alloc w (.cells #[.map (some m)] 92) none) (below_grown hb1 rfl rfl rfl rfl none); have HG1 := Lib.hid hg1; clear hb1 hg1 c0 c1)
    | (go_at_call 47; refine (number_any _ _ _).mono ?_; rintro e w2 ⟨rfl, hb2⟩; have hg2 := grown_trans HG1.out (below_grown hb2 rfl rfl rfl rfl none); have HG2 := Lib.hid hg2; clear hb2 hg2; rw [canon_canon, canon_canon]))
  go_ret
  have hg := grown_trans HG2.out (World.grownBy_alloc w2 (.cells #[.int .u32 (canon x.1), .int .u32 (canon x.2)] 32) none)
  first | refine ⟨_, 1, ⟨rfl, Nat.le_refl _⟩, ?_, HG2.out.size, ?_, below_some hg _⟩ | refine ⟨_, ⟨1, rfl, Nat.le_refl _⟩, ?_, HG2.out.size, ?_, below_some hg _⟩
  · have := Num.of_own (L := [(canon x.1, canon x.2)]) (own_one w2 w2.heap.size (Nat.le_refl _) (.int .u32 (canon x.1)) (.int .u32 (canon x.2)) 32)
    unfold trL can2
    rw [← HX.out]
    exact this
  · obtain ⟨D, a, b⟩ := HT.out.kept hg (by simp) (fun _ _ _ => by simp)
    exact ⟨D, a.mono (by omega), b⟩

/-- What stands while a list is transformed: the frame of the call, lists of numbers, the map, and the box that holds the map. -/
structure St (w W : World) (bt m c : Nat) (NL : List (Nat × List (Nat × Nat))) : Prop where
  grown : w.grownBy W (some m)
  num : ∀ p ∈ NL, Num W p.1 p.2 ∧ p.1 ≠ m
  tm : Tm W m c (fun _ => True)
  box : W.cell? ⟨bt, 0, none⟩ = some (.map (some m))

theorem St.grow {w W V : World} {bt m c c' : Nat} {NL : List (Nat × List (Nat × Nat))} (h : St w W bt m c NL) (hb : bt ≠ m) (hg : W.grownBy V (some m)) (ht : Tm V m c' (fun _ => True)) : St w V bt m c' NL :=
  ⟨grown_trans h.grown hg, fun p hp => ⟨(h.num p hp).1.grown hg (fun e => (h.num p hp).2 (Option.some.inj e)), (h.num p hp).2⟩, ht, hg.cell h.box (fun e => hb (Option.some.inj e))⟩
theorem St.step {w W X V : World} {bt m c : Nat} {NL : List (Nat × List (Nat × Nat))} (h : St w W bt m c NL) (hb : bt ≠ m) (hv : Below X.heap.size X V) (e1 : X.heap = W.heap := by rfl) (e2 : X.os = W.os := by rfl) (e3 : X.tape = W.tape := by rfl) (e4 : X.output = W.output := by rfl) : St w V bt m c NL :=
  h.grow hb (below_grown hv e1 e2 e3 e4 _) (h.tm.kept (below_grown hv e1 e2 e3 e4 none) (by simp) (fun _ _ _ => by simp))
theorem grown_same {W X V : World} {row : Option Nat} (h : X.grownBy V row) (e1 : X.heap = W.heap := by rfl) (e2 : X.os = W.os := by rfl) (e3 : X.tape = W.tape := by rfl) (e4 : X.output = W.output := by rfl) : W.grownBy V row :=
  ⟨h.os.trans e2, h.tape.trans e3, h.output.trans e4, by have := h.size; rw [e1] at this; exact this, fun k hk hr => (h.block k (by rw [e1]; exact hk) hr).trans (by rw [e1])⟩
theorem St.add {w W : World} {bt m c : Nat} {NL : List (Nat × List (Nat × Nat))} (h : St w W bt m c NL) {g : Nat} {E : List (Nat × Nat)} (hN : Num W g E) (hg : g ≠ m) : St w W bt m c ((g, E) :: NL) :=
  ⟨h.grown, fun p hp => by rcases List.mem_cons.1 hp with rfl | hp; exact ⟨hN, hg⟩; exact h.num p hp, h.tm, h.box⟩
theorem Tm.same {W X : World} {m c : Nat} {Q : Nat → Prop} (h : Tm W m c Q) (e1 : X.heap = W.heap := by rfl) : Tm X m c Q := by
  obtain ⟨D, a, b, d⟩ := h
  refine ⟨D, ?_, b, ?_⟩
  · obtain ⟨es, cl, x, y⟩ := a
    exact ⟨es, cl, by rw [e1]; exact x, y⟩
  · intro k hk
    rcases d k hk with h3 | ⟨g', cap', h3, h4, h5, h6, h7⟩
    · exact .inl h3
    · exact .inr ⟨g', cap', h3, h4, fun j x hx => by unfold World.cell?; rw [e1]; exact h5 j x hx, h6, h7⟩

theorem grown_set (W : World) (b o : Nat) (u : Value) : W.grownBy (W.setCell ⟨b, o, none⟩ u) (some b) :=
  ⟨rfl, rfl, rfl, by simp, fun k _ hk => heap_setCell_other W ⟨b, o, none⟩ k u (fun e => hk (by simp [e]))⟩
theorem grown_set2 (W : World) (b o o' : Nat) (u v : Value) : W.grownBy ((W.setCell ⟨b, o, none⟩ u).setCell ⟨b, o', none⟩ v) (some b) := grown_trans (grown_set W b o u) (grown_set _ b o' v)
theorem trL_ne (k : Nat) (L : List (Nat × Nat)) : trL k L ≠ [] := fun e => by
  have h1 := trL_len k L
  have h2 := Nat.two_pow_pos k
  rw [e] at h1
  simp at h1
  omega
theorem partL_zero' (h n : Nat) (T E : Nat → Nat × Nat) (hn : n = h + h) : partL h T E 0 = List.replicate n (0, 0) := by rw [hn]; exact partL_zero h T E

/-- .. and in the loop, where block o is written. -/
structure Lp (w W : World) (o m c : Nat) (NL : List (Nat × List (Nat × Nat))) : Prop where
  grown : w.grownBy W (some m)
  num : ∀ p ∈ NL, Num W p.1 p.2 ∧ p.1 ≠ o
  tm : Tm W m c (fun g => g ≠ o)
  size : w.heap.size ≤ o ∧ o ≠ m

theorem Lp.step {w W X V : World} {o m c : Nat} {NL : List (Nat × List (Nat × Nat))} (h : Lp w W o m c NL) (hv : Below X.heap.size X V) (e1 : X.heap = W.heap := by rfl) (e2 : X.os = W.os := by rfl) (e3 : X.tape = W.tape := by rfl) (e4 : X.output = W.output := by rfl) : Lp w V o m c NL :=
  ⟨grown_trans h.grown (below_grown hv e1 e2 e3 e4 _), fun p hp => ⟨(h.num p hp).1.grown (below_grown hv e1 e2 e3 e4 none) (by simp), (h.num p hp).2⟩, h.tm.kept (below_grown hv e1 e2 e3 e4 none) (by simp) (fun _ _ _ => by simp), h.size⟩
theorem Lp.wrote {w W V : World} {o m c : Nat} {NL : List (Nat × List (Nat × Nat))} (h : Lp w W o m c NL) (hg : W.grownBy V (some o)) : Lp w V o m c NL :=
  ⟨h.grown.andThen hg (fun j e => .inl (by cases e; exact h.size.1)), fun p hp => ⟨(h.num p hp).1.grown hg (fun e => (h.num p hp).2 (Option.some.inj e)), (h.num p hp).2⟩, h.tm.kept hg (fun e => h.size.2 (Option.some.inj e).symm) (fun g q _ e => q (Option.some.inj e)), h.size⟩

theorem Lp.still {w W V : World} {o m c : Nat} {NL : List (Nat × List (Nat × Nat))} (h : Lp w W o m c NL) (hg : W.grownBy V none) : Lp w V o m c NL :=
  ⟨grown_trans h.grown (below_some hg _), fun p hp => ⟨(h.num p hp).1.grown hg (by simp), (h.num p hp).2⟩, h.tm.kept hg (by simp) (fun _ _ _ => by simp), h.size⟩

/-- .. with the row that is written, the turned number and the number that it is added to. -/
structure Kp (w W : World) (o m c n B EV j : Nat) (NL : List (Nat × List (Nat × Nat))) (P : List (Nat × Nat)) (u z : Nat × Nat) : Prop where
  lp : Lp w W o m c NL
  own : W.ownsRow o 32 2 (.slice (some ⟨o, 0, none⟩) n n) n (cellsN P)
  u0 : W.cell? ⟨B, 0, none⟩ = some (.int .u32 u.1)
  u1 : W.cell? ⟨B, 1, none⟩ = some (.int .u32 u.2)
  z0 : W.cell? ⟨EV, j * 2, none⟩ = some (.int .u32 z.1)
  z1 : W.cell? ⟨EV, j * 2 + 1, none⟩ = some (.int .u32 z.2)

theorem Kp.still {w W V : World} {o m c n B EV j : Nat} {NL : List (Nat × List (Nat × Nat))} {P : List (Nat × Nat)} {u z : Nat × Nat} (h : Kp w W o m c n B EV j NL P u z) (hg : W.grownBy V none) : Kp w V o m c n B EV j NL P u z :=
  ⟨h.lp.still hg, h.own.kept hg (.inr (by simp [Value.ownBlock])), hg.cell h.u0 (by simp), hg.cell h.u1 (by simp), hg.cell h.z0 (by simp), hg.cell h.z1 (by simp)⟩
theorem Kp.step {w W X V : World} {o m c n B EV j : Nat} {NL : List (Nat × List (Nat × Nat))} {P : List (Nat × Nat)} {u z : Nat × Nat} (h : Kp w W o m c n B EV j NL P u z) (hv : Below X.heap.size X V) (e1 : X.heap = W.heap := by rfl) (e2 : X.os = W.os := by rfl) (e3 : X.tape = W.tape := by rfl) (e4 : X.output = W.output := by rfl) : Kp w V o m c n B EV j NL P u z :=
  h.still (below_grown hv e1 e2 e3 e4 none)
theorem Kp.keep {w W : World} {o m c n B EV j : Nat} {NL : List (Nat × List (Nat × Nat))} {P : List (Nat × Nat)} {u z : Nat × Nat} (h : Kp w W o m c n B EV j NL P u z) :
    W.cell? ⟨B, 0, none⟩ = some (.int .u32 u.1) ∧ W.cell? ⟨B, 1, none⟩ = some (.int .u32 u.2) ∧ W.cell? ⟨EV, j * 2, none⟩ = some (.int .u32 z.1) ∧ W.cell? ⟨EV, j * 2 + 1, none⟩ = some (.int .u32 z.2) := ⟨h.u0, h.u1, h.z0, h.z1⟩
/-- Where a number is to be written. -/
theorem Kp.room {w W : World} {o m c n B EV j : Nat} {NL : List (Nat × List (Nat × Nat))} {P : List (Nat × Nat)} {u z : Nat × Nat} (h : Kp w W o m c n B EV j NL P u z) (q : Nat) (hq : q < n) :
    ∃ a b, W.cell? ⟨o, q * 2, none⟩ = some a ∧ W.cell? ⟨o, q * 2 + 1, none⟩ = some b ∧ W.frozen? ⟨o, q * 2, none⟩ = false ∧ W.frozen? ⟨o, q * 2 + 1, none⟩ = false := by
  have hl := h.own.1
  rw [cellsN_len] at hl
  have h1 := h.own.cellAt (q * 2) (by omega)
  have h2 := h.own.cellAt (q * 2 + 1) (by omega)
  obtain ⟨a, b⟩ := cellsN_at P q (P[q]'(by omega)) (List.getElem?_eq_getElem (by omega))
  rw [Nat.mul_comm] at a b
  exact ⟨_, _, h1.trans a, h2.trans b, h.own.frozenAt _, h.own.frozenAt _⟩

/-- .. and where one is to be written behind another one. -/
theorem room_two {W : World} {o j q : Nat} {v0 v1 : Value} (hne : j ≠ q) (h0 : W.cell? ⟨o, q * 2, none⟩ = some v0) (h1 : W.cell? ⟨o, q * 2 + 1, none⟩ = some v1) (f0 : W.frozen? ⟨o, q * 2, none⟩ = false) (f1 : W.frozen? ⟨o, q * 2 + 1, none⟩ = false) :
    (∀ a b, ((W.setCell ⟨o, j * 2, none⟩ a).setCell ⟨o, j * 2 + 1, none⟩ b).cell? ⟨o, q * 2, none⟩ = some v0) ∧ (∀ a b, ((W.setCell ⟨o, j * 2, none⟩ a).setCell ⟨o, j * 2 + 1, none⟩ b).cell? ⟨o, q * 2 + 1, none⟩ = some v1) ∧
    (∀ a b, ((W.setCell ⟨o, j * 2, none⟩ a).setCell ⟨o, j * 2 + 1, none⟩ b).frozen? ⟨o, q * 2, none⟩ = false) ∧ (∀ a b, ((W.setCell ⟨o, j * 2, none⟩ a).setCell ⟨o, j * 2 + 1, none⟩ b).frozen? ⟨o, q * 2 + 1, none⟩ = false) := by
  refine ⟨fun a b => ?_, fun a b => ?_, fun a b => ?_, fun a b => ?_⟩
  · rw [World.cell?_setCell_other _ _ _ _ (by intro e; injection e; omega), World.cell?_setCell_other _ _ _ _ (by intro e; injection e; omega)]; exact h0
  · rw [World.cell?_setCell_other _ _ _ _ (by intro e; injection e; omega), World.cell?_setCell_other _ _ _ _ (by intro e; injection e; omega)]; exact h1
  · simp [f0]
  · simp [f1]

theorem Kp.far {w W V : World} {o m c n B EV j : Nat} {NL : List (Nat × List (Nat × Nat))} {P : List (Nat × Nat)} {u z : Nat × Nat} (h : Kp w W o m c n B EV j NL P u z) (h1 : B ≠ o) (h2 : EV ≠ o) (hg : W.grownBy V (some o)) :
    V.cell? ⟨B, 0, none⟩ = some (.int .u32 u.1) ∧ V.cell? ⟨B, 1, none⟩ = some (.int .u32 u.2) ∧ V.cell? ⟨EV, j * 2, none⟩ = some (.int .u32 z.1) ∧ V.cell? ⟨EV, j * 2 + 1, none⟩ = some (.int .u32 z.2) :=
  ⟨hg.cell h.u0 (fun e => h1 (Option.some.inj e)), hg.cell h.u1 (fun e => h1 (Option.some.inj e)), hg.cell h.z0 (fun e => h2 (Option.some.inj e)), hg.cell h.z1 (fun e => h2 (Option.some.inj e))⟩
theorem Ow.set2' {W : World} {base b n cap : Nat} {L : List (Nat × Nat)} (h : W.ownsRow base 32 2 (.slice (some ⟨b, 0, none⟩) n cap) n (cellsN L)) (q u v : Nat) :
    ((W.setCell ⟨b, q * 2, none⟩ (.int .u32 u)).setCell ⟨b, q * 2 + 1, none⟩ (.int .u32 v)).ownsRow base 32 2 (.slice (some ⟨b, 0, none⟩) n cap) n (cellsN (L.set q (u, v))) := by
  rw [Nat.mul_comm q 2]; exact (Ow.set2 h q u v).1

set_option maxRecDepth 100000 in
set_option maxHeartbeats 4000000 in
theorem tr_succ (k : Nat) (hk : k + 1 ≤ 6) (ih : ∀ (n cap b m c : Nat) (L : List (Nat × Nat)) (w : World), n = 2 ^ k → L.length = n → Num w b L → b ≠ m → Tm w m c (fun _ => True) → c + (2 ^ k - 1) ≤ 900 →
      Calls Try.prog 60 #[.agg #[.map (some m)], .slice (some ⟨b, 0, none⟩) n cap] w fun e w' => ∃ g cap', (e = .returned (.slice (some ⟨g, 0, none⟩) n cap') ∧ n ≤ cap') ∧ Num w' g (trL k L) ∧ w.heap.size ≤ g ∧ Tm w' m (c + (2 ^ k - 1)) (fun _ => True) ∧ w.grownBy w' (some m))
    (n cap b m c : Nat) (L : List (Nat × Nat)) (w : World) (hn : n = 2 ^ (k + 1)) (hL : L.length = n) (hN : Num w b L) (hbm : b ≠ m) (hT : Tm w m c (fun _ => True)) (hc : c + (2 ^ (k + 1) - 1) ≤ 900) :
    Calls Try.prog 60 #[.agg #[.map (some m)], .slice (some ⟨b, 0, none⟩) n cap] w fun e w' => ∃ g cap', (e = .returned (.slice (some ⟨g, 0, none⟩) n cap') ∧ n ≤ cap') ∧ Num w' g (trL (k + 1) L) ∧ w.heap.size ≤ g ∧ Tm w' m (c + (2 ^ (k + 1) - 1)) (fun _ => True) ∧ w.grownBy w' (some m) := by
  obtain ⟨h, hh⟩ : ∃ h, h = 2 ^ k := ⟨_, rfl⟩
  have hnh : n = h + h := by rw [hn, Nat.pow_succ, ← hh]; omega
  have h1 : 1 ≤ h := by rw [hh]; exact Nat.two_pow_pos k
  have h64 : n ≤ 64 := by rw [hn]; exact Nat.le_trans (Nat.pow_le_pow_right (by omega) hk) (by decide)
  have hbw : b < w.heap.size := hN.lt (fun e => by rw [e] at hL; simp at hL; omega)
  have hmw := hT.lt
  have hg0 := World.grownBy_alloc w (.cells #[.map (some m)] 92) none
  have cb := (new_cell w #[.map (some m)] 92 0 (.map (some m)) rfl).1
  have hN0 := hN.grown hg0 (by simp)
  have hT0 := hT.kept hg0 (by simp) (fun _ _ _ => by simp)
  have hs0 : (w.alloc (.cells #[.map (some m)] 92)).heap.size = w.heap.size + 1 := by simp
  have hbt : w.heap.size ≠ m := by omega
  have hst : St w (w.alloc (.cells #[.map (some m)] 92)) w.heap.size m c [(b, L)] := ⟨below_some hg0 _, fun p hp => by rw [List.mem_singleton.1 hp]; exact ⟨hN0, hbm⟩, hT0, cb⟩
  have HST := Lib.hid hst
  have HL := Lib.hid hL
  have Hn := Lib.hid hn
  have Hh := Lib.hid hh
  have Hnh := Lib.hid hnh
  have H1 := Lib.hid h1
  have HBW := Lib.hid hbw
  have HMW := Lib.hid hmw
  have HS := Lib.hid hs0
  have H64 := Lib.hid h64
  have H64 := Lib.hid h64
  have HC := Lib.hid hc
  have IH := Lib.hid ih
  have HBT := Lib.hid hbt
  have HBM := Lib.hid hbm
  have HK := Lib.hid hk
  clear hN hT hN0 hT0 hg0 hL hn hh hnh hs0 hbw hmw hc ih hst hbt hbm hk
  have i1 : ¬ (n : Int) = 1 := by have := Hnh.out; have := H1.out; omega
  clear h1 h64
  go_enter Try.func60, Try.ntmps60
  go_upto_region 4 with (fail)
  obtain ⟨W0, hW0⟩ : ∃ W0, W0 = w.alloc (.cells #[.map (some m)] 92) := ⟨_, rfl⟩
  rw [← hW0] at cb HST HS ⊢
  clear hW0
  go_region_held3 (fun w' => w'.cell? ⟨w.heap.size, 0, none⟩ = some (.map (some m))) (first | exact cb3 | exact cb2 | exact cb1 | exact cb)
    (first
      | (go_at_call 68; refine (everyOther_any _ 0 n cap b).mono ?_; rintro e w1 ⟨rfl, i0, l0, s0, hb1⟩; have hst := HST.out.step HBT.out hb1; have cb1 := hst.box; have HST1 := Lib.hid hst; have HI0 := Lib.hid i0; have HL0 := Lib.hid l0; have hs0 : w1.heap.size = W0.heap.size + 2 := s0; have HS0 := Lib.hid hs0; clear hst i0 l0 s0 hs0 hb1; go_simp)
      | (go_at_call 67
         have k1 : L.length ≤ 64 := by have := HL.out; have := H64.out; omega
         have k2 : h = (L.length + 1 - 0) / 2 := by have := HL.out; have := Hnh.out; omega
         have k3 : Boxes W0.heap.size b cap L w1 := ⟨by rw [HL.out]; exact HL0.out, (HST1.out.num (b, L) (by simp)).1⟩
         have k4 : W0.heap.size < w1.heap.size := by have := HS0.out; omega
         have k5 : b < w1.heap.size := by have := HS0.out; have := HS.out; have := HBW.out; omega
         refine (collect_any _ (W0.heap.size + 1) W0.heap.size b cap 0 h L k1 k2 (by omega) HI0.out k3 k4 k5).mono ?_
         rintro e w2 ⟨v, rfl, hrow, hb2⟩
         clear k1 k2 k3 k4 k5
         obtain ⟨gE, capE, rfl, hgE⟩ := own_some hrow H1.out
         have hgE' : w1.heap.size ≤ gE := hgE
         have hne : gE ≠ m := by have := HS0.out; have := HS.out; have := HMW.out; omega
         have hst := (HST1.out.step HBT.out hb2).add (Num.of_own hrow) hne
         have cb2 := hst.box
         have HST2 := Lib.hid hst
         have HNE := Lib.hid hne
         clear hst hne hgE hgE' hrow hb2
         go_simp)
      | (go_at_call 60
         have k1 : c + (2 ^ k - 1) ≤ 900 := by have := HC.out; rw [Nat.pow_succ] at this; omega
         have k2 : Num w2 gE (picks L 0 h) := (HST2.out.num (gE, picks L 0 h) (by simp)).1
         refine (IH.out h capE gE m (c) (picks L 0 h) _ Hh.out (picks_len _ _ _) k2 HNE.out HST2.out.tm k1).mono ?_
         rintro e w3 ⟨EV, capV, ⟨rfl, -⟩, hn3, hg3, ht3, hgr3⟩
         clear k1 k2
         have hg3' : w2.heap.size ≤ EV := hg3
         have hsz := HST2.out.grown.size
         have hne : EV ≠ m := by have := HMW.out; omega
         have hst := (HST2.out.grow HBT.out (grown_same hgr3) ht3).add hn3 hne
         have HST3 := Lib.hid hst
         have cb3 := hst.box
         clear hst hne hg3 hg3' hsz hn3 ht3 hgr3 cb1 cb2
         go_simp))
  go_upto_region 5 with (fail)
  have cb := HST3.out.box
  clear cb3
  have hss : w.heap.size + 1 ≤ w3.heap.size := cell_lt cb
  have HSS := Lib.hid hss
  clear hss
  go_region_held3 (fun w' => w'.cell? ⟨w.heap.size, 0, none⟩ = some (.map (some m))) (first | exact cb3 | exact cb2 | exact cb1 | exact cb)
    (first
      | (go_at_call 68; refine (everyOther_any _ 1 n cap b).mono ?_; rintro e w4 ⟨rfl, i0, l0, s0, hb1⟩; have hst := HST3.out.step HBT.out hb1; have cb1 := hst.box; have HST4 := Lib.hid hst; have HI0 := Lib.hid i0; have HL0 := Lib.hid l0; have hs0 : w4.heap.size = w3.heap.size + 2 := s0; have HS0 := Lib.hid hs0; clear hst i0 l0 s0 hs0 hb1; go_simp)
      | (go_at_call 67
         have k1 : L.length ≤ 64 := by have := HL.out; have := H64.out; omega
         have k2 : h = (L.length + 1 - 1) / 2 := by have := HL.out; have := Hnh.out; omega
         have k3 : Boxes w3.heap.size b cap L w4 := ⟨by rw [HL.out]; exact HL0.out, (HST4.out.num (b, L) (by simp)).1⟩
         have k4 : w3.heap.size < w4.heap.size := by have := HS0.out; omega
         have k5 : b < w4.heap.size := by have := HS0.out; have := HSS.out; have := HBW.out; omega
         refine (collect_any _ (w3.heap.size + 1) w3.heap.size b cap 1 h L k1 k2 (by omega) HI0.out k3 k4 k5).mono ?_
         rintro e w5 ⟨v, rfl, hrow, hb2⟩
         clear k1 k2 k3 k4 k5
         obtain ⟨gO, capQ, rfl, hgO⟩ := own_some hrow H1.out
         have hgO' : w4.heap.size ≤ gO := hgO
         have hne : gO ≠ m := by have := HS0.out; have := HSS.out; have := HMW.out; omega
         have hst := (HST4.out.step HBT.out hb2).add (Num.of_own hrow) hne
         have cb2 := hst.box
         have HST5 := Lib.hid hst
         have HNO := Lib.hid hne
         clear hst hne hgO hgO' hrow hb2
         go_simp)
      | (go_at_call 60
         have k1 : c + (2 ^ k - 1) + (2 ^ k - 1) ≤ 900 := by have := HC.out; rw [Nat.pow_succ] at this; omega
         have k2 : Num w5 gO (picks L 1 h) := (HST5.out.num (gO, picks L 1 h) (by simp)).1
         refine (IH.out h capQ gO m (c + (2 ^ k - 1)) (picks L 1 h) _ Hh.out (picks_len _ _ _) k2 HNO.out HST5.out.tm k1).mono ?_
         rintro e w6 ⟨OD, capO, ⟨rfl, -⟩, hn3, hg3, ht3, hgr3⟩
         clear k1 k2
         have hg3' : w5.heap.size ≤ OD := hg3
         have hsz := HST5.out.grown.size
         have hne : OD ≠ m := by have := HMW.out; omega
         have hst := (HST5.out.grow HBT.out (grown_same hgr3) ht3).add hn3 hne
         have HST6 := Lib.hid hst
         have cb3 := hst.box
         clear hst hne hg3 hg3' hsz hn3 ht3 hgr3 cb1 cb2
         go_simp))
  have cb := HST6.out.box
  clear cb3
  obtain ⟨z0, hz0, hz1, hz2, hz3⟩ := info_parts info32
  obtain ⟨OUT, hOUT⟩ : ∃ o, o = w6.heap.size := ⟨_, rfl⟩
  have HOUT := Lib.hid hOUT
  clear hOUT
  have q2 : (n : Int) / 2 = (h : Int) := by have := Hnh.out; omega
  have q1 : (n : Int).tdiv 2 = (h : Int) := by rw [Int.tdiv_eq_ediv_of_nonneg (by omega)]; exact q2
  have q3 : (0 : Int) ≤ (h : Int) := by omega
  have q4 : (h : Int) ≤ 32 := by have := Hnh.out; have := H64.out; omega
  have q5 : IntKind.i64.wrap (h : Int) = (h : Int) := IntWalk.i64_in _ (by omega)
  go_wp2_with (first
    | (at_make; go_loud (refine wpList_make_full _ rfl _ _ 24 rfl w6.heap.size 32 z0 (.agg #[.int .u32 0, .int .u32 0]) 2 Try.underlying24 hz0 hz1 hz2 .i64 .i64 _ _ n rfl rfl rfl rfl (by rw [hz3]; have := H64.out; omega) (by have := H64.out; unfold maxLen; omega) (Nat.le_refl _) ?_)
       intro w7 hown7 hg7
       rw [← HOUT.out] at hown7 ⊢
       have ht7 := ((HST6.out.tm.imp (Q' := fun g => g ≠ OUT) (fun g hlt _ => by have := HOUT.out; omega)).kept hg7 (by simp) (fun _ _ _ => by simp))
       have hst := HST6.out.grow HBT.out (below_some hg7 _) (ht7.imp (fun _ _ _ => trivial))
       have cb7 := hst.box
       have hs7 : OUT < w7.heap.size := hown7.lt _ rfl |>.2
       rw [made_rep] at hown7
       have HST7 := Lib.hid hst
       have HTM7 := Lib.hid ht7
       have HO7 := Lib.hid hown7
       have HS7 := Lib.hid hs7
       clear hst ht7 hown7 hg7 hs7 cb)
    | (go_at_call 69
       go_loud (
       have k1 : c + (2 ^ k - 1) + (2 ^ k - 1) < 1000 := by have := HC.out; rw [Nat.pow_succ] at this; omega
       refine (known_any (k + 1) n m (c + (2 ^ k - 1) + (2 ^ k - 1)) HK.out Hn.out (fun g => g ≠ OUT) _ HTM7.out k1).mono ?_
       rintro e w8 ⟨FA, capF, rfl, hcapF, hnF, hgm, hQ, ht8, hgr8⟩
       clear k1
       have hom : OUT ≠ m := by have := HOUT.out; have := HST6.out.grown.size; have := HMW.out; omega
       have hfo : FA ≠ OUT := by rcases hQ with hQ | hQ; exact hQ; have := HS7.out; omega
       have hlp : Lp w w8 OUT m (c + (2 ^ k - 1) + (2 ^ k - 1) + 1) [(FA, facL (firstW (k + 1)) n), (OD, trL k (picks L 1 h)), (EV, trL k (picks L 0 h))] := by
         refine ⟨grown_trans HST7.out.grown (grown_same hgr8), fun p hp => ?_, ht8.imp (fun g _ hq => by rcases hq with hq | hq; exact hq; have := HS7.out; omega), by have := HOUT.out; have := HST6.out.grown.size; omega, hom⟩
         have hO := HST7.out.num (OD, trL k (picks L 1 h)) (by simp)
         have hE := HST7.out.num (EV, trL k (picks L 0 h)) (by simp)
         have lO := (HST6.out.num (OD, trL k (picks L 1 h)) (by simp)).1.lt (trL_ne k _)
         have lE := (HST6.out.num (EV, trL k (picks L 0 h)) (by simp)).1.lt (trL_ne k _)
         have := HOUT.out
         simp only [List.mem_cons, List.not_mem_nil, or_false] at hp
         rcases hp with rfl | rfl | rfl
         · exact ⟨hnF, hfo⟩
         · exact ⟨hO.1.grown hgr8 (fun e => hO.2 (Option.some.inj e)), by dsimp only at *; omega⟩
         · exact ⟨hE.1.grown hgr8 (fun e => hE.2 (Option.some.inj e)), by dsimp only at *; omega⟩
       have ho8 := HO7.out.kept hgr8 (.inr (fun e => hom (Option.some.inj e)))
       rw [← partL_zero' h n (turn (k + 1) (trL k (picks L 1 h))) (at2 (trL k (picks L 0 h))) Hnh.out] at ho8
       have HLP := Lib.hid hlp
       have HO8 := Lib.hid ho8
       have l1 : (h : Int) ≤ capF := by have := Hnh.out; omega
       clear hlp ho8 hom hfo hcapF hnF hgm hQ ht8 hgr8 cb7)))
  clear HTM7 HO7 HS7 HST7 HST HST1 HST2 HST3 HST4 HST5 HI0 HL0 HS0 HNE HNO IH HS HSS
  obtain ⟨Cn, hCn⟩ : ∃ x, x = c + (2 ^ k - 1) + (2 ^ k - 1) + 1 := ⟨_, rfl⟩
  obtain ⟨LO, hLO⟩ : ∃ x, x = trL k (picks L 1 h) := ⟨_, rfl⟩
  obtain ⟨LE, hLE⟩ : ∃ x, x = trL k (picks L 0 h) := ⟨_, rfl⟩
  rw [← hCn, ← hLO, ← hLE] at HLP
  rw [← hLO, ← hLE] at HO8
  have kO : LO.length = h := by rw [hLO, trL_len, Hh.out]
  have kE : LE.length = h := by rw [hLE, trL_len, Hh.out]
  have KO := Lib.hid kO
  have KE := Lib.hid kE
  have HCn := Lib.hid hCn
  have HLO := Lib.hid hLO
  have HLE := Lib.hid hLE
  clear kO kE hCn hLO hLE
  go_loopw [41] (fun v wr => ∃ j : Nat, v = .int .i64 j ∧ j ≤ h ∧ Lp w wr OUT m Cn [(FA, facL (firstW (k + 1)) n), (OD, LO), (EV, LE)] ∧ wr.ownsRow OUT 32 2 (.slice (some ⟨OUT, 0, none⟩) n n) n (cellsN (partL h (turn (k + 1) LO) (at2 LE) j))) (fun v _ => 100 - (intOf v).toNat)
  case atStart => exact ⟨0, rfl, Nat.zero_le _, HLP.out, HO8.out⟩
  case round =>
    obtain ⟨j, rfl, hj, hlp, hown⟩ := hrel
    clear HLP HO8
    have HJ := Lib.hid hj
    have HLP := Lib.hid hlp
    have HO := Lib.hid hown
    clear hj hlp hown
    by_cases hlt : j < h
    · obtain ⟨x, hx⟩ : ∃ x, x = fac (firstW (k + 1)) j := ⟨_, rfl⟩
      obtain ⟨y, hy⟩ : ∃ x, x = at2 LO j := ⟨_, rfl⟩
      obtain ⟨z, hz⟩ : ∃ x, x = at2 LE j := ⟨_, rfl⟩
      obtain ⟨x0, x1⟩ := (HLP.out.num (FA, facL (firstW (k + 1)) n) (by simp)).1 j x (by rw [hx]; exact facL_at _ _ _ (by have := Hnh.out; omega))
      obtain ⟨y0, y1⟩ := (HLP.out.num (OD, LO) (by simp)).1 j y (by rw [hy]; exact at2_at (by rw [KO.out]; exact hlt))
      obtain ⟨q, hq⟩ : ∃ q, q = j + h := ⟨_, rfl⟩
      rw [Nat.mul_comm] at x0 x1 y0 y1
      have i2 : (j : Int) < h := by omega
      have i3 : (0 : Int) ≤ j := by omega
      have i4 : IntKind.i64.wrap (j : Int) = (j : Int) := IntWalk.i64_in _ (by omega)
      have HX := Lib.hid hx
      have HY := Lib.hid hy
      have HZ := Lib.hid hz
      have HQ := Lib.hid hq
      clear hx hy hz hq
      go_wp2_with fail
      have HLP1 := Lib.hid (HLP.out.step ((Below.refl _ wr).alloc (Nat.le_refl _) (.cells #[.int .u32 x.1, .int .u32 x.2] 32)))
      have HO1 := Lib.hid (HO.out.alloc (.cells #[.int .u32 x.1, .int .u32 x.2] 32))
      have hA1 : Mem (wr.alloc (.cells #[.int .u32 x.1, .int .u32 x.2] 32)) [(wr.heap.size, 0, .int .u32 x.1), (wr.heap.size, 1, .int .u32 x.2)] := ⟨new_cell wr _ _ 0 _ rfl, new_cell wr _ _ 1 _ rfl, trivial⟩
      clear x0 x1 y0 y1
      obtain ⟨y0, y1⟩ := (HLP1.out.num (OD, LO) (by simp)).1 j y (by rw [HY.out]; exact at2_at (by rw [KO.out]; exact hlt))
      rw [Nat.mul_comm] at y0 y1
      dsimp only at y0 y1
      obtain ⟨B, hB⟩ : ∃ B, B = wr.heap.size := ⟨_, rfl⟩
      rw [← hB] at hA1 ⊢
      obtain ⟨wa, hwa⟩ : ∃ wa, wa = wr.alloc (.cells #[.int .u32 x.1, .int .u32 x.2] 32) := ⟨_, rfl⟩
      rw [← hwa] at hA1 HLP1 HO1 y0 y1 ⊢
      clear hwa hB
      obtain ⟨⟨c0, f0⟩, ⟨c1, f1⟩, -⟩ := hA1
      have hgc := World.grownBy_alloc wa (.cells #[.int .u32 0, .int .u32 0] 32) none
      have c4 := hgc.cell c0 (by simp)
      have c5 := hgc.cell c1 (by simp)
      have y4 := hgc.cell y0 (by simp)
      have y5 := hgc.cell y1 (by simp)
      have HAN := Lib.hid (And.intro (new_cell wa #[.int .u32 0, .int .u32 0] 32 0 _ rfl) (new_cell wa #[.int .u32 0, .int .u32 0] 32 1 _ rfl))
      clear hgc
      go_region_held3 (fun w' => w'.cell? ⟨B, 0, none⟩ = some (.int .u32 x.1) ∧ w'.cell? ⟨B, 1, none⟩ = some (.int .u32 x.2) ∧ w'.cell? ⟨OD, j * 2, none⟩ = some (.int .u32 y.1) ∧ w'.cell? ⟨OD, j * 2 + 1, none⟩ = some (.int .u32 y.2)) (first | exact ⟨d8, d9, e8, e9⟩ | exact ⟨d6, d7, e6, e7⟩ | exact ⟨d4, d5, e4, e5⟩ | exact ⟨d0, d1, e0, e1⟩ | exact ⟨c4, c5, y4, y5⟩ | exact ⟨c0, c1, y0, y1⟩)
        (first
          | (go_at_call 15; refine (mul_any x.1 x.2 y.1 y.2 _).mono ?_; rintro e wb ⟨rfl, hb⟩
             first
               | (have hgb := below_grown (w := wa) hb rfl rfl rfl rfl none
                  have d0 := hgb.cell c0 (by simp)
                  have d1 := hgb.cell c1 (by simp)
                  have e0 := hgb.cell y0 (by simp)
                  have e1 := hgb.cell y1 (by simp)
                  have hgc := World.grownBy_alloc wb (.cells #[.int .u32 0, .int .u32 0] 32) none
                  have d4 := hgc.cell d0 (by simp)
                  have d5 := hgc.cell d1 (by simp)
                  have e4 := hgc.cell e0 (by simp)
                  have e5 := hgc.cell e1 (by simp)
                  have HGB := Lib.hid hgb
                  have hcase : Hid (0 = 0) := rfl
                  clear hb hgb hgc)
               | (have hgb := below_grown (w := wa.alloc (.cells #[.int .u32 0, .int .u32 0] 32)) hb rfl rfl rfl rfl none
                  have d0 := hgb.cell c4 (by simp)
                  have d1 := hgb.cell c5 (by simp)
                  have e0 := hgb.cell y4 (by simp)
                  have e1 := hgb.cell y5 (by simp)
                  have n0 := hgb.cell HAN.out.1.1 (by simp)
                  have n1 := hgb.cell HAN.out.2.1 (by simp)
                  have g0 : wb.frozen? ⟨wa.heap.size, 0, none⟩ = false := (hgb.frozen_far _ (by simp) (by simp)).trans HAN.out.1.2
                  have g1 : wb.frozen? ⟨wa.heap.size, 1, none⟩ = false := (hgb.frozen_far _ (by simp) (by simp)).trans HAN.out.2.2
                  have HGB := Lib.hid hgb
                  have hcase : Hid (1 = 1) := rfl
                  clear hb hgb)
             obtain ⟨mw, hmw⟩ : ∃ mw, mw = mulW (x.1, x.2) (y.1, y.2) := ⟨_, rfl⟩
             rw [← hmw]
             have hmw2 : mw = turn (k + 1) LO j := by unfold turn; rw [← HX.out, ← HY.out]; exact hmw
             have HM := Lib.hid hmw2
             clear hmw hmw2
             have hBa : B < wa.heap.size := cell_lt c0
             have hOa : OD < wa.heap.size := cell_lt y0
             have hga := World.grownBy_alloc wb (.cells #[.int .u32 mw.1, .int .u32 mw.2] 32) none
             have hgs := grown_set2 wb wa.heap.size 0 1 (.int .u32 mw.1) (.int .u32 mw.2)
             have d8 := hga.cell d0 (by simp)
             have d9 := hga.cell d1 (by simp)
             have e8 := hga.cell e0 (by simp)
             have e9 := hga.cell e1 (by simp)
             have d6 := hgs.cell d0 (fun e => by have := Option.some.inj e; dsimp only at this; omega)
             have d7 := hgs.cell d1 (fun e => by have := Option.some.inj e; dsimp only at this; omega)
             have e6 := hgs.cell e0 (fun e => by have := Option.some.inj e; dsimp only at this; omega)
             have e7 := hgs.cell e1 (fun e => by have := Option.some.inj e; dsimp only at this; omega)
             clear hBa hOa hga hgs
             unfold num
             go_simp))
      all_goals
        first
          | (have hgw : wa.grownBy (wb.alloc (.cells #[.int .u32 mw.1, .int .u32 mw.2] 32)) none := grown_trans HGB.out (World.grownBy_alloc _ _ _)
             have m0 := (new_cell wb #[.int .u32 mw.1, .int .u32 mw.2] 32 0 (.int .u32 mw.1) rfl).1
             have m1 := (new_cell wb #[.int .u32 mw.1, .int .u32 mw.2] 32 1 (.int .u32 mw.2) rfl).1
             obtain ⟨wc, hwc⟩ : ∃ wc, wc = wb.alloc (.cells #[.int .u32 mw.1, .int .u32 mw.2] 32) := ⟨_, rfl⟩
             obtain ⟨B2, hB2⟩ : ∃ B2, B2 = wb.heap.size := ⟨_, rfl⟩
             have hb2 : wa.heap.size ≤ B2 := by rw [hB2]; exact HGB.out.size
             clear d0 d1 d4 d5 d6 d7 d8 d9 e0 e1 e4 e5 e6 e7 e8 e9
             rw [← hwc, ← hB2] at m0 m1
             rw [← hwc] at hgw ⊢
             rw [← hB2]
             clear hwc hB2)
          | (have hgw : wa.grownBy ((wb.setCell ⟨wa.heap.size, 0, none⟩ (.int .u32 mw.1)).setCell ⟨wa.heap.size, 1, none⟩ (.int .u32 mw.2)) none := ((World.grownBy_alloc wa _ none).trans HGB.out).andThen (grown_set2 wb wa.heap.size 0 1 _ _) (fun _ e => .inl (by cases e; exact Nat.le_refl _))
             have m0 : ((wb.setCell ⟨wa.heap.size, 0, none⟩ (.int .u32 mw.1)).setCell ⟨wa.heap.size, 1, none⟩ (.int .u32 mw.2)).cell? ⟨wa.heap.size, 0, none⟩ = some (.int .u32 mw.1) := by
               rw [World.cell?_setCell_other _ _ _ _ (by simp)]; exact World.cell?_setCell_same _ _ _ n0
             have m1 : ((wb.setCell ⟨wa.heap.size, 0, none⟩ (.int .u32 mw.1)).setCell ⟨wa.heap.size, 1, none⟩ (.int .u32 mw.2)).cell? ⟨wa.heap.size, 1, none⟩ = some (.int .u32 mw.2) :=
               World.cell?_setCell_same _ _ _ (by rw [World.cell?_setCell_other _ _ _ _ (by simp)]; exact n1)
             obtain ⟨wc, hwc⟩ : ∃ wc, wc = (wb.setCell ⟨wa.heap.size, 0, none⟩ (.int .u32 mw.1)).setCell ⟨wa.heap.size, 1, none⟩ (.int .u32 mw.2) := ⟨_, rfl⟩
             obtain ⟨B2, hB2⟩ : ∃ B2, B2 = wa.heap.size := ⟨_, rfl⟩
             have hb2 : wa.heap.size ≤ B2 := by rw [hB2]; exact Nat.le_refl _
             clear d0 d1 d6 d7 d8 d9 e0 e1 e6 e7 e8 e9 n0 n1 g0 g1
             rw [← hwc] at m0 m1 hgw ⊢
             rw [← hB2] at m0 m1 ⊢
             clear hwc hB2)
        have hlc := HLP1.out.still hgw
        obtain ⟨v0, v1⟩ := (hlc.num (EV, LE) (by simp)).1 j z (by rw [HZ.out]; exact at2_at (by rw [KE.out]; exact hlt))
        rw [Nat.mul_comm] at v0 v1
        dsimp only at v0 v1
        have hkp : Kp w wc OUT m Cn n B2 EV j [(FA, facL (firstW (k + 1)) n), (OD, LO), (EV, LE)] (partL h (turn (k + 1) LO) (at2 LE) j) mw z :=
          ⟨hlc, HO1.out.kept hgw (.inr (by simp [Value.ownBlock])), m0, m1, v0, v1⟩
        have KP := Lib.hid hkp
        have HBO : Hid (B2 ≠ OUT) := by have := (HO1.out.lt OUT rfl).2; show B2 ≠ OUT; omega
        have HEO : Hid (EV ≠ OUT) := (hlc.num (EV, LE) (by simp)).2
        clear hb2 hkp hlc hgw c0 c1 c4 c5 y0 y1 y4 y5 f0 f1 m0 m1 v0 v1
        have hjn : j < n := by have := Hnh.out; omega
        have hqn : q < n := by have := Hnh.out; have := HQ.out; omega
        have i5 : IntKind.i64.wrap ((j : Int) + (h : Int)) = (q : Int) := by
          rw [show (j : Int) + (h : Int) = (q : Int) by have := HQ.out; omega]
          exact IntWalk.i64_in _ (by have := H64.out; omega)
        have i6 : (q : Int) < n := by omega
        have i7 : (0 : Int) ≤ q := by omega
        have i8 : (j : Int) < n := by omega
        have HJQ : Hid (j ≠ q) := by have := HQ.out; have := H1.out; show j ≠ q; omega
        have HJN := Lib.hid hjn
        have HQN := Lib.hid hqn
        clear hjn hqn
        go_wp2_with fail
        obtain ⟨p0, p1, o0, o1, r0, r1⟩ := KP.out.room j HJN.out
        obtain ⟨p2, p3, o2, o3, r2, r3⟩ := KP.out.room q HQN.out
        obtain ⟨t0, t1, t2, t3⟩ := room_two HJQ.out o2 o3 r2 r3
        obtain ⟨m0, m1, v0, v1⟩ := KP.out.keep
        go_region_held3 (fun w' => w'.cell? ⟨B2, 0, none⟩ = some (.int .u32 mw.1) ∧ w'.cell? ⟨B2, 1, none⟩ = some (.int .u32 mw.2) ∧ w'.cell? ⟨EV, j * 2, none⟩ = some (.int .u32 z.1) ∧ w'.cell? ⟨EV, j * 2 + 1, none⟩ = some (.int .u32 z.2))
          (first | exact KP.out.keep | exact KP.out.far HBO.out HEO.out (grown_set2 _ _ _ _ _ _) | exact KP.out.far HBO.out HEO.out (grown_trans (grown_set2 _ _ _ _ _ _) (grown_set2 _ _ _ _ _ _)))
          (first
           | (go_at_call 13
              refine (add_any z.1 z.2 mw.1 mw.2 _).mono ?_
              rintro e wd ⟨rfl, hb⟩
              have KP := Lib.hid (KP.out.step hb)
              clear o0 o1 r0 r1 o2 o3 r2 r3 m0 m1 v0 v1 t0 t1 t2 t3 hb
              obtain ⟨p0, p1, o0, o1, r0, r1⟩ := KP.out.room j HJN.out
              obtain ⟨p2, p3, o2, o3, r2, r3⟩ := KP.out.room q HQN.out
              obtain ⟨t0, t1, t2, t3⟩ := room_two HJQ.out o2 o3 r2 r3
              obtain ⟨m0, m1, v0, v1⟩ := KP.out.keep
              obtain ⟨s, hvs⟩ : ∃ x, x = addW z mw := ⟨_, rfl⟩
              have e1 : fop .add z.1 mw.1 = s.1 := by rw [hvs]; rfl
              have e2 : fop .add z.2 mw.2 = s.2 := by rw [hvs]; rfl
              rw [e1, e2]
              have Hvs := Lib.hid hvs
              clear e1 e2 hvs
              go_simp)
           | (go_at_call 14
              refine (sub_any z.1 z.2 mw.1 mw.2 _).mono ?_
              rintro e wd ⟨rfl, hb⟩
              have KP := Lib.hid (KP.out.step hb)
              clear o0 o1 r0 r1 o2 o3 r2 r3 m0 m1 v0 v1 t0 t1 t2 t3 hb
              obtain ⟨p0, p1, o0, o1, r0, r1⟩ := KP.out.room j HJN.out
              obtain ⟨p2, p3, o2, o3, r2, r3⟩ := KP.out.room q HQN.out
              obtain ⟨t0, t1, t2, t3⟩ := room_two HJQ.out o2 o3 r2 r3
              obtain ⟨m0, m1, v0, v1⟩ := KP.out.keep
              obtain ⟨d, hvd⟩ : ∃ x, x = subW z mw := ⟨_, rfl⟩
              have e1 : fop .sub z.1 mw.1 = d.1 := by rw [hvd]; rfl
              have e2 : fop .sub z.2 mw.2 = d.2 := by rw [hvd]; rfl
              rw [e1, e2]
              have Hvd := Lib.hid hvd
              clear e1 e2 hvd
              go_simp))
        all_goals
          have hown2 := Ow.set2' (Ow.set2' KP.out.own j s.1 s.2) q d.1 d.2
          have hps := partL_step h (turn (k + 1) LO) (at2 LE) j hlt
          rw [← HM.out, ← HZ.out, ← Hvs.out, ← Hvd.out, ← HQ.out] at hps
          have hown3 : ((((wd.setCell ⟨OUT, j * 2, none⟩ (.int .u32 s.1)).setCell ⟨OUT, j * 2 + 1, none⟩ (.int .u32 s.2)).setCell ⟨OUT, q * 2, none⟩ (.int .u32 d.1)).setCell ⟨OUT, q * 2 + 1, none⟩ (.int .u32 d.2)).ownsRow OUT 32 2 (.slice (some ⟨OUT, 0, none⟩) n n) n (cellsN (partL h (turn (k + 1) LO) (at2 LE) (j + 1))) := by
            rw [← hps]
            exact hown2
          have hlp3 := KP.out.lp.wrote (grown_trans (grown_set2 wd OUT (j * 2) (j * 2 + 1) (.int .u32 s.1) (.int .u32 s.2)) (grown_set2 _ OUT (q * 2) (q * 2 + 1) (.int .u32 d.1) (.int .u32 d.2)))
          have HOWN3 := Lib.hid hown3
          have HLP3 := Lib.hid hlp3
          clear hown2 hps hown3 hlp3 o0 o1 r0 r1 o2 o3 r2 r3 m0 m1 v0 v1 t0 t1 t2 t3
          go_wp2
          go_roundw
          case rel => exact ⟨j + 1, congrArg (Value.int .i64) (by omega), by omega, HLP3.out, HOWN3.out⟩
          case measure => simp [intOf]; omega
    · have hjh : j = h := by have := HJ.out; omega
      have HJH := Lib.hid hjh
      have i2 : ¬ (j : Int) < h := by omega
      clear hjh
      go_wp2
      go_ret
      first | refine ⟨OUT, ⟨n, rfl, Nat.le_refl _⟩, ?_, HLP.out.size.1, ?_, HLP.out.grown⟩ | refine ⟨OUT, n, ⟨rfl, Nat.le_refl _⟩, ?_, HLP.out.size.1, ?_, HLP.out.grown⟩ | refine ⟨OUT, ?_, HLP.out.size.1, ?_, HLP.out.grown⟩
      · have := Num.of_own HO.out
        rw [HJH.out] at this
        show Num wr OUT (partL (2 ^ k) (turn (k + 1) (trL k (picks L 1 (2 ^ k)))) (at2 (trL k (picks L 0 (2 ^ k)))) (2 ^ k))
        rw [← Hh.out, ← HLO.out, ← HLE.out]
        exact this
      · obtain ⟨D, a, b⟩ := HLP.out.tm.imp (Q' := fun _ => True) (fun _ _ _ => trivial)
        exact ⟨D, a.mono (by have := HCn.out; have := Nat.two_pow_pos k; rw [Nat.pow_succ]; omega), b⟩

theorem tr_any : ∀ (k : Nat), k ≤ 6 → ∀ (n cap b m c : Nat) (L : List (Nat × Nat)) (w : World), n = 2 ^ k → L.length = n → Num w b L → b ≠ m → Tm w m c (fun _ => True) → c + (2 ^ k - 1) ≤ 900 →
      Calls Try.prog 60 #[.agg #[.map (some m)], .slice (some ⟨b, 0, none⟩) n cap] w fun e w' => ∃ g cap', (e = .returned (.slice (some ⟨g, 0, none⟩) n cap') ∧ n ≤ cap') ∧ Num w' g (trL k L) ∧ w.heap.size ≤ g ∧ Tm w' m (c + (2 ^ k - 1)) (fun _ => True) ∧ w.grownBy w' (some m)
  | 0, _, n, cap, b, m, c, L, w, hn, hL, hN, _, hT, _ => by
    have hn1 : n = 1 := hn
    subst hn1
    exact tr_zero cap b m c L w hL hN hT
  | k + 1, hk, n, cap, b, m, c, L, w, hn, hL, hN, hbm, hT, hc => tr_succ k hk (tr_any k (by omega)) n cap b m c L w hn hL hN hbm hT hc

end Nu
end Go.Proofs.Ytkkdimhibfpopaa
