/- Contracts: the value of a polynomial. -/
import Derived.Test.YtkkdimhibfpopaaT2
import Derived.Deep.RegionWith
namespace Go.Proofs.Ytkkdimhibfpopaa
open Go.ChangeShapes Go.WideShapes Go.ChangeAt Go.RowKit Go.WideMaps Go.Maps
namespace Nu

/-- The sum behind t turns. -/
def hornW (L : List (Nat × Nat)) (x : Nat × Nat) : Nat → Nat × Nat
  | 0 => can2 (at2 L (L.length - 1))
  | t + 1 => addW (at2 L (L.length - 2 - t)) (mulW x (hornW L x t))
def polyW (L : List (Nat × Nat)) (x : Nat × Nat) : Nat × Nat := if L.length = 0 then (0, 0) else hornW L x (L.length - 1)

theorem Mem.put {W : World} {r o : Nat} {v : Value} : ∀ {L : List (Nat × Nat × Value)}, Mem W L → (∀ x ∈ L, x.1 ≠ r) → Mem (W.setCell ⟨r, o, none⟩ v) L
  | [], _, _ => trivial
  | (b, o', u) :: l, ⟨⟨h1, h2⟩, h3⟩, hr => by
    have hne : b ≠ r := hr (b, o', u) (List.mem_cons_self ..)
    exact ⟨⟨by rw [World.cell?_setCell_other _ _ _ _ (fun e => hne (congrArg Addr.block e).symm)]; exact h1, by rw [World.frozen?_setCell]; exact h2⟩, Mem.put h3 (fun x hx => hr x (List.mem_cons_of_mem _ hx))⟩

theorem At.put2 {w W : World} {r : Nat} {u v u' v' : Value} {L : List (Nat × Nat × Value)} (h : At w W ((r, 0, u) :: (r, 1, v) :: L)) (hr : w.heap.size ≤ r) (hL : ∀ x ∈ L, x.1 ≠ r) :
    At w ((W.setCell ⟨r, 0, none⟩ u').setCell ⟨r, 1, none⟩ v') ((r, 0, u') :: (r, 1, v') :: L) := by
  obtain ⟨⟨h0, f0⟩, ⟨h1, f1⟩, h2⟩ := h.mem
  have e0 : (W.setCell ⟨r, 0, none⟩ u').cell? ⟨r, 0, none⟩ = some u' := World.cell?_setCell_same _ _ _ h0
  have e1 : (W.setCell ⟨r, 0, none⟩ u').cell? ⟨r, 1, none⟩ = some v := by rw [World.cell?_setCell_other _ _ _ _ (by simp)]; exact h1
  refine ⟨(h.below.setCell (p := ⟨r, 0, none⟩) hr _).setCell (p := ⟨r, 1, none⟩) hr _, ⟨?_, ?_⟩, ⟨World.cell?_setCell_same _ _ _ e1, ?_⟩, (h2.put hL).put hL⟩
  · rw [World.cell?_setCell_other _ _ _ _ (by simp)]; exact e0
  · rw [World.frozen?_setCell, World.frozen?_setCell]; exact f0
  · rw [World.frozen?_setCell, World.frozen?_setCell]; exact f1

theorem At.swap2 {w W : World} {a b c d : Nat × Nat × Value} {L : List (Nat × Nat × Value)} (h : At w W (a :: b :: c :: d :: L)) : At w W (c :: d :: a :: b :: L) := by
  obtain ⟨h0, ⟨p0, p1, p2, p3, p4⟩⟩ := h
  exact ⟨h0, p2, p3, p0, p1, p4⟩

set_option maxHeartbeats 1000000 in
theorem poly_nil (ao : Option Addr) (cap x y : Nat) (w : World) : Calls Try.prog 28 #[.slice ao 0 cap, .agg #[.int .u32 x, .int .u32 y]] w fun e w' => e = .returned (num (0, 0)) ∧ Below w.heap.size w w' := by
  have hA := ((At.first w).two (.int .u32 x) (.int .u32 y) 32 _ rfl).two (.int .u32 0) (.int .u32 0) 32 (w.heap.size + 1) (by simp)
  obtain ⟨W0, hW0⟩ : ∃ W0, W0 = (w.alloc (.cells #[.int .u32 x, .int .u32 y] 32)).alloc (.cells #[.int .u32 0, .int .u32 0] 32) := ⟨_, rfl⟩
  rw [← hW0] at hA
  have HA := Lib.hid hA
  have HW := Lib.hid hW0
  clear hA hW0
  go_enter Try.func28, Try.ntmps28
  go_upto_region 1 with (fail)
  rw [← HW.out]
  clear HW
  obtain ⟨⟨c0, f0⟩, ⟨c1, f1⟩, -⟩ := HA.out.mem
  go_wp2
  have HE := At.end2 (x := .int .u32 0) (y := .int .u32 0) HA.out (by omega)
  obtain ⟨e0, e1, hb⟩ := HE
  have HB := Lib.hid hb
  clear hb c0 c1 f0 f1
  exact bodyPost_ret (v := .agg #[.int .u32 0, .int .u32 0]) (by simp [results, Try.results28, go_sem, e0, e1]) rfl ⟨rfl, HB.out⟩

set_option maxRecDepth 100000 in
set_option maxHeartbeats 4000000 in
theorem poly_any (n b cap : Nat) (L : List (Nat × Nat)) (x : Nat × Nat) (w : World) (hL : L.length = n) (hn : 1 ≤ n) (h200 : n ≤ 200) (hN : Num w b L) :
    Calls Try.prog 28 #[.slice (some ⟨b, 0, none⟩) n cap, .agg #[.int .u32 x.1, .int .u32 x.2]] w fun e w' => e = .returned (num (polyW L x)) ∧ Below w.heap.size w w' := by
  have hA := ((At.first w).two (.int .u32 x.1) (.int .u32 x.2) 32 _ rfl).two (.int .u32 0) (.int .u32 0) 32 (w.heap.size + 1) (by simp)
  obtain ⟨W0, hW0⟩ : ∃ W0, W0 = (w.alloc (.cells #[.int .u32 x.1, .int .u32 x.2] 32)).alloc (.cells #[.int .u32 0, .int .u32 0] 32) := ⟨_, rfl⟩
  have hsz : W0.heap.size = w.heap.size + 2 := by rw [hW0]; simp
  rw [← hW0] at hA
  have hbw : b < w.heap.size := hN.lt (fun e => by rw [e] at hL; simp at hL; omega)
  obtain ⟨l0, l1⟩ := (hN.below rfl hA.below) (n - 1) (at2 L (n - 1)) (at2_at (by omega))
  rw [Nat.mul_comm] at l0 l1
  obtain ⟨last, hlast⟩ : ∃ x, x = at2 L (n - 1) := ⟨_, rfl⟩
  rw [← hlast] at l0 l1
  obtain ⟨q, hq⟩ : ∃ q, q = n - 1 := ⟨_, rfl⟩
  rw [← hq] at l0 l1
  have HLA := Lib.hid hlast
  have HQ := Lib.hid hq
  have HA := Lib.hid hA
  have HW := Lib.hid hW0
  have HN := Lib.hid hN
  have HL := Lib.hid hL
  have HSZ := Lib.hid hsz
  have HBW := Lib.hid hbw
  have i1 : ¬ (n : Int) = 0 := by omega
  have i2 : IntKind.i64.wrap ((n : Int) - 1) = (q : Int) := by rw [show (n : Int) - 1 = (q : Int) by omega]; exact IntWalk.i64_in _ (by omega)
  have i3 : (q : Int) < n := by omega
  have i4 : (0 : Int) ≤ q := by omega
  have i5 : IntKind.i64.wrap ((n : Int) - 2) = (n : Int) - 2 := IntWalk.i64_in _ (by omega)
  have hn' := Lib.hid hn
  have h2' := Lib.hid h200
  clear hA hW0 hN hL hlast hq hsz hbw hn h200
  go_enter Try.func28, Try.ntmps28
  go_upto_region 1 with (fail)
  rw [← HW.out]
  clear HW
  go_wp2_with (first
    | (go_at_call 48; refine (value_any _ _ _).mono ?_; rintro e w1 ⟨rfl, hb1⟩; have HA := Lib.hid (HA.out.step hb1); have hs1 := Lib.hid hb1.size; clear hb1 l0 l1)
    | (go_at_call 47; refine (number_any _ _ _).mono ?_; rintro e w2 ⟨rfl, hb1⟩; have HA := Lib.hid (HA.out.step hb1); have hs2 := Lib.hid hb1.size; clear hb1; rw [canon_canon, canon_canon]))
  have hs : w.heap.size + 2 ≤ w2.heap.size := by have := HSZ.out; have := hs1.out; have := hs2.out; omega
  have hA := HA.out.two (.int .u32 (canon last.1)) (.int .u32 (canon last.2)) 32 _ rfl
  obtain ⟨B3, hB3⟩ : ∃ B3, B3 = w2.heap.size := ⟨_, rfl⟩
  obtain ⟨W, hW⟩ : ∃ W, W = w2.alloc (.cells #[.int .u32 (canon last.1), .int .u32 (canon last.2)] 32) := ⟨_, rfl⟩
  rw [← hB3] at hs hA ⊢
  rw [← hW] at hA ⊢
  clear hW hB3
  have HA := Lib.hid hA
  have HS := Lib.hid hs
  clear hA hs hs1 hs2
  go_loopw [6] (fun v wr => ∃ t : Nat, v = .int .i64 ((n : Int) - 2 - t) ∧ t + 1 ≤ n ∧ At w wr [(B3, 0, .int .u32 (hornW L x t).1), (B3, 1, .int .u32 (hornW L x t).2), (w.heap.size + 1, 0, .int .u32 0), (w.heap.size + 1, 1, .int .u32 0), (w.heap.size, 0, .int .u32 x.1), (w.heap.size, 1, .int .u32 x.2)]) (fun v _ => (intOf v + 3).toNat)
  case atStart =>
    refine ⟨0, by simp, hn'.out, ?_⟩
    have e : hornW L x 0 = (canon last.1, canon last.2) := by rw [HLA.out]; unfold hornW can2; rw [HL.out]
    rw [e]
    exact HA.out
  case round =>
    obtain ⟨t, rfl, ht, ha⟩ := hrel
    have HA := Lib.hid ha
    have HT := Lib.hid ht
    clear ha ht i1 i2 i3 i4 i5
    obtain ⟨s, hs⟩ : ∃ s, s = hornW L x t := ⟨_, rfl⟩
    rw [← hs] at HA
    have Hs := Lib.hid hs
    clear hs
    by_cases hlt : t + 1 < n
    · obtain ⟨q2, hq2⟩ : ∃ q2, q2 = n - 2 - t := ⟨_, rfl⟩
      have e : (n : Int) - 2 - t = (q2 : Int) := by omega
      rw [e]
      have hqn : q2 < n := by omega
      obtain ⟨u, hu⟩ : ∃ u, u = at2 L q2 := ⟨_, rfl⟩
      have hat : L[q2]? = some u := by rw [hu]; exact at2_at (by rw [HL.out]; exact hqn)
      have i3 : (q2 : Int) < n := by omega
      have i4 : (0 : Int) ≤ q2 := by omega
      have i6 : IntKind.i64.wrap ((q2 : Int) - 1) = (q2 : Int) - 1 := IntWalk.i64_in _ (by have := h2'.out; omega)
      have HU := Lib.hid hat
      have Hu := Lib.hid hu
      have Hq2 := Lib.hid hq2
      have HE := Lib.hid e
      have HLT := Lib.hid hlt
      clear hat hu hq2 e hqn hlt
      go_wp2_with fail
      obtain ⟨⟨s0, g0⟩, ⟨s1, g1⟩, ⟨z0, y0⟩, ⟨z1, y1⟩, ⟨c0, f0⟩, ⟨c1, f1⟩, -⟩ := HA.out.mem; obtain ⟨l0, l1⟩ := (HN.out.below rfl HA.out.below) q2 u HU.out; rw [Nat.mul_comm] at l0 l1
      go_region_with (first
        | (go_at_call 15; refine (mul_any x.1 x.2 s.1 s.2 _).mono ?_; rintro e w3 ⟨rfl, hb1⟩; clear s0 g0 s1 g1 z0 y0 z1 y1 c0 f0 c1 f1 l0 l1; have HA := Lib.hid (HA.out.step hb1); obtain ⟨⟨s0, g0⟩, ⟨s1, g1⟩, ⟨z0, y0⟩, ⟨z1, y1⟩, ⟨c0, f0⟩, ⟨c1, f1⟩, -⟩ := HA.out.mem; obtain ⟨l0, l1⟩ := (HN.out.below rfl HA.out.below) q2 u HU.out; rw [Nat.mul_comm] at l0 l1; clear hb1; obtain ⟨m, hm⟩ : ∃ m, m = mulW (x.1, x.2) (s.1, s.2) := ⟨_, rfl⟩; rw [← hm]; have HM := Lib.hid hm; clear hm; unfold num)
        | (go_at_call 13; refine (add_any u.1 u.2 m.1 m.2 _).mono ?_; rintro e w3 ⟨rfl, hb1⟩; clear s0 g0 s1 g1 z0 y0 z1 y1 c0 f0 c1 f1 l0 l1; have HA := Lib.hid (HA.out.step hb1); obtain ⟨⟨s0, g0⟩, ⟨s1, g1⟩, ⟨z0, y0⟩, ⟨z1, y1⟩, ⟨c0, f0⟩, ⟨c1, f1⟩, -⟩ := HA.out.mem; obtain ⟨l0, l1⟩ := (HN.out.below rfl HA.out.below) q2 u HU.out; rw [Nat.mul_comm] at l0 l1; clear hb1))
      all_goals
        have hh : hornW L x (t + 1) = (fop .add u.1 m.1, fop .add u.2 m.2) := by
          show addW (at2 L (L.length - 2 - t)) (mulW x (hornW L x t)) = _
          rw [HL.out, ← Hq2.out, ← Hu.out, ← Hs.out, ← show m = mulW x s from HM.out]
          rfl
        have hA := HA.out.put2 (u' := .int .u32 (hornW L x (t + 1)).1) (v' := .int .u32 (hornW L x (t + 1)).2) (by have := HS.out; omega) (by have := HS.out; intro z hz; simp at hz; rcases hz with rfl | rfl | rfl | rfl <;> (dsimp only; omega))
        rw [hh] at hA
        have HA2 := Lib.hid hA
        have HH := Lib.hid hh
        clear hA hh
        clear s0 g0 s1 g1 z0 y0 z1 y1 c0 f0 c1 f1 l0 l1
        go_wp2
        go_roundw
        case rel => exact ⟨t + 1, congrArg (Value.int .i64) (by have := HE.out; omega), by have := HLT.out; omega, by rw [HH.out]; exact HA2.out⟩
        case measure => simp [intOf]; omega
    · have htn : t + 1 = n := by have := HT.out; omega
      have e : (n : Int) - 2 - t = -1 := by omega
      rw [e]
      have HTN := Lib.hid htn
      clear hlt htn e
      obtain ⟨⟨s0, g0⟩, ⟨s1, g1⟩, ⟨z0, y0⟩, ⟨z1, y1⟩, -⟩ := HA.out.mem
      go_wp2
      have hE := HA.out.swap2.put2 (u' := .int .u32 s.1) (v' := .int .u32 s.2) (by omega) (by have := HS.out; intro z hz; simp at hz; rcases hz with rfl | rfl | rfl | rfl <;> (dsimp only; omega))
      obtain ⟨⟨e0, -⟩, ⟨e1, -⟩, -⟩ := hE.mem
      have HB := Lib.hid hE.below
      clear hE s0 g0 s1 g1 z0 y0 z1 y1
      exact bodyPost_ret (v := .agg #[.int .u32 s.1, .int .u32 s.2]) (by simp [results, Try.results28, go_sem, e0, e1]) rfl ⟨by
        have hp : polyW L x = s := by
          unfold polyW
          rw [if_neg (by rw [HL.out]; have := hn'.out; omega), HL.out, Hs.out, show n - 1 = t by have := HTN.out; omega]
        rw [hp]; rfl, HB.out⟩

end Nu
end Go.Proofs.Ytkkdimhibfpopaa
