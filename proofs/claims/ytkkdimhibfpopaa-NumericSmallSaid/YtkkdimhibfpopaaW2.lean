/- Contracts: the factors of a size, the inverse transform. -/
import Derived.Test.YtkkdimhibfpopaaW1
namespace Go.Proofs.Ytkkdimhibfpopaa
open Go.ChangeShapes Go.WideShapes Go.ChangeAt Go.RowKit Go.WideMaps Go.Maps
namespace Nu

theorem run_store_float {P : Program} {w : World} {a : Addr} {m : Mode} (k : FloatKind) (x : Nat) : (store a (.float k x) m).run P w = stored P w a (.float k x) m := run_store P w a _ m rfl
attribute [local go_sem] run_store_float

theorem twiddles_two (k n : Nat) (hk : k ≤ 6) (hn : n = 2 ^ k) (w : World) :
    Calls Try.prog 32 #[.int .i64 n] w fun e w' => ∃ g cap, e = .returned (.tuple #[.slice (some ⟨g, 0, none⟩) n cap, .int .i64 0]) ∧ Num w' g (facL (firstW k) n) ∧ w.heap.size ≤ g ∧ Below w.heap.size w w' := by
  have Hn := Lib.hid hn
  clear hn
  go_enter Try.func32, Try.ntmps32
  go_wp2_with (first
    | (go_at_call 57; refine (isSize_two k n hk Hn.out _).mono ?_; rintro e w' ⟨rfl, rfl⟩)
    | (go_at_call 58; refine (factors_two k n hk Hn.out _).mono ?_; rintro e w1 ⟨g, cap, rfl, hr, hb⟩; have HR := Lib.hid hr; have HB := Lib.hid hb; clear hr hb))
  go_ret2
  exact ⟨g, cap, rfl, Num.of_own HR.out, (HR.out.lt g rfl).1, HB.out⟩

/-- The inverse transform of 2^k numbers. -/
def invL (k : Nat) (L : List (Nat × Nat)) : List (Nat × Nat) := (trL k (L.map conjW)).map (invW (floatOfInt .f32 ((2 ^ k : Nat) : Int)))

set_option maxRecDepth 100000 in
set_option maxHeartbeats 4000000 in
theorem transform_inv (k n cap b : Nat) (L : List (Nat × Nat)) (w : World) (hk : k ≤ 6) (hn : n = 2 ^ k) (hL : L.length = n) (hN : Num w b L) :
    Calls Try.prog 34 #[.slice (some ⟨b, 0, none⟩) n cap, .bool true] w fun e w' => ∃ g cap', e = .returned (.tuple #[.slice (some ⟨g, 0, none⟩) n cap', .int .i64 0]) ∧ Num w' g (invL k L) ∧ w.heap.size ≤ g ∧ Below w.heap.size w w' := by
  have h64 : n ≤ 64 := by rw [hn]; exact Nat.le_trans (Nat.pow_le_pow_right (by omega) hk) (by decide)
  obtain ⟨fl, hfl⟩ : ∃ fl, fl = floatOfInt .f32 (n : Int) := ⟨_, rfl⟩
  have hT0 : Tm (w.alloc (.map #[] 0)) w.heap.size 0 (fun _ => True) := ⟨_, World.ownsMap_made w _ _ _, ⟨[], rfl⟩, fun k _ => .inl rfl⟩
  have hT1 := hT0.kept (World.grownBy_alloc (w.alloc (.map #[] 0)) (.cells #[.map (some w.heap.size)] 92) none) (by simp) (fun _ _ _ => by simp)
  have hA1 := ((At.first w).alloc (.map #[] 0)).one (.map (some w.heap.size)) 92 (w.heap.size + 1) (by simp)
  obtain ⟨W1, hW1⟩ : ∃ W1, W1 = (w.alloc (.map #[] 0)).alloc (.cells #[.map (some w.heap.size)] 92) := ⟨_, rfl⟩
  rw [← hW1] at hA1 hT1
  have hsz1 : W1.heap.size = w.heap.size + 2 := by rw [hW1]; simp
  have hT2 := hT1.kept (World.grownBy_alloc W1 (.cells #[.float .f32 fl] 29) none) (by simp) (fun _ _ _ => by simp)
  have hA := hA1.one (.float .f32 fl) 29 W1.heap.size rfl
  obtain ⟨W0, hW0⟩ : ∃ W0, W0 = W1.alloc (.cells #[.float .f32 fl] 29) := ⟨_, rfl⟩
  rw [← hW0] at hA hT2
  have hsz : W0.heap.size = w.heap.size + 3 := by rw [hW0]; simp [hsz1]
  have hN0 : Num W0 b L := hN.below rfl hA.below
  have HA := Lib.hid hA
  have HT := Lib.hid hT2
  have HW1 := Lib.hid hW1
  have HW := Lib.hid hW0
  have HSZ := Lib.hid hsz
  have HSZ1 := Lib.hid hsz1
  have HN := Lib.hid hN0
  have HL := Lib.hid hL
  have Hn := Lib.hid hn
  have H64 := Lib.hid h64
  have HFL := Lib.hid hfl
  clear hT0 hT1 hT2 hA1 hA hW0 hW1 hsz hsz1 hN hN0 hL hn h64 hfl
  have hmm := @run_makeMap Try.prog
  have hmf : ∀ (fn : Fn) (first cap : Array Value) (w : World), (Instr.makeFunc fn first cap).run Try.prog w = .ok (.func fn first cap) w := fun _ _ _ _ => rfl
  have hsi : (Try.prog.underlying 3).isSome = true := by kernel_rfl
  have hsd : Try.prog.underlying 29 = some (.float .f32) := by kernel_rfl
  have hcv : ∀ (w : World), (convert 3 29 (.int .i64 n)).run Try.prog w = .ok (.float .f32 fl) w := fun w => by rw [HFL.out]; exact run_convert_int_float w _ _ _ _ _ hsi hsd
  clear hsi hsd
  go_enter Try.func34, Try.ntmps34
  go_upto_region 6 with (first
    | (go_at_call 57; refine (isSize_two k n hk Hn.out _).mono ?_; rintro e w' ⟨rfl, rfl⟩))
  rw [← HW1.out]
  clear HW1 hmm
  go_upto_region 7 with (fail)
  rw [← HW.out]
  clear HW
  obtain ⟨⟨cn, -⟩, ⟨cb, -⟩, -⟩ := HA.out.mem
  clear hcv
  go_region_held3 (fun w' => w'.cell? ⟨w.heap.size + 1, 0, none⟩ = some (.map (some w.heap.size))) (first | exact cb3 | exact cb2 | exact cb1 | exact cb)
    (first
      | (go_at_call 60
         refine (tr_any k hk n n g1 w.heap.size 0 (L.map conjW) _ Hn.out (by rw [List.length_map]; exact HL.out) HN1.out (by have := HG1.out; have := HSZ.out; omega) HT1.out (by have : 2 ^ k ≤ 2 ^ 6 := Nat.pow_le_pow_right (by omega) hk; omega)).mono ?_
         rintro e w2 ⟨g2, cap2, ⟨rfl, -⟩, hn2, hg2, ht2, hgr2⟩
         have hsz1 := HSZ1.out
         have HN2 := Lib.hid hn2
         have HGR2 := Lib.hid (grown_same hgr2)
         have cb2 : w2.cell? ⟨w.heap.size + 1, 0, none⟩ = some (.map (some w.heap.size)) := HGR2.out.cell cb1 (fun e => by have := Option.some.inj e; dsimp only at this; omega)
         have cn2 : w2.cell? ⟨W1.heap.size, 0, none⟩ = some (.float .f32 fl) := HGR2.out.cell cn1 (fun e => by have := Option.some.inj e; dsimp only at this; omega)
         have HCN2 := Lib.hid cn2
         clear hn2 hg2 ht2 hgr2 cn2 hsz1
         go_simp)
      | (go_at_call 61
         first
           | (refine (each_inv n g2 cap2 (trL k (L.map conjW)) _ (by rw [trL_len, Hn.out]) H64.out ?_ W1.heap.size fl ?_).mono ?_
              exact HN2.out
              exact HCN2.out
              rintro e w3 ⟨g3, rfl, hn3, hg3, hb3⟩
              have HN3 := Lib.hid hn3
              have HG3 := Lib.hid hg3
              have HB3 := Lib.hid hb3
              have cb3 : w3.cell? ⟨w.heap.size + 1, 0, none⟩ = some (.map (some w.heap.size)) := (hb3.cell (p := ⟨w.heap.size + 1, 0, none⟩) (cell_lt cb2)).trans cb2
              clear hn3 hg3 hb3
              go_simp)
           | (refine (each_conj n b cap L _ HL.out H64.out ?_).mono ?_
              exact HN.out
              rintro e w1 ⟨g1, rfl, hn1, hg1, hb1⟩
              have HN1 := Lib.hid hn1
              have hg1' : W0.heap.size ≤ g1 := hg1
              have HG1 := Lib.hid hg1'
              have HA1 := Lib.hid (HA.out.step hb1)
              have cb1 := HA1.out.mem.2.1.1
              have cn1 := HA1.out.mem.1.1
              have hgr1 : W0.grownBy w1 none := grown_same (below_grown hb1 rfl rfl rfl rfl none)
              have HT1 := Lib.hid (HT.out.kept hgr1 (by simp) (fun _ _ _ => by simp))
              clear hn1 hg1 hg1' hb1 hgr1
              go_simp)))
  all_goals
    go_wp2
    go_ret2
    have hgs : w.heap.size ≤ g3 := by
      have h1 := HG3.out
      have h2 := HGR2.out.size
      have h3 := HA1.out.below.size
      have h4 : w2.heap.size ≤ g3 := h1
      omega
    refine ⟨g3, n, rfl, ?_, hgs, ?_⟩
    · have := HN3.out
      rw [HFL.out, Hn.out] at this
      exact this
    · have b1 := HA1.out.below
      have b2 : Below w.heap.size w w2 := b1.grown HGR2.out b1.size (fun k e => by cases e; exact Nat.le_refl _)
      exact b2.grown (grown_same (below_grown HB3.out rfl rfl rfl rfl none)) b2.size (by simp)

end Nu
end Go.Proofs.Ytkkdimhibfpopaa
