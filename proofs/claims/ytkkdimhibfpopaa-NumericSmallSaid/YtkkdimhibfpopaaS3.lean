/- The factors that were computed, kept in a map: asked for, and stored. -/
import Derived.Test.YtkkdimhibfpopaaS2
import Derived.Lib.SliceRun
import Derived.Maps.Own
import Derived.Maps.OwnOps
import Derived.Maps.OwnSet
import Derived.Maps.Views
import Derived.WalkArith
namespace Go.Proofs.Ytkkdimhibfpopaa
open Go.ChangeShapes Go.WideShapes Go.ChangeAt Go.RowKit Go.WideMaps Go.Maps
namespace Nu

/-- How a slice is read here: by its block and its lengths. -/
def slD (b n cap : Nat) : DataW Unit := .agg [.lit (.int .i64 b), .lit (.int .i64 n), .lit (.int .i64 cap)]
def slR (v : Value) : Option (DataW Unit × List MemPlace) := match v with
  | .slice none 0 0 => some (.nil, [])
  | .slice (some ⟨b, 0, none⟩) n cap => some (slD b n cap, [])
  | _ => none

theorem slR_nil {v : Value} {ps : List MemPlace} (h : slR v = some (.nil, ps)) : v = .slice none 0 0 := by
  unfold slR at h
  split at h
  · rfl
  · simp [slD] at h
  · cases h
theorem slR_some {v : Value} {ps : List MemPlace} {b n cap : Nat} (h : slR v = some (slD b n cap, ps)) : v = .slice (some ⟨b, 0, none⟩) n cap := by
  unfold slR at h
  split at h
  · simp [slD] at h
  · simp [slD] at h
    obtain ⟨⟨h1, h2, h3⟩, _⟩ := h
    have e1 := Int.ofNat.inj h1
    have e2 := Int.ofNat.inj h2
    have e3 := Int.ofNat.inj h3
    subst e1 e2 e3
    rfl
  · cases h

/-- The first factor of the size 2^k. -/
def firstW : Nat → Nat × Nat
  | 0 => (1065353216, 2147483648)
  | 1 => (3212836864, 2147483648)
  | 2 => (0, 3212836864)
  | 3 => (1060439283, 3207922931)
  | 4 => (1064076126, 3200511765)
  | 5 => (1065030846, 3192374722)
  | _ => (1065272429, 3184049462)

theorem factors_two (k n : Nat) (hk : k ≤ 6) (hn : n = 2 ^ k) (w : World) :
    Calls Try.prog 58 #[.int .i64 n] w fun e w' => ∃ g cap, e = .returned (.slice (some ⟨g, 0, none⟩) n cap) ∧ w'.ownsRow w.heap.size 32 2 (.slice (some ⟨g, 0, none⟩) n cap) n (cellsN (facL (firstW k) n)) ∧ Below w.heap.size w w' := by
  subst hn
  rcases (show k = 0 ∨ k = 1 ∨ k = 2 ∨ k = 3 ∨ k = 4 ∨ k = 5 ∨ k = 6 by omega) with rfl | rfl | rfl | rfl | rfl | rfl | rfl
  · exact factors_any 1 (by omega) (by omega) 4607182418800017408 0 1065353216 2147483648 angle1 (by decide +kernel) (by decide +kernel) w
  · exact factors_any 2 (by omega) (by omega) 13830554455654793216 0 3212836864 2147483648 angle2 (by decide +kernel) (by decide +kernel) w
  · exact factors_any 4 (by omega) (by omega) 0 4607182418800017408 0 3212836864 angle4 (by decide +kernel) (by decide +kernel) w
  · exact factors_any 8 (by omega) (by omega) 4604544271217802189 4604544271217802189 1060439283 3207922931 angle8 (by decide +kernel) (by decide +kernel) w
  · exact factors_any 16 (by omega) (by omega) 4606496786581982534 4600565431771507042 1064076126 3200511765 angle16 (by decide +kernel) (by decide +kernel) w
  · exact factors_any 32 (by omega) (by omega) 4607009347991985328 4596196889902818828 1065030846 3192374722 angle32 (by decide +kernel) (by decide +kernel) w
  · exact factors_any 64 (by omega) (by omega) 4607139046673687846 4591727299969791023 1065272429 3184049462 angle64 (by decide +kernel) (by decide +kernel) w

theorem law3 : Keyed Try.prog 3 := int_keyed Try.underlying3
theorem zero24 (w : World) : (zeroValue 24).run Try.prog w = .ok (.slice none 0 0) w := by kernel_rfl
theorem key_two (n : Nat) (h : n ≤ 64) : keyOf Try.prog 3 (.int .i64 n) = some (.int .i64 n) := keyOf_int_mk Try.underlying3 (Go.WalkArith.wf_i64 (by omega))

/-- What the map m holds: for each size no factors, or its factors, in a block of which Q tells. -/
def Tm (w : World) (m c : Nat) (Q : Nat → Prop) : Prop :=
  ∃ D : DataW Unit, w.ownsMap Try.prog 3 slR m c D ∧ Maps.IsMap D ∧ ∀ k, k ≤ 6 → D.atKey (.int .i64 ((2 ^ k : Nat) : Int)) .nil = .nil ∨ ∃ g cap, D.atKey (.int .i64 ((2 ^ k : Nat) : Int)) .nil = slD g (2 ^ k) cap ∧ 2 ^ k ≤ cap ∧ Num w g (facL (firstW k) (2 ^ k)) ∧ g ≠ m ∧ Q g

theorem facL_ne (first : Nat × Nat) (n : Nat) (h : 0 < n) : facL first n ≠ [] := by
  intro e
  have := facL_len first n
  rw [e] at this
  simp at this
  omega

theorem Tm.kept {w w' : World} {m c : Nat} {Q : Nat → Prop} {row : Option Nat} (h : Tm w m c Q) (hg : w.grownBy w' row) (hm : some m ≠ row) (hr : ∀ g, Q g → g < w.heap.size → some g ≠ row) : Tm w' m c Q := by
  obtain ⟨D, h1, h0, h2⟩ := h
  refine ⟨D, h1.kept hg hm, h0, fun k hk => ?_⟩
  rcases h2 k hk with h3 | ⟨g, cap, h3, h4, h5, h6, h7⟩
  · exact .inl h3
  · exact .inr ⟨g, cap, h3, h4, h5.grown hg (hr g h7 (h5.lt (facL_ne _ _ (Nat.two_pow_pos k)))), h6, h7⟩
theorem Tm.imp {w : World} {m c : Nat} {Q Q' : Nat → Prop} (h : Tm w m c Q) (hq : ∀ g, g < w.heap.size → Q g → Q' g) : Tm w m c Q' := by
  obtain ⟨D, h1, h0, h2⟩ := h
  refine ⟨D, h1, h0, fun k hk => ?_⟩
  rcases h2 k hk with h3 | ⟨g, cap, h3, h4, h5, h6, h7⟩
  · exact .inl h3
  · exact .inr ⟨g, cap, h3, h4, h5, h6, hq g (h5.lt (facL_ne _ _ (Nat.two_pow_pos k))) h7⟩
theorem Tm.lt {w : World} {m c : Nat} {Q : Nat → Prop} (h : Tm w m c Q) : m < w.heap.size := by
  obtain ⟨D, h1, _⟩ := h
  exact h1.lt
theorem below_grown {w X w' : World} (hb : Below X.heap.size X w') (e1 : X.heap = w.heap) (e2 : X.os = w.os) (e3 : X.tape = w.tape) (e4 : X.output = w.output) (row : Option Nat) : w.grownBy w' row :=
  ⟨hb.os.trans e2, hb.tape.trans e3, hb.output.trans e4, by have := hb.size; rw [e1] at this; exact this, fun k hk _ => by rw [hb.block k (by rw [e1]; exact hk), e1]⟩
theorem below_some {w w' : World} (h : w.grownBy w' none) (row : Option Nat) : w.grownBy w' row := ⟨h.os, h.tape, h.output, h.size, fun k hk _ => h.block k hk (by simp)⟩
theorem grown_trans {w w1 w2 : World} {row : Option Nat} (h : w.grownBy w1 row) (h' : w1.grownBy w2 row) : w.grownBy w2 row :=
  ⟨h'.os.trans h.os, h'.tape.trans h.tape, h'.output.trans h.output, Nat.le_trans h.size h'.size, fun k hk hn => (h'.block k (Nat.lt_of_lt_of_le hk h.size) hn).trans (h.block k hk hn)⟩

theorem Tm.put {w w2 : World} {m c : Nat} {Q : Nat → Prop} {D : DataW Unit} {g n cap k : Nat} (hown : w2.ownsMap Try.prog 3 slR m (c + 1) (D.put (.int .i64 n) (slD g n cap))) (hD : Maps.IsMap D)
    (hat : ∀ k, k ≤ 6 → D.atKey (.int .i64 ((2 ^ k : Nat) : Int)) .nil = .nil ∨ ∃ g cap, D.atKey (.int .i64 ((2 ^ k : Nat) : Int)) .nil = slD g (2 ^ k) cap ∧ 2 ^ k ≤ cap ∧ Num w g (facL (firstW k) (2 ^ k)) ∧ g ≠ m ∧ Q g)
    (hg : w.grownBy w2 (some m)) (hn : n = 2 ^ k) (hcap : n ≤ cap) (hnum : Num w2 g (facL (firstW k) n)) (hgm : g ≠ m) (hgw : w.heap.size ≤ g) : Tm w2 m (c + 1) (fun g => Q g ∨ w.heap.size ≤ g) := by
  refine ⟨_, hown, hD.put _ _, fun k' hk' => ?_⟩
  by_cases e : k' = k
  · subst e
    rw [← hn]
    exact .inr ⟨g, cap, Maps.atKey_put_same (k := .int .i64 (n : Int)) hD trivial _ _, hcap, hnum, hgm, .inr hgw⟩
  · have hne : Lit.int .i64 ((2 ^ k' : Nat) : Int) ≠ Lit.int .i64 (n : Int) := by
      intro h
      injection h with _ h
      have h' : 2 ^ k' = n := Int.ofNat.inj h
      rw [hn] at h'
      rcases Nat.lt_or_gt_of_ne e with h2 | h2
      · have := Nat.pow_lt_pow_right (a := 2) (by omega) h2; omega
      · have := Nat.pow_lt_pow_right (a := 2) (by omega) h2; omega
    rw [Maps.atKey_put_other hne]
    rcases hat k' hk' with h3 | ⟨g', cap', h3, h4, h5, h6, h7⟩
    · exact .inl h3
    · exact .inr ⟨g', cap', h3, h4, h5.grown hg (fun e => h6 (Option.some.inj e)), h6, .inl h7⟩

attribute [local go_sem] zero24

set_option maxHeartbeats 2000000 in
theorem known_any (k n m c : Nat) (hk : k ≤ 6) (hn : n = 2 ^ k) (Q : Nat → Prop) (w : World) (hT : Tm w m c Q) (hc : c < 1000) :
    Calls Try.prog 69 #[.agg #[.map (some m)], .int .i64 n] w fun e w' => ∃ g cap, e = .returned (.slice (some ⟨g, 0, none⟩) n cap) ∧ n ≤ cap ∧ Num w' g (facL (firstW k) n) ∧ g ≠ m ∧ (Q g ∨ w.heap.size ≤ g) ∧ Tm w' m (c + 1) (fun g => Q g ∨ w.heap.size ≤ g) ∧ w.grownBy w' (some m) := by
  have hn64 : n ≤ 64 := by
    subst hn
    exact Nat.le_trans (Nat.pow_le_pow_right (by omega) hk) (by decide)
  have hkey := key_two n hn64
  obtain ⟨D, hown, hD, hat⟩ := hT
  have hml := hown.lt
  have hown0 := hown.alloc (.cells #[.map (some m)] 92)
  obtain ⟨v, ps, hrun, hv⟩ := hown0.lookup law3 Try.underlying90 (zero24 _) (zd := .nil) (zp := []) (by rfl) hkey
  have hbox := new_cell w #[.map (some m)] 92 0 (.map (some m)) rfl
  obtain ⟨hb1, hb2⟩ := hbox
  have hql : ∀ (w : World) (a : Option Addr) (n c n' c' : Nat), (binOp .eql 24 (.slice a n c) (.slice none n' c')).run Try.prog w = .ok (.bool a.isNone) w := fun w a n c n' c' => Lib.run_eql_slice_nil w _ _ a n c n' c' Try.underlying24
  have hk' := hat k hk
  rw [← hn] at hk'
  rcases hk' with hnil | ⟨g, cap, hsl, hcap, hnum, hgm, hQ⟩
  · rw [hnil] at hv
    have := slR_nil hv
    subst this
    have HOWN := Lib.hid hown0
    have HN := Lib.hid hn
    have HAT := Lib.hid hat
    have HD := Lib.hid hD
    have HB1 := Lib.hid hb1
    have HML := Lib.hid hml
    have HC := Lib.hid hc
    clear hown hown0 hn hat hv hnil hD hml hc
    go_enter Try.func69, Try.ntmps69
    go_upto_region 2 with fail
    clear hrun
    go_region_with (go_at_call 58; refine (factors_two k n hk HN.out _).mono ?_; rintro e w1 ⟨g, cap, rfl, hrow, hb⟩; clear hb1 hb2; have hg1 := below_grown (w := w.alloc (.cells #[.map (some m)] 92)) hb rfl rfl rfl rfl none; have hb1 := hg1.cell HB1.out (by simp); have HG1 := Lib.hid hg1; obtain ⟨w2, hrun2, hown2, hg2⟩ := (HOWN.out.kept hg1 (by simp)).update law3 Try.underlying90 (by have := HC.out; unfold maxLen; omega) hkey (d := slD g n cap) (ps := []) (val := .slice (some ⟨g, 0, none⟩) n cap) (by rfl); have HOWN2 := Lib.hid hown2; have HG2 := Lib.hid hg2; have HR := Lib.hid hrow; clear hown2 hg2 hrow hb hg1)
    all_goals
      obtain ⟨r1, r2, r3, r4, r5, r6⟩ : w.heap.size + 1 ≤ g ∧ n ≤ cap ∧ g ≠ m ∧ Num w2 g (facL (firstW k) n) ∧ w.grownBy w2 (some m) ∧ w2.cell? ⟨w.heap.size, 0, none⟩ = some (.map (some m)) := by
        have hb := (HR.out.lt g rfl).1
        have hb' : w.heap.size + 1 ≤ g := by simpa using hb
        have hcp : n ≤ cap := by
          rcases HR.out.2 with h0 | ⟨g', cap', cur, h1, h2, h3, h4, h5⟩
          · have := h0.1; simp at this
          · cases h1; exact h4
        have hm := HML.out
        have hgm : g ≠ m := by omega
        exact ⟨hb', hcp, hgm, (Num.of_own HR.out).grown HG2.out (fun e => hgm (Option.some.inj e)), grown_trans (grown_trans (World.grownBy_alloc w _ _) (below_some HG1.out _)) HG2.out, HG2.out.cell hb1 (fun e => by have := Option.some.inj e; simp at this; omega)⟩
      have hT := Tm.put (Q := Q) HOWN2.out HD.out HAT.out r5 HN.out r2 r4 r3 (by omega)
      obtain ⟨v3, ps3, hrun3, hv3⟩ := HOWN2.out.lookup law3 Try.underlying90 (zero24 _) (zd := .nil) (zp := []) (by rfl) hkey
      rw [Maps.atKey_put_same (k := .int .i64 (n : Int)) HD.out trivial] at hv3
      have hv4 := slR_some hv3
      subst hv4
      have HT := Lib.hid hT
      have R2 := Lib.hid r2
      have R3 := Lib.hid r3
      have R4 := Lib.hid r4
      have R5 := Lib.hid r5
      have R1 := Lib.hid r1
      clear hT r1 r2 r3 r4 r5 hrun2 hb1 hv3
      go_wp2
      go_ret
      exact ⟨g, cap, rfl, R2.out, R4.out, R3.out, .inr (by have := R1.out; omega), HT.out, R5.out⟩
  · rw [hsl] at hv
    have hv4 := slR_some hv
    subst hv4
    have hT : Tm w m c Q := ⟨D, hown, hD, hat⟩
    have HT := Lib.hid hT
    have R2 := Lib.hid hcap
    have R3 := Lib.hid hgm
    have R4 := Lib.hid hnum
    have R5 := Lib.hid hQ
    have HN := Lib.hid hn
    clear hT hv hsl hcap hgm hnum hQ hown hown0 hat hD hml hn hkey hc
    go_enter Try.func69, Try.ntmps69
    go_wp2
    go_ret
    refine ⟨g, cap, rfl, R2.out, R4.out.grown (World.grownBy_alloc w _ none) (by simp), R3.out, .inl R5.out, ?_, World.grownBy_alloc w _ _⟩
    have h1 := (HT.out.kept (World.grownBy_alloc w (.cells #[.map (some m)] 92) none) (by simp) (fun _ _ _ => by simp)).imp (Q' := fun g => Q g ∨ w.heap.size ≤ g) (fun _ _ h => .inl h)
    obtain ⟨D, a, b⟩ := h1
    exact ⟨D, a.mono (by omega), b⟩

end Nu
end Go.Proofs.Ytkkdimhibfpopaa
