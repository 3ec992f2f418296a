/- CapSets: the walk, one set after the other. -/
import Derived.Test.YtgdfoonflkddnaaDoorE7
namespace Go.Proofs.YtgdfoonflkddnaaDoor
open Go.ChangeShapes Go.WideShapes Go.ChangeAt Go.RowKit
namespace Cp

/-- All tables that the law reads. -/
structure SetsAt (w : World) : Prop where
  names : NamesAt w
  mem : TabAt 1 memL w
  fit : TabAt 2 fitL w
  mark : TabAt 3 markL w
  view : TabAt 5 viewL w
  els : TabAt 8 elsL w

theorem SetsAt.below {w w' : World} (h : SetsAt w) (hb : Below w.heap.size w w') : SetsAt w' :=
  ⟨h.names.below hb, h.mem.below hb, h.fit.below hb, h.mark.below hb, h.view.below hb, h.els.below hb⟩

theorem SetsAt.drew {w : World} (h : SetsAt w) (n : Nat) : SetsAt (w.drewN n) := ⟨h.names, h.mem.drew n, h.fit.drew n, h.mark.drew n, h.view.drew n, h.els.drew n⟩

theorem Members_form (c : Int) (n : Nat) (hn : (refL c).length = n) (w : World) (hN : NamesAt w) (hM : TabAt 1 memL w) :
    Calls Tryd.prog 16 #[.int .i64 c] w fun e w' => ∃ a cc, e = .returned (.slice a n cc) ∧ Owned w' w.heap.size (.slice a n cc) (refL c) ∧ Below w.heap.size w w' := by
  refine (Members_any c w hN hM).mono fun e w' ⟨v, he, ho, hb⟩ => ?_
  rcases ho.form with ⟨h0, rfl⟩ | ⟨g, cc, _, rfl, _⟩
  · have : n = 0 := by rw [← hn, h0]; rfl
    subst this
    exact ⟨none, 0, he, ho, hb⟩
  · rw [hn] at he ho
    exact ⟨_, cc, he, ho, hb⟩

theorem Compact_form (n : Nat) (w : World) (B : Nat) (v : Value) (l : List Int) (h : Owned w B v l) (hl : l ≠ []) (hk : (Lib.compact l).length = l.length) (hn : l.length = n) :
    Calls Tryd.prog 48 #[v] w fun e w' => ∃ a c, e = .returned (.slice a n c) ∧ Below B w w' := by
  subst hn
  exact Compact_owned w B v l h hl hk

def inB (c x : Int) : Bool := (refL c).contains x

theorem Contains_is (c : Int) (w : World) (B : Nat) (v : Value) (x : Int) (h : Owned w B v (refL c)) :
    Calls Tryd.prog 50 #[v, .int .i64 x] w fun e w' => e = .returned (.bool (inB c x)) ∧ w = w' := Contains_owned w B v (refL c) x h

theorem sorted_of {l : List Int} (h : (List.range l.length).all (fun k => decide (k + 1 < l.length → l.getD k 0 ≤ l.getD (k + 1) 0)) = true) : ∀ k, k + 1 < l.length → l.getD k 0 ≤ l.getD (k + 1) 0 := fun k hk => by
  have := List.all_eq_true.1 h k (by rw [List.mem_range]; omega)
  exact (of_decide_eq_true this) hk

theorem sorted_ref (c : Int) : ∀ k, k + 1 < (refL c).length → (refL c).getD k 0 ≤ (refL c).getD (k + 1) 0 := by
  by_cases h7 : c = 7 ∨ c = 8 ∨ c = 9 ∨ c = 10 ∨ c = 11
  · rcases h7 with rfl | rfl | rfl | rfl | rfl <;> exact sorted_of (by decide)
  · have hr : refL c = [] ∨ refL c = [c] := by
      cases hb : isB c
      · left
        simp only [refL, hb]
        repeat (first | rw [if_neg (by omega)] | rw [if_neg (by simp)])
      · right
        simp only [refL, hb]
        repeat (first | rw [if_neg (by omega)] | rw [if_pos trivial])
    rcases hr with h | h <;> rw [h] <;> intro k hk <;> simp at hk

set_option maxHeartbeats 8000000 in
set_option maxRecDepth 100000 in
theorem sets_1 (n : Int) (w : World) (hn0 : 0 ≤ n) (hn1 : n ≤ 255) (hn : n % 11 = 0) (hA : SetsAt w) :
    Calls Tryd.prog 8 #[.int .u8 n] w fun e w' => e = .returned (.bool true) ∧ Below w.heap.size w w' := by
  have HA := Lib.hid hA
  have HB := Lib.hid (Below.refl w.heap.size w)
  clear hA
  have p1 : parseI (nameS 1) = 1 := by kernel_rfl
  have p2 : parseE (nameS 1) = 0 := by kernel_rfl
  have p3 : (nameS 1).toList.isEmpty = false := by kernel_rfl
  go_enter Tryd.func8, Tryd.ntmps8
  go_wp2_with (first
    | (go_at_call 11; refine (Name_any _ _ HA.out.names).mono ?_; rintro e w' ⟨rfl, rfl⟩)
    | (go_at_call 9; refine (Parse_any _ _ HA.out.names).mono ?_; rintro e w' ⟨rfl, rfl⟩)
    | (go_at_call 16; refine (Members_form 1 1 (by decide) _ HA.out.names HA.out.mem).mono ?_; rintro e w' ⟨a, cc, rfl, ho, hb⟩; have HO := Lib.hid ho; clear ho; have HA2 := Lib.hid (HA.out.below hb); have HB2 := Lib.hid (HB.out.trans (hb.mono HB.out.size)); clear hb HA HB; have HA := HA2; have HB := HB2; clear HA2 HB2)
    | (go_at_call 47; refine (IsSorted_owned _ _ _ _ HO.out (by decide) (sorted_ref 1)).mono ?_; rintro e w' ⟨rfl, q, hw⟩; have HO2 := Lib.hid (show Owned w' _ _ _ by rw [hw]; exact HO.out.drew q); clear HO; have HO := HO2; clear HO2; have HA2 := Lib.hid (show SetsAt w' by rw [hw]; exact HA.out.drew q); have HB2 := Lib.hid (show Below w.heap.size w w' by rw [hw]; exact below_drewN HB.out q); clear hw HA HB; have HA := HA2; have HB := HB2; clear HA2 HB2)
    | (go_at_call 49; refine (Clone_owned _ _ _ _ HO.out (by decide) (by decide)).mono ?_; rintro e w' ⟨v', rfl, ho, hb⟩; have HV := Lib.hid ho; have HC := Lib.hid hb; clear ho hb)
    | (go_at_call 48; refine (Compact_form 1 _ _ _ _ HV.out (by decide) (by decide +kernel) (by decide)).mono ?_; rintro e w' ⟨a2, c2, rfl, hb2⟩; have hb := HC.out.trans hb2; have HO2 := Lib.hid (HO.out.below hb); clear hb2 HC HV HO; have HO := HO2; clear HO2; have HA2 := Lib.hid (HA.out.below hb); have HB2 := Lib.hid (HB.out.trans (hb.mono HB.out.size)); clear hb HA HB; have HA := HA2; have HB := HB2; clear HA2 HB2))
  have hf : inB 1 1 = true ∧ inB 1 2 = false ∧ inB 1 3 = false ∧ inB 1 4 = false ∧ inB 1 5 = false ∧ inB 1 6 = false := by decide
  obtain ⟨f0, f1, f2, f3, f4, f5⟩ := hf
  go_loop [8] (fun i => ∃ x : Int, (x = 1 ∨ x = 2 ∨ x = 3 ∨ x = 4 ∨ x = 5 ∨ x = 6 ∨ x = 7) ∧ i = .int .i64 x) (fun i => 8 - (intOf i).toNat)
  case atStart => exact ⟨1, by omega, rfl⟩
  case round =>
    obtain ⟨x, hx, rfl⟩ := hrel
    rcases hx with rfl | rfl | rfl | rfl | rfl | rfl | rfl
    · go_wp2_with (first
        | (go_at_call 50; refine (Contains_is 1 _ _ _ _ HO.out).mono ?_; rintro e w' ⟨rfl, rfl⟩)
        | (go_at_call 18; refine (Reads_any _ _).mono ?_; rintro e w' ⟨rfl, rfl⟩)
        | (go_at_call 22; refine (Sendable_any _ _).mono ?_; rintro e w' ⟨rfl, rfl⟩)
        | (go_at_call 43; refine (Global_any _ _ _ HA.out.els).mono ?_; rintro e w' ⟨rfl, rfl⟩)
        | (go_at_call 34; refine (awake_any _ HA.out.fit HA.out.mark HA.out.view).mono ?_; rintro e w' ⟨rfl, q, hw⟩; have HA2 := Lib.hid (show SetsAt w' by rw [hw]; exact HA.out.drew q); have HB2 := Lib.hid (show Below w.heap.size w w' by rw [hw]; exact below_drewN HB.out q); clear hw HA HB; have HA := HA2; have HB := HB2; clear HA2 HB2))
      go_round
      case rel => exact ⟨2, by omega, rfl⟩
      case measure => simp [intOf]
    · go_wp2_with (first
        | (go_at_call 50; refine (Contains_is 1 _ _ _ _ HO.out).mono ?_; rintro e w' ⟨rfl, rfl⟩)
        | (go_at_call 18; refine (Reads_any _ _).mono ?_; rintro e w' ⟨rfl, rfl⟩)
        | (go_at_call 22; refine (Sendable_any _ _).mono ?_; rintro e w' ⟨rfl, rfl⟩)
        | (go_at_call 43; refine (Global_any _ _ _ HA.out.els).mono ?_; rintro e w' ⟨rfl, rfl⟩)
        | (go_at_call 34; refine (awake_any _ HA.out.fit HA.out.mark HA.out.view).mono ?_; rintro e w' ⟨rfl, q, hw⟩; have HA2 := Lib.hid (show SetsAt w' by rw [hw]; exact HA.out.drew q); have HB2 := Lib.hid (show Below w.heap.size w w' by rw [hw]; exact below_drewN HB.out q); clear hw HA HB; have HA := HA2; have HB := HB2; clear HA2 HB2))
      go_round
      case rel => exact ⟨3, by omega, rfl⟩
      case measure => simp [intOf]
    · go_wp2_with (first
        | (go_at_call 50; refine (Contains_is 1 _ _ _ _ HO.out).mono ?_; rintro e w' ⟨rfl, rfl⟩)
        | (go_at_call 18; refine (Reads_any _ _).mono ?_; rintro e w' ⟨rfl, rfl⟩)
        | (go_at_call 22; refine (Sendable_any _ _).mono ?_; rintro e w' ⟨rfl, rfl⟩)
        | (go_at_call 43; refine (Global_any _ _ _ HA.out.els).mono ?_; rintro e w' ⟨rfl, rfl⟩)
        | (go_at_call 34; refine (awake_any _ HA.out.fit HA.out.mark HA.out.view).mono ?_; rintro e w' ⟨rfl, q, hw⟩; have HA2 := Lib.hid (show SetsAt w' by rw [hw]; exact HA.out.drew q); have HB2 := Lib.hid (show Below w.heap.size w w' by rw [hw]; exact below_drewN HB.out q); clear hw HA HB; have HA := HA2; have HB := HB2; clear HA2 HB2))
      go_round
      case rel => exact ⟨4, by omega, rfl⟩
      case measure => simp [intOf]
    · go_wp2_with (first
        | (go_at_call 50; refine (Contains_is 1 _ _ _ _ HO.out).mono ?_; rintro e w' ⟨rfl, rfl⟩)
        | (go_at_call 18; refine (Reads_any _ _).mono ?_; rintro e w' ⟨rfl, rfl⟩)
        | (go_at_call 22; refine (Sendable_any _ _).mono ?_; rintro e w' ⟨rfl, rfl⟩)
        | (go_at_call 43; refine (Global_any _ _ _ HA.out.els).mono ?_; rintro e w' ⟨rfl, rfl⟩)
        | (go_at_call 34; refine (awake_any _ HA.out.fit HA.out.mark HA.out.view).mono ?_; rintro e w' ⟨rfl, q, hw⟩; have HA2 := Lib.hid (show SetsAt w' by rw [hw]; exact HA.out.drew q); have HB2 := Lib.hid (show Below w.heap.size w w' by rw [hw]; exact below_drewN HB.out q); clear hw HA HB; have HA := HA2; have HB := HB2; clear HA2 HB2))
      go_round
      case rel => exact ⟨5, by omega, rfl⟩
      case measure => simp [intOf]
    · go_wp2_with (first
        | (go_at_call 50; refine (Contains_is 1 _ _ _ _ HO.out).mono ?_; rintro e w' ⟨rfl, rfl⟩)
        | (go_at_call 18; refine (Reads_any _ _).mono ?_; rintro e w' ⟨rfl, rfl⟩)
        | (go_at_call 22; refine (Sendable_any _ _).mono ?_; rintro e w' ⟨rfl, rfl⟩)
        | (go_at_call 43; refine (Global_any _ _ _ HA.out.els).mono ?_; rintro e w' ⟨rfl, rfl⟩)
        | (go_at_call 34; refine (awake_any _ HA.out.fit HA.out.mark HA.out.view).mono ?_; rintro e w' ⟨rfl, q, hw⟩; have HA2 := Lib.hid (show SetsAt w' by rw [hw]; exact HA.out.drew q); have HB2 := Lib.hid (show Below w.heap.size w w' by rw [hw]; exact below_drewN HB.out q); clear hw HA HB; have HA := HA2; have HB := HB2; clear HA2 HB2))
      go_round
      case rel => exact ⟨6, by omega, rfl⟩
      case measure => simp [intOf]
    · go_wp2_with (first
        | (go_at_call 50; refine (Contains_is 1 _ _ _ _ HO.out).mono ?_; rintro e w' ⟨rfl, rfl⟩)
        | (go_at_call 18; refine (Reads_any _ _).mono ?_; rintro e w' ⟨rfl, rfl⟩)
        | (go_at_call 22; refine (Sendable_any _ _).mono ?_; rintro e w' ⟨rfl, rfl⟩)
        | (go_at_call 43; refine (Global_any _ _ _ HA.out.els).mono ?_; rintro e w' ⟨rfl, rfl⟩)
        | (go_at_call 34; refine (awake_any _ HA.out.fit HA.out.mark HA.out.view).mono ?_; rintro e w' ⟨rfl, q, hw⟩; have HA2 := Lib.hid (show SetsAt w' by rw [hw]; exact HA.out.drew q); have HB2 := Lib.hid (show Below w.heap.size w w' by rw [hw]; exact below_drewN HB.out q); clear hw HA HB; have HA := HA2; have HB := HB2; clear HA2 HB2))
      go_round
      case rel => exact ⟨7, by omega, rfl⟩
      case measure => simp [intOf]
    · go_wp2_with (first
        | (go_at_call 50; refine (Contains_is 1 _ _ _ _ HO.out).mono ?_; rintro e w' ⟨rfl, rfl⟩)
        | (go_at_call 18; refine (Reads_any _ _).mono ?_; rintro e w' ⟨rfl, rfl⟩)
        | (go_at_call 22; refine (Sendable_any _ _).mono ?_; rintro e w' ⟨rfl, rfl⟩)
        | (go_at_call 43; refine (Global_any _ _ _ HA.out.els).mono ?_; rintro e w' ⟨rfl, rfl⟩)
        | (go_at_call 34; refine (awake_any _ HA.out.fit HA.out.mark HA.out.view).mono ?_; rintro e w' ⟨rfl, q, hw⟩; have HA2 := Lib.hid (show SetsAt w' by rw [hw]; exact HA.out.drew q); have HB2 := Lib.hid (show Below w.heap.size w w' by rw [hw]; exact below_drewN HB.out q); clear hw HA HB; have HA := HA2; have HB := HB2; clear HA2 HB2))
      go_ret
      exact ⟨rfl, HB.out⟩

set_option maxHeartbeats 8000000 in
set_option maxRecDepth 100000 in
theorem sets_2 (n : Int) (w : World) (hn0 : 0 ≤ n) (hn1 : n ≤ 255) (hn : n % 11 = 1) (hA : SetsAt w) :
    Calls Tryd.prog 8 #[.int .u8 n] w fun e w' => e = .returned (.bool true) ∧ Below w.heap.size w w' := by
  have HA := Lib.hid hA
  have HB := Lib.hid (Below.refl w.heap.size w)
  clear hA
  have p1 : parseI (nameS 2) = 2 := by kernel_rfl
  have p2 : parseE (nameS 2) = 0 := by kernel_rfl
  have p3 : (nameS 2).toList.isEmpty = false := by kernel_rfl
  go_enter Tryd.func8, Tryd.ntmps8
  go_wp2_with (first
    | (go_at_call 11; refine (Name_any _ _ HA.out.names).mono ?_; rintro e w' ⟨rfl, rfl⟩)
    | (go_at_call 9; refine (Parse_any _ _ HA.out.names).mono ?_; rintro e w' ⟨rfl, rfl⟩)
    | (go_at_call 16; refine (Members_form 2 1 (by decide) _ HA.out.names HA.out.mem).mono ?_; rintro e w' ⟨a, cc, rfl, ho, hb⟩; have HO := Lib.hid ho; clear ho; have HA2 := Lib.hid (HA.out.below hb); have HB2 := Lib.hid (HB.out.trans (hb.mono HB.out.size)); clear hb HA HB; have HA := HA2; have HB := HB2; clear HA2 HB2)
    | (go_at_call 47; refine (IsSorted_owned _ _ _ _ HO.out (by decide) (sorted_ref 2)).mono ?_; rintro e w' ⟨rfl, q, hw⟩; have HO2 := Lib.hid (show Owned w' _ _ _ by rw [hw]; exact HO.out.drew q); clear HO; have HO := HO2; clear HO2; have HA2 := Lib.hid (show SetsAt w' by rw [hw]; exact HA.out.drew q); have HB2 := Lib.hid (show Below w.heap.size w w' by rw [hw]; exact below_drewN HB.out q); clear hw HA HB; have HA := HA2; have HB := HB2; clear HA2 HB2)
    | (go_at_call 49; refine (Clone_owned _ _ _ _ HO.out (by decide) (by decide)).mono ?_; rintro e w' ⟨v', rfl, ho, hb⟩; have HV := Lib.hid ho; have HC := Lib.hid hb; clear ho hb)
    | (go_at_call 48; refine (Compact_form 1 _ _ _ _ HV.out (by decide) (by decide +kernel) (by decide)).mono ?_; rintro e w' ⟨a2, c2, rfl, hb2⟩; have hb := HC.out.trans hb2; have HO2 := Lib.hid (HO.out.below hb); clear hb2 HC HV HO; have HO := HO2; clear HO2; have HA2 := Lib.hid (HA.out.below hb); have HB2 := Lib.hid (HB.out.trans (hb.mono HB.out.size)); clear hb HA HB; have HA := HA2; have HB := HB2; clear HA2 HB2))
  have hf : inB 2 1 = false ∧ inB 2 2 = true ∧ inB 2 3 = false ∧ inB 2 4 = false ∧ inB 2 5 = false ∧ inB 2 6 = false := by decide
  obtain ⟨f0, f1, f2, f3, f4, f5⟩ := hf
  go_loop [8] (fun i => ∃ x : Int, (x = 1 ∨ x = 2 ∨ x = 3 ∨ x = 4 ∨ x = 5 ∨ x = 6 ∨ x = 7) ∧ i = .int .i64 x) (fun i => 8 - (intOf i).toNat)
  case atStart => exact ⟨1, by omega, rfl⟩
  case round =>
    obtain ⟨x, hx, rfl⟩ := hrel
    rcases hx with rfl | rfl | rfl | rfl | rfl | rfl | rfl
    · go_wp2_with (first
        | (go_at_call 50; refine (Contains_is 2 _ _ _ _ HO.out).mono ?_; rintro e w' ⟨rfl, rfl⟩)
        | (go_at_call 18; refine (Reads_any _ _).mono ?_; rintro e w' ⟨rfl, rfl⟩)
        | (go_at_call 22; refine (Sendable_any _ _).mono ?_; rintro e w' ⟨rfl, rfl⟩)
        | (go_at_call 43; refine (Global_any _ _ _ HA.out.els).mono ?_; rintro e w' ⟨rfl, rfl⟩)
        | (go_at_call 34; refine (awake_any _ HA.out.fit HA.out.mark HA.out.view).mono ?_; rintro e w' ⟨rfl, q, hw⟩; have HA2 := Lib.hid (show SetsAt w' by rw [hw]; exact HA.out.drew q); have HB2 := Lib.hid (show Below w.heap.size w w' by rw [hw]; exact below_drewN HB.out q); clear hw HA HB; have HA := HA2; have HB := HB2; clear HA2 HB2))
      go_round
      case rel => exact ⟨2, by omega, rfl⟩
      case measure => simp [intOf]
    · go_wp2_with (first
        | (go_at_call 50; refine (Contains_is 2 _ _ _ _ HO.out).mono ?_; rintro e w' ⟨rfl, rfl⟩)
        | (go_at_call 18; refine (Reads_any _ _).mono ?_; rintro e w' ⟨rfl, rfl⟩)
        | (go_at_call 22; refine (Sendable_any _ _).mono ?_; rintro e w' ⟨rfl, rfl⟩)
        | (go_at_call 43; refine (Global_any _ _ _ HA.out.els).mono ?_; rintro e w' ⟨rfl, rfl⟩)
        | (go_at_call 34; refine (awake_any _ HA.out.fit HA.out.mark HA.out.view).mono ?_; rintro e w' ⟨rfl, q, hw⟩; have HA2 := Lib.hid (show SetsAt w' by rw [hw]; exact HA.out.drew q); have HB2 := Lib.hid (show Below w.heap.size w w' by rw [hw]; exact below_drewN HB.out q); clear hw HA HB; have HA := HA2; have HB := HB2; clear HA2 HB2))
      go_round
      case rel => exact ⟨3, by omega, rfl⟩
      case measure => simp [intOf]
    · go_wp2_with (first
        | (go_at_call 50; refine (Contains_is 2 _ _ _ _ HO.out).mono ?_; rintro e w' ⟨rfl, rfl⟩)
        | (go_at_call 18; refine (Reads_any _ _).mono ?_; rintro e w' ⟨rfl, rfl⟩)
        | (go_at_call 22; refine (Sendable_any _ _).mono ?_; rintro e w' ⟨rfl, rfl⟩)
        | (go_at_call 43; refine (Global_any _ _ _ HA.out.els).mono ?_; rintro e w' ⟨rfl, rfl⟩)
        | (go_at_call 34; refine (awake_any _ HA.out.fit HA.out.mark HA.out.view).mono ?_; rintro e w' ⟨rfl, q, hw⟩; have HA2 := Lib.hid (show SetsAt w' by rw [hw]; exact HA.out.drew q); have HB2 := Lib.hid (show Below w.heap.size w w' by rw [hw]; exact below_drewN HB.out q); clear hw HA HB; have HA := HA2; have HB := HB2; clear HA2 HB2))
      go_round
      case rel => exact ⟨4, by omega, rfl⟩
      case measure => simp [intOf]
    · go_wp2_with (first
        | (go_at_call 50; refine (Contains_is 2 _ _ _ _ HO.out).mono ?_; rintro e w' ⟨rfl, rfl⟩)
        | (go_at_call 18; refine (Reads_any _ _).mono ?_; rintro e w' ⟨rfl, rfl⟩)
        | (go_at_call 22; refine (Sendable_any _ _).mono ?_; rintro e w' ⟨rfl, rfl⟩)
        | (go_at_call 43; refine (Global_any _ _ _ HA.out.els).mono ?_; rintro e w' ⟨rfl, rfl⟩)
        | (go_at_call 34; refine (awake_any _ HA.out.fit HA.out.mark HA.out.view).mono ?_; rintro e w' ⟨rfl, q, hw⟩; have HA2 := Lib.hid (show SetsAt w' by rw [hw]; exact HA.out.drew q); have HB2 := Lib.hid (show Below w.heap.size w w' by rw [hw]; exact below_drewN HB.out q); clear hw HA HB; have HA := HA2; have HB := HB2; clear HA2 HB2))
      go_round
      case rel => exact ⟨5, by omega, rfl⟩
      case measure => simp [intOf]
    · go_wp2_with (first
        | (go_at_call 50; refine (Contains_is 2 _ _ _ _ HO.out).mono ?_; rintro e w' ⟨rfl, rfl⟩)
        | (go_at_call 18; refine (Reads_any _ _).mono ?_; rintro e w' ⟨rfl, rfl⟩)
        | (go_at_call 22; refine (Sendable_any _ _).mono ?_; rintro e w' ⟨rfl, rfl⟩)
        | (go_at_call 43; refine (Global_any _ _ _ HA.out.els).mono ?_; rintro e w' ⟨rfl, rfl⟩)
        | (go_at_call 34; refine (awake_any _ HA.out.fit HA.out.mark HA.out.view).mono ?_; rintro e w' ⟨rfl, q, hw⟩; have HA2 := Lib.hid (show SetsAt w' by rw [hw]; exact HA.out.drew q); have HB2 := Lib.hid (show Below w.heap.size w w' by rw [hw]; exact below_drewN HB.out q); clear hw HA HB; have HA := HA2; have HB := HB2; clear HA2 HB2))
      go_round
      case rel => exact ⟨6, by omega, rfl⟩
      case measure => simp [intOf]
    · go_wp2_with (first
        | (go_at_call 50; refine (Contains_is 2 _ _ _ _ HO.out).mono ?_; rintro e w' ⟨rfl, rfl⟩)
        | (go_at_call 18; refine (Reads_any _ _).mono ?_; rintro e w' ⟨rfl, rfl⟩)
        | (go_at_call 22; refine (Sendable_any _ _).mono ?_; rintro e w' ⟨rfl, rfl⟩)
        | (go_at_call 43; refine (Global_any _ _ _ HA.out.els).mono ?_; rintro e w' ⟨rfl, rfl⟩)
        | (go_at_call 34; refine (awake_any _ HA.out.fit HA.out.mark HA.out.view).mono ?_; rintro e w' ⟨rfl, q, hw⟩; have HA2 := Lib.hid (show SetsAt w' by rw [hw]; exact HA.out.drew q); have HB2 := Lib.hid (show Below w.heap.size w w' by rw [hw]; exact below_drewN HB.out q); clear hw HA HB; have HA := HA2; have HB := HB2; clear HA2 HB2))
      go_round
      case rel => exact ⟨7, by omega, rfl⟩
      case measure => simp [intOf]
    · go_wp2_with (first
        | (go_at_call 50; refine (Contains_is 2 _ _ _ _ HO.out).mono ?_; rintro e w' ⟨rfl, rfl⟩)
        | (go_at_call 18; refine (Reads_any _ _).mono ?_; rintro e w' ⟨rfl, rfl⟩)
        | (go_at_call 22; refine (Sendable_any _ _).mono ?_; rintro e w' ⟨rfl, rfl⟩)
        | (go_at_call 43; refine (Global_any _ _ _ HA.out.els).mono ?_; rintro e w' ⟨rfl, rfl⟩)
        | (go_at_call 34; refine (awake_any _ HA.out.fit HA.out.mark HA.out.view).mono ?_; rintro e w' ⟨rfl, q, hw⟩; have HA2 := Lib.hid (show SetsAt w' by rw [hw]; exact HA.out.drew q); have HB2 := Lib.hid (show Below w.heap.size w w' by rw [hw]; exact below_drewN HB.out q); clear hw HA HB; have HA := HA2; have HB := HB2; clear HA2 HB2))
      go_ret
      exact ⟨rfl, HB.out⟩

set_option maxHeartbeats 8000000 in
set_option maxRecDepth 100000 in
theorem sets_3 (n : Int) (w : World) (hn0 : 0 ≤ n) (hn1 : n ≤ 255) (hn : n % 11 = 2) (hA : SetsAt w) :
    Calls Tryd.prog 8 #[.int .u8 n] w fun e w' => e = .returned (.bool true) ∧ Below w.heap.size w w' := by
  have HA := Lib.hid hA
  have HB := Lib.hid (Below.refl w.heap.size w)
  clear hA
  have p1 : parseI (nameS 3) = 3 := by kernel_rfl
  have p2 : parseE (nameS 3) = 0 := by kernel_rfl
  have p3 : (nameS 3).toList.isEmpty = false := by kernel_rfl
  go_enter Tryd.func8, Tryd.ntmps8
  go_wp2_with (first
    | (go_at_call 11; refine (Name_any _ _ HA.out.names).mono ?_; rintro e w' ⟨rfl, rfl⟩)
    | (go_at_call 9; refine (Parse_any _ _ HA.out.names).mono ?_; rintro e w' ⟨rfl, rfl⟩)
    | (go_at_call 16; refine (Members_form 3 1 (by decide) _ HA.out.names HA.out.mem).mono ?_; rintro e w' ⟨a, cc, rfl, ho, hb⟩; have HO := Lib.hid ho; clear ho; have HA2 := Lib.hid (HA.out.below hb); have HB2 := Lib.hid (HB.out.trans (hb.mono HB.out.size)); clear hb HA HB; have HA := HA2; have HB := HB2; clear HA2 HB2)
    | (go_at_call 47; refine (IsSorted_owned _ _ _ _ HO.out (by decide) (sorted_ref 3)).mono ?_; rintro e w' ⟨rfl, q, hw⟩; have HO2 := Lib.hid (show Owned w' _ _ _ by rw [hw]; exact HO.out.drew q); clear HO; have HO := HO2; clear HO2; have HA2 := Lib.hid (show SetsAt w' by rw [hw]; exact HA.out.drew q); have HB2 := Lib.hid (show Below w.heap.size w w' by rw [hw]; exact below_drewN HB.out q); clear hw HA HB; have HA := HA2; have HB := HB2; clear HA2 HB2)
    | (go_at_call 49; refine (Clone_owned _ _ _ _ HO.out (by decide) (by decide)).mono ?_; rintro e w' ⟨v', rfl, ho, hb⟩; have HV := Lib.hid ho; have HC := Lib.hid hb; clear ho hb)
    | (go_at_call 48; refine (Compact_form 1 _ _ _ _ HV.out (by decide) (by decide +kernel) (by decide)).mono ?_; rintro e w' ⟨a2, c2, rfl, hb2⟩; have hb := HC.out.trans hb2; have HO2 := Lib.hid (HO.out.below hb); clear hb2 HC HV HO; have HO := HO2; clear HO2; have HA2 := Lib.hid (HA.out.below hb); have HB2 := Lib.hid (HB.out.trans (hb.mono HB.out.size)); clear hb HA HB; have HA := HA2; have HB := HB2; clear HA2 HB2))
  have hf : inB 3 1 = false ∧ inB 3 2 = false ∧ inB 3 3 = true ∧ inB 3 4 = false ∧ inB 3 5 = false ∧ inB 3 6 = false := by decide
  obtain ⟨f0, f1, f2, f3, f4, f5⟩ := hf
  go_loop [8] (fun i => ∃ x : Int, (x = 1 ∨ x = 2 ∨ x = 3 ∨ x = 4 ∨ x = 5 ∨ x = 6 ∨ x = 7) ∧ i = .int .i64 x) (fun i => 8 - (intOf i).toNat)
  case atStart => exact ⟨1, by omega, rfl⟩
  case round =>
    obtain ⟨x, hx, rfl⟩ := hrel
    rcases hx with rfl | rfl | rfl | rfl | rfl | rfl | rfl
    · go_wp2_with (first
        | (go_at_call 50; refine (Contains_is 3 _ _ _ _ HO.out).mono ?_; rintro e w' ⟨rfl, rfl⟩)
        | (go_at_call 18; refine (Reads_any _ _).mono ?_; rintro e w' ⟨rfl, rfl⟩)
        | (go_at_call 22; refine (Sendable_any _ _).mono ?_; rintro e w' ⟨rfl, rfl⟩)
        | (go_at_call 43; refine (Global_any _ _ _ HA.out.els).mono ?_; rintro e w' ⟨rfl, rfl⟩)
        | (go_at_call 34; refine (awake_any _ HA.out.fit HA.out.mark HA.out.view).mono ?_; rintro e w' ⟨rfl, q, hw⟩; have HA2 := Lib.hid (show SetsAt w' by rw [hw]; exact HA.out.drew q); have HB2 := Lib.hid (show Below w.heap.size w w' by rw [hw]; exact below_drewN HB.out q); clear hw HA HB; have HA := HA2; have HB := HB2; clear HA2 HB2))
      go_round
      case rel => exact ⟨2, by omega, rfl⟩
      case measure => simp [intOf]
    · go_wp2_with (first
        | (go_at_call 50; refine (Contains_is 3 _ _ _ _ HO.out).mono ?_; rintro e w' ⟨rfl, rfl⟩)
        | (go_at_call 18; refine (Reads_any _ _).mono ?_; rintro e w' ⟨rfl, rfl⟩)
        | (go_at_call 22; refine (Sendable_any _ _).mono ?_; rintro e w' ⟨rfl, rfl⟩)
        | (go_at_call 43; refine (Global_any _ _ _ HA.out.els).mono ?_; rintro e w' ⟨rfl, rfl⟩)
        | (go_at_call 34; refine (awake_any _ HA.out.fit HA.out.mark HA.out.view).mono ?_; rintro e w' ⟨rfl, q, hw⟩; have HA2 := Lib.hid (show SetsAt w' by rw [hw]; exact HA.out.drew q); have HB2 := Lib.hid (show Below w.heap.size w w' by rw [hw]; exact below_drewN HB.out q); clear hw HA HB; have HA := HA2; have HB := HB2; clear HA2 HB2))
      go_round
      case rel => exact ⟨3, by omega, rfl⟩
      case measure => simp [intOf]
    · go_wp2_with (first
        | (go_at_call 50; refine (Contains_is 3 _ _ _ _ HO.out).mono ?_; rintro e w' ⟨rfl, rfl⟩)
        | (go_at_call 18; refine (Reads_any _ _).mono ?_; rintro e w' ⟨rfl, rfl⟩)
        | (go_at_call 22; refine (Sendable_any _ _).mono ?_; rintro e w' ⟨rfl, rfl⟩)
        | (go_at_call 43; refine (Global_any _ _ _ HA.out.els).mono ?_; rintro e w' ⟨rfl, rfl⟩)
        | (go_at_call 34; refine (awake_any _ HA.out.fit HA.out.mark HA.out.view).mono ?_; rintro e w' ⟨rfl, q, hw⟩; have HA2 := Lib.hid (show SetsAt w' by rw [hw]; exact HA.out.drew q); have HB2 := Lib.hid (show Below w.heap.size w w' by rw [hw]; exact below_drewN HB.out q); clear hw HA HB; have HA := HA2; have HB := HB2; clear HA2 HB2))
      go_round
      case rel => exact ⟨4, by omega, rfl⟩
      case measure => simp [intOf]
    · go_wp2_with (first
        | (go_at_call 50; refine (Contains_is 3 _ _ _ _ HO.out).mono ?_; rintro e w' ⟨rfl, rfl⟩)
        | (go_at_call 18; refine (Reads_any _ _).mono ?_; rintro e w' ⟨rfl, rfl⟩)
        | (go_at_call 22; refine (Sendable_any _ _).mono ?_; rintro e w' ⟨rfl, rfl⟩)
        | (go_at_call 43; refine (Global_any _ _ _ HA.out.els).mono ?_; rintro e w' ⟨rfl, rfl⟩)
        | (go_at_call 34; refine (awake_any _ HA.out.fit HA.out.mark HA.out.view).mono ?_; rintro e w' ⟨rfl, q, hw⟩; have HA2 := Lib.hid (show SetsAt w' by rw [hw]; exact HA.out.drew q); have HB2 := Lib.hid (show Below w.heap.size w w' by rw [hw]; exact below_drewN HB.out q); clear hw HA HB; have HA := HA2; have HB := HB2; clear HA2 HB2))
      go_round
      case rel => exact ⟨5, by omega, rfl⟩
      case measure => simp [intOf]
    · go_wp2_with (first
        | (go_at_call 50; refine (Contains_is 3 _ _ _ _ HO.out).mono ?_; rintro e w' ⟨rfl, rfl⟩)
        | (go_at_call 18; refine (Reads_any _ _).mono ?_; rintro e w' ⟨rfl, rfl⟩)
        | (go_at_call 22; refine (Sendable_any _ _).mono ?_; rintro e w' ⟨rfl, rfl⟩)
        | (go_at_call 43; refine (Global_any _ _ _ HA.out.els).mono ?_; rintro e w' ⟨rfl, rfl⟩)
        | (go_at_call 34; refine (awake_any _ HA.out.fit HA.out.mark HA.out.view).mono ?_; rintro e w' ⟨rfl, q, hw⟩; have HA2 := Lib.hid (show SetsAt w' by rw [hw]; exact HA.out.drew q); have HB2 := Lib.hid (show Below w.heap.size w w' by rw [hw]; exact below_drewN HB.out q); clear hw HA HB; have HA := HA2; have HB := HB2; clear HA2 HB2))
      go_round
      case rel => exact ⟨6, by omega, rfl⟩
      case measure => simp [intOf]
    · go_wp2_with (first
        | (go_at_call 50; refine (Contains_is 3 _ _ _ _ HO.out).mono ?_; rintro e w' ⟨rfl, rfl⟩)
        | (go_at_call 18; refine (Reads_any _ _).mono ?_; rintro e w' ⟨rfl, rfl⟩)
        | (go_at_call 22; refine (Sendable_any _ _).mono ?_; rintro e w' ⟨rfl, rfl⟩)
        | (go_at_call 43; refine (Global_any _ _ _ HA.out.els).mono ?_; rintro e w' ⟨rfl, rfl⟩)
        | (go_at_call 34; refine (awake_any _ HA.out.fit HA.out.mark HA.out.view).mono ?_; rintro e w' ⟨rfl, q, hw⟩; have HA2 := Lib.hid (show SetsAt w' by rw [hw]; exact HA.out.drew q); have HB2 := Lib.hid (show Below w.heap.size w w' by rw [hw]; exact below_drewN HB.out q); clear hw HA HB; have HA := HA2; have HB := HB2; clear HA2 HB2))
      go_round
      case rel => exact ⟨7, by omega, rfl⟩
      case measure => simp [intOf]
    · go_wp2_with (first
        | (go_at_call 50; refine (Contains_is 3 _ _ _ _ HO.out).mono ?_; rintro e w' ⟨rfl, rfl⟩)
        | (go_at_call 18; refine (Reads_any _ _).mono ?_; rintro e w' ⟨rfl, rfl⟩)
        | (go_at_call 22; refine (Sendable_any _ _).mono ?_; rintro e w' ⟨rfl, rfl⟩)
        | (go_at_call 43; refine (Global_any _ _ _ HA.out.els).mono ?_; rintro e w' ⟨rfl, rfl⟩)
        | (go_at_call 34; refine (awake_any _ HA.out.fit HA.out.mark HA.out.view).mono ?_; rintro e w' ⟨rfl, q, hw⟩; have HA2 := Lib.hid (show SetsAt w' by rw [hw]; exact HA.out.drew q); have HB2 := Lib.hid (show Below w.heap.size w w' by rw [hw]; exact below_drewN HB.out q); clear hw HA HB; have HA := HA2; have HB := HB2; clear HA2 HB2))
      go_ret
      exact ⟨rfl, HB.out⟩

set_option maxHeartbeats 8000000 in
set_option maxRecDepth 100000 in
theorem sets_4 (n : Int) (w : World) (hn0 : 0 ≤ n) (hn1 : n ≤ 255) (hn : n % 11 = 3) (hA : SetsAt w) :
    Calls Tryd.prog 8 #[.int .u8 n] w fun e w' => e = .returned (.bool true) ∧ Below w.heap.size w w' := by
  have HA := Lib.hid hA
  have HB := Lib.hid (Below.refl w.heap.size w)
  clear hA
  have p1 : parseI (nameS 4) = 4 := by kernel_rfl
  have p2 : parseE (nameS 4) = 0 := by kernel_rfl
  have p3 : (nameS 4).toList.isEmpty = false := by kernel_rfl
  go_enter Tryd.func8, Tryd.ntmps8
  go_wp2_with (first
    | (go_at_call 11; refine (Name_any _ _ HA.out.names).mono ?_; rintro e w' ⟨rfl, rfl⟩)
    | (go_at_call 9; refine (Parse_any _ _ HA.out.names).mono ?_; rintro e w' ⟨rfl, rfl⟩)
    | (go_at_call 16; refine (Members_form 4 1 (by decide) _ HA.out.names HA.out.mem).mono ?_; rintro e w' ⟨a, cc, rfl, ho, hb⟩; have HO := Lib.hid ho; clear ho; have HA2 := Lib.hid (HA.out.below hb); have HB2 := Lib.hid (HB.out.trans (hb.mono HB.out.size)); clear hb HA HB; have HA := HA2; have HB := HB2; clear HA2 HB2)
    | (go_at_call 47; refine (IsSorted_owned _ _ _ _ HO.out (by decide) (sorted_ref 4)).mono ?_; rintro e w' ⟨rfl, q, hw⟩; have HO2 := Lib.hid (show Owned w' _ _ _ by rw [hw]; exact HO.out.drew q); clear HO; have HO := HO2; clear HO2; have HA2 := Lib.hid (show SetsAt w' by rw [hw]; exact HA.out.drew q); have HB2 := Lib.hid (show Below w.heap.size w w' by rw [hw]; exact below_drewN HB.out q); clear hw HA HB; have HA := HA2; have HB := HB2; clear HA2 HB2)
    | (go_at_call 49; refine (Clone_owned _ _ _ _ HO.out (by decide) (by decide)).mono ?_; rintro e w' ⟨v', rfl, ho, hb⟩; have HV := Lib.hid ho; have HC := Lib.hid hb; clear ho hb)
    | (go_at_call 48; refine (Compact_form 1 _ _ _ _ HV.out (by decide) (by decide +kernel) (by decide)).mono ?_; rintro e w' ⟨a2, c2, rfl, hb2⟩; have hb := HC.out.trans hb2; have HO2 := Lib.hid (HO.out.below hb); clear hb2 HC HV HO; have HO := HO2; clear HO2; have HA2 := Lib.hid (HA.out.below hb); have HB2 := Lib.hid (HB.out.trans (hb.mono HB.out.size)); clear hb HA HB; have HA := HA2; have HB := HB2; clear HA2 HB2))
  have hf : inB 4 1 = false ∧ inB 4 2 = false ∧ inB 4 3 = false ∧ inB 4 4 = true ∧ inB 4 5 = false ∧ inB 4 6 = false := by decide
  obtain ⟨f0, f1, f2, f3, f4, f5⟩ := hf
  go_loop [8] (fun i => ∃ x : Int, (x = 1 ∨ x = 2 ∨ x = 3 ∨ x = 4 ∨ x = 5 ∨ x = 6 ∨ x = 7) ∧ i = .int .i64 x) (fun i => 8 - (intOf i).toNat)
  case atStart => exact ⟨1, by omega, rfl⟩
  case round =>
    obtain ⟨x, hx, rfl⟩ := hrel
    rcases hx with rfl | rfl | rfl | rfl | rfl | rfl | rfl
    · go_wp2_with (first
        | (go_at_call 50; refine (Contains_is 4 _ _ _ _ HO.out).mono ?_; rintro e w' ⟨rfl, rfl⟩)
        | (go_at_call 18; refine (Reads_any _ _).mono ?_; rintro e w' ⟨rfl, rfl⟩)
        | (go_at_call 22; refine (Sendable_any _ _).mono ?_; rintro e w' ⟨rfl, rfl⟩)
        | (go_at_call 43; refine (Global_any _ _ _ HA.out.els).mono ?_; rintro e w' ⟨rfl, rfl⟩)
        | (go_at_call 34; refine (awake_any _ HA.out.fit HA.out.mark HA.out.view).mono ?_; rintro e w' ⟨rfl, q, hw⟩; have HA2 := Lib.hid (show SetsAt w' by rw [hw]; exact HA.out.drew q); have HB2 := Lib.hid (show Below w.heap.size w w' by rw [hw]; exact below_drewN HB.out q); clear hw HA HB; have HA := HA2; have HB := HB2; clear HA2 HB2))
      go_round
      case rel => exact ⟨2, by omega, rfl⟩
      case measure => simp [intOf]
    · go_wp2_with (first
        | (go_at_call 50; refine (Contains_is 4 _ _ _ _ HO.out).mono ?_; rintro e w' ⟨rfl, rfl⟩)
        | (go_at_call 18; refine (Reads_any _ _).mono ?_; rintro e w' ⟨rfl, rfl⟩)
        | (go_at_call 22; refine (Sendable_any _ _).mono ?_; rintro e w' ⟨rfl, rfl⟩)
        | (go_at_call 43; refine (Global_any _ _ _ HA.out.els).mono ?_; rintro e w' ⟨rfl, rfl⟩)
        | (go_at_call 34; refine (awake_any _ HA.out.fit HA.out.mark HA.out.view).mono ?_; rintro e w' ⟨rfl, q, hw⟩; have HA2 := Lib.hid (show SetsAt w' by rw [hw]; exact HA.out.drew q); have HB2 := Lib.hid (show Below w.heap.size w w' by rw [hw]; exact below_drewN HB.out q); clear hw HA HB; have HA := HA2; have HB := HB2; clear HA2 HB2))
      go_round
      case rel => exact ⟨3, by omega, rfl⟩
      case measure => simp [intOf]
    · go_wp2_with (first
        | (go_at_call 50; refine (Contains_is 4 _ _ _ _ HO.out).mono ?_; rintro e w' ⟨rfl, rfl⟩)
        | (go_at_call 18; refine (Reads_any _ _).mono ?_; rintro e w' ⟨rfl, rfl⟩)
        | (go_at_call 22; refine (Sendable_any _ _).mono ?_; rintro e w' ⟨rfl, rfl⟩)
        | (go_at_call 43; refine (Global_any _ _ _ HA.out.els).mono ?_; rintro e w' ⟨rfl, rfl⟩)
        | (go_at_call 34; refine (awake_any _ HA.out.fit HA.out.mark HA.out.view).mono ?_; rintro e w' ⟨rfl, q, hw⟩; have HA2 := Lib.hid (show SetsAt w' by rw [hw]; exact HA.out.drew q); have HB2 := Lib.hid (show Below w.heap.size w w' by rw [hw]; exact below_drewN HB.out q); clear hw HA HB; have HA := HA2; have HB := HB2; clear HA2 HB2))
      go_round
      case rel => exact ⟨4, by omega, rfl⟩
      case measure => simp [intOf]
    · go_wp2_with (first
        | (go_at_call 50; refine (Contains_is 4 _ _ _ _ HO.out).mono ?_; rintro e w' ⟨rfl, rfl⟩)
        | (go_at_call 18; refine (Reads_any _ _).mono ?_; rintro e w' ⟨rfl, rfl⟩)
        | (go_at_call 22; refine (Sendable_any _ _).mono ?_; rintro e w' ⟨rfl, rfl⟩)
        | (go_at_call 43; refine (Global_any _ _ _ HA.out.els).mono ?_; rintro e w' ⟨rfl, rfl⟩)
        | (go_at_call 34; refine (awake_any _ HA.out.fit HA.out.mark HA.out.view).mono ?_; rintro e w' ⟨rfl, q, hw⟩; have HA2 := Lib.hid (show SetsAt w' by rw [hw]; exact HA.out.drew q); have HB2 := Lib.hid (show Below w.heap.size w w' by rw [hw]; exact below_drewN HB.out q); clear hw HA HB; have HA := HA2; have HB := HB2; clear HA2 HB2))
      go_round
      case rel => exact ⟨5, by omega, rfl⟩
      case measure => simp [intOf]
    · go_wp2_with (first
        | (go_at_call 50; refine (Contains_is 4 _ _ _ _ HO.out).mono ?_; rintro e w' ⟨rfl, rfl⟩)
        | (go_at_call 18; refine (Reads_any _ _).mono ?_; rintro e w' ⟨rfl, rfl⟩)
        | (go_at_call 22; refine (Sendable_any _ _).mono ?_; rintro e w' ⟨rfl, rfl⟩)
        | (go_at_call 43; refine (Global_any _ _ _ HA.out.els).mono ?_; rintro e w' ⟨rfl, rfl⟩)
        | (go_at_call 34; refine (awake_any _ HA.out.fit HA.out.mark HA.out.view).mono ?_; rintro e w' ⟨rfl, q, hw⟩; have HA2 := Lib.hid (show SetsAt w' by rw [hw]; exact HA.out.drew q); have HB2 := Lib.hid (show Below w.heap.size w w' by rw [hw]; exact below_drewN HB.out q); clear hw HA HB; have HA := HA2; have HB := HB2; clear HA2 HB2))
      go_round
      case rel => exact ⟨6, by omega, rfl⟩
      case measure => simp [intOf]
    · go_wp2_with (first
        | (go_at_call 50; refine (Contains_is 4 _ _ _ _ HO.out).mono ?_; rintro e w' ⟨rfl, rfl⟩)
        | (go_at_call 18; refine (Reads_any _ _).mono ?_; rintro e w' ⟨rfl, rfl⟩)
        | (go_at_call 22; refine (Sendable_any _ _).mono ?_; rintro e w' ⟨rfl, rfl⟩)
        | (go_at_call 43; refine (Global_any _ _ _ HA.out.els).mono ?_; rintro e w' ⟨rfl, rfl⟩)
        | (go_at_call 34; refine (awake_any _ HA.out.fit HA.out.mark HA.out.view).mono ?_; rintro e w' ⟨rfl, q, hw⟩; have HA2 := Lib.hid (show SetsAt w' by rw [hw]; exact HA.out.drew q); have HB2 := Lib.hid (show Below w.heap.size w w' by rw [hw]; exact below_drewN HB.out q); clear hw HA HB; have HA := HA2; have HB := HB2; clear HA2 HB2))
      go_round
      case rel => exact ⟨7, by omega, rfl⟩
      case measure => simp [intOf]
    · go_wp2_with (first
        | (go_at_call 50; refine (Contains_is 4 _ _ _ _ HO.out).mono ?_; rintro e w' ⟨rfl, rfl⟩)
        | (go_at_call 18; refine (Reads_any _ _).mono ?_; rintro e w' ⟨rfl, rfl⟩)
        | (go_at_call 22; refine (Sendable_any _ _).mono ?_; rintro e w' ⟨rfl, rfl⟩)
        | (go_at_call 43; refine (Global_any _ _ _ HA.out.els).mono ?_; rintro e w' ⟨rfl, rfl⟩)
        | (go_at_call 34; refine (awake_any _ HA.out.fit HA.out.mark HA.out.view).mono ?_; rintro e w' ⟨rfl, q, hw⟩; have HA2 := Lib.hid (show SetsAt w' by rw [hw]; exact HA.out.drew q); have HB2 := Lib.hid (show Below w.heap.size w w' by rw [hw]; exact below_drewN HB.out q); clear hw HA HB; have HA := HA2; have HB := HB2; clear HA2 HB2))
      go_ret
      exact ⟨rfl, HB.out⟩

set_option maxHeartbeats 8000000 in
set_option maxRecDepth 100000 in
theorem sets_5 (n : Int) (w : World) (hn0 : 0 ≤ n) (hn1 : n ≤ 255) (hn : n % 11 = 4) (hA : SetsAt w) :
    Calls Tryd.prog 8 #[.int .u8 n] w fun e w' => e = .returned (.bool true) ∧ Below w.heap.size w w' := by
  have HA := Lib.hid hA
  have HB := Lib.hid (Below.refl w.heap.size w)
  clear hA
  have p1 : parseI (nameS 5) = 5 := by kernel_rfl
  have p2 : parseE (nameS 5) = 0 := by kernel_rfl
  have p3 : (nameS 5).toList.isEmpty = false := by kernel_rfl
  go_enter Tryd.func8, Tryd.ntmps8
  go_wp2_with (first
    | (go_at_call 11; refine (Name_any _ _ HA.out.names).mono ?_; rintro e w' ⟨rfl, rfl⟩)
    | (go_at_call 9; refine (Parse_any _ _ HA.out.names).mono ?_; rintro e w' ⟨rfl, rfl⟩)
    | (go_at_call 16; refine (Members_form 5 1 (by decide) _ HA.out.names HA.out.mem).mono ?_; rintro e w' ⟨a, cc, rfl, ho, hb⟩; have HO := Lib.hid ho; clear ho; have HA2 := Lib.hid (HA.out.below hb); have HB2 := Lib.hid (HB.out.trans (hb.mono HB.out.size)); clear hb HA HB; have HA := HA2; have HB := HB2; clear HA2 HB2)
    | (go_at_call 47; refine (IsSorted_owned _ _ _ _ HO.out (by decide) (sorted_ref 5)).mono ?_; rintro e w' ⟨rfl, q, hw⟩; have HO2 := Lib.hid (show Owned w' _ _ _ by rw [hw]; exact HO.out.drew q); clear HO; have HO := HO2; clear HO2; have HA2 := Lib.hid (show SetsAt w' by rw [hw]; exact HA.out.drew q); have HB2 := Lib.hid (show Below w.heap.size w w' by rw [hw]; exact below_drewN HB.out q); clear hw HA HB; have HA := HA2; have HB := HB2; clear HA2 HB2)
    | (go_at_call 49; refine (Clone_owned _ _ _ _ HO.out (by decide) (by decide)).mono ?_; rintro e w' ⟨v', rfl, ho, hb⟩; have HV := Lib.hid ho; have HC := Lib.hid hb; clear ho hb)
    | (go_at_call 48; refine (Compact_form 1 _ _ _ _ HV.out (by decide) (by decide +kernel) (by decide)).mono ?_; rintro e w' ⟨a2, c2, rfl, hb2⟩; have hb := HC.out.trans hb2; have HO2 := Lib.hid (HO.out.below hb); clear hb2 HC HV HO; have HO := HO2; clear HO2; have HA2 := Lib.hid (HA.out.below hb); have HB2 := Lib.hid (HB.out.trans (hb.mono HB.out.size)); clear hb HA HB; have HA := HA2; have HB := HB2; clear HA2 HB2))
  have hf : inB 5 1 = false ∧ inB 5 2 = false ∧ inB 5 3 = false ∧ inB 5 4 = false ∧ inB 5 5 = true ∧ inB 5 6 = false := by decide
  obtain ⟨f0, f1, f2, f3, f4, f5⟩ := hf
  go_loop [8] (fun i => ∃ x : Int, (x = 1 ∨ x = 2 ∨ x = 3 ∨ x = 4 ∨ x = 5 ∨ x = 6 ∨ x = 7) ∧ i = .int .i64 x) (fun i => 8 - (intOf i).toNat)
  case atStart => exact ⟨1, by omega, rfl⟩
  case round =>
    obtain ⟨x, hx, rfl⟩ := hrel
    rcases hx with rfl | rfl | rfl | rfl | rfl | rfl | rfl
    · go_wp2_with (first
        | (go_at_call 50; refine (Contains_is 5 _ _ _ _ HO.out).mono ?_; rintro e w' ⟨rfl, rfl⟩)
        | (go_at_call 18; refine (Reads_any _ _).mono ?_; rintro e w' ⟨rfl, rfl⟩)
        | (go_at_call 22; refine (Sendable_any _ _).mono ?_; rintro e w' ⟨rfl, rfl⟩)
        | (go_at_call 43; refine (Global_any _ _ _ HA.out.els).mono ?_; rintro e w' ⟨rfl, rfl⟩)
        | (go_at_call 34; refine (awake_any _ HA.out.fit HA.out.mark HA.out.view).mono ?_; rintro e w' ⟨rfl, q, hw⟩; have HA2 := Lib.hid (show SetsAt w' by rw [hw]; exact HA.out.drew q); have HB2 := Lib.hid (show Below w.heap.size w w' by rw [hw]; exact below_drewN HB.out q); clear hw HA HB; have HA := HA2; have HB := HB2; clear HA2 HB2))
      go_round
      case rel => exact ⟨2, by omega, rfl⟩
      case measure => simp [intOf]
    · go_wp2_with (first
        | (go_at_call 50; refine (Contains_is 5 _ _ _ _ HO.out).mono ?_; rintro e w' ⟨rfl, rfl⟩)
        | (go_at_call 18; refine (Reads_any _ _).mono ?_; rintro e w' ⟨rfl, rfl⟩)
        | (go_at_call 22; refine (Sendable_any _ _).mono ?_; rintro e w' ⟨rfl, rfl⟩)
        | (go_at_call 43; refine (Global_any _ _ _ HA.out.els).mono ?_; rintro e w' ⟨rfl, rfl⟩)
        | (go_at_call 34; refine (awake_any _ HA.out.fit HA.out.mark HA.out.view).mono ?_; rintro e w' ⟨rfl, q, hw⟩; have HA2 := Lib.hid (show SetsAt w' by rw [hw]; exact HA.out.drew q); have HB2 := Lib.hid (show Below w.heap.size w w' by rw [hw]; exact below_drewN HB.out q); clear hw HA HB; have HA := HA2; have HB := HB2; clear HA2 HB2))
      go_round
      case rel => exact ⟨3, by omega, rfl⟩
      case measure => simp [intOf]
    · go_wp2_with (first
        | (go_at_call 50; refine (Contains_is 5 _ _ _ _ HO.out).mono ?_; rintro e w' ⟨rfl, rfl⟩)
        | (go_at_call 18; refine (Reads_any _ _).mono ?_; rintro e w' ⟨rfl, rfl⟩)
        | (go_at_call 22; refine (Sendable_any _ _).mono ?_; rintro e w' ⟨rfl, rfl⟩)
        | (go_at_call 43; refine (Global_any _ _ _ HA.out.els).mono ?_; rintro e w' ⟨rfl, rfl⟩)
        | (go_at_call 34; refine (awake_any _ HA.out.fit HA.out.mark HA.out.view).mono ?_; rintro e w' ⟨rfl, q, hw⟩; have HA2 := Lib.hid (show SetsAt w' by rw [hw]; exact HA.out.drew q); have HB2 := Lib.hid (show Below w.heap.size w w' by rw [hw]; exact below_drewN HB.out q); clear hw HA HB; have HA := HA2; have HB := HB2; clear HA2 HB2))
      go_round
      case rel => exact ⟨4, by omega, rfl⟩
      case measure => simp [intOf]
    · go_wp2_with (first
        | (go_at_call 50; refine (Contains_is 5 _ _ _ _ HO.out).mono ?_; rintro e w' ⟨rfl, rfl⟩)
        | (go_at_call 18; refine (Reads_any _ _).mono ?_; rintro e w' ⟨rfl, rfl⟩)
        | (go_at_call 22; refine (Sendable_any _ _).mono ?_; rintro e w' ⟨rfl, rfl⟩)
        | (go_at_call 43; refine (Global_any _ _ _ HA.out.els).mono ?_; rintro e w' ⟨rfl, rfl⟩)
        | (go_at_call 34; refine (awake_any _ HA.out.fit HA.out.mark HA.out.view).mono ?_; rintro e w' ⟨rfl, q, hw⟩; have HA2 := Lib.hid (show SetsAt w' by rw [hw]; exact HA.out.drew q); have HB2 := Lib.hid (show Below w.heap.size w w' by rw [hw]; exact below_drewN HB.out q); clear hw HA HB; have HA := HA2; have HB := HB2; clear HA2 HB2))
      go_round
      case rel => exact ⟨5, by omega, rfl⟩
      case measure => simp [intOf]
    · go_wp2_with (first
        | (go_at_call 50; refine (Contains_is 5 _ _ _ _ HO.out).mono ?_; rintro e w' ⟨rfl, rfl⟩)
        | (go_at_call 18; refine (Reads_any _ _).mono ?_; rintro e w' ⟨rfl, rfl⟩)
        | (go_at_call 22; refine (Sendable_any _ _).mono ?_; rintro e w' ⟨rfl, rfl⟩)
        | (go_at_call 43; refine (Global_any _ _ _ HA.out.els).mono ?_; rintro e w' ⟨rfl, rfl⟩)
        | (go_at_call 34; refine (awake_any _ HA.out.fit HA.out.mark HA.out.view).mono ?_; rintro e w' ⟨rfl, q, hw⟩; have HA2 := Lib.hid (show SetsAt w' by rw [hw]; exact HA.out.drew q); have HB2 := Lib.hid (show Below w.heap.size w w' by rw [hw]; exact below_drewN HB.out q); clear hw HA HB; have HA := HA2; have HB := HB2; clear HA2 HB2))
      go_round
      case rel => exact ⟨6, by omega, rfl⟩
      case measure => simp [intOf]
    · go_wp2_with (first
        | (go_at_call 50; refine (Contains_is 5 _ _ _ _ HO.out).mono ?_; rintro e w' ⟨rfl, rfl⟩)
        | (go_at_call 18; refine (Reads_any _ _).mono ?_; rintro e w' ⟨rfl, rfl⟩)
        | (go_at_call 22; refine (Sendable_any _ _).mono ?_; rintro e w' ⟨rfl, rfl⟩)
        | (go_at_call 43; refine (Global_any _ _ _ HA.out.els).mono ?_; rintro e w' ⟨rfl, rfl⟩)
        | (go_at_call 34; refine (awake_any _ HA.out.fit HA.out.mark HA.out.view).mono ?_; rintro e w' ⟨rfl, q, hw⟩; have HA2 := Lib.hid (show SetsAt w' by rw [hw]; exact HA.out.drew q); have HB2 := Lib.hid (show Below w.heap.size w w' by rw [hw]; exact below_drewN HB.out q); clear hw HA HB; have HA := HA2; have HB := HB2; clear HA2 HB2))
      go_round
      case rel => exact ⟨7, by omega, rfl⟩
      case measure => simp [intOf]
    · go_wp2_with (first
        | (go_at_call 50; refine (Contains_is 5 _ _ _ _ HO.out).mono ?_; rintro e w' ⟨rfl, rfl⟩)
        | (go_at_call 18; refine (Reads_any _ _).mono ?_; rintro e w' ⟨rfl, rfl⟩)
        | (go_at_call 22; refine (Sendable_any _ _).mono ?_; rintro e w' ⟨rfl, rfl⟩)
        | (go_at_call 43; refine (Global_any _ _ _ HA.out.els).mono ?_; rintro e w' ⟨rfl, rfl⟩)
        | (go_at_call 34; refine (awake_any _ HA.out.fit HA.out.mark HA.out.view).mono ?_; rintro e w' ⟨rfl, q, hw⟩; have HA2 := Lib.hid (show SetsAt w' by rw [hw]; exact HA.out.drew q); have HB2 := Lib.hid (show Below w.heap.size w w' by rw [hw]; exact below_drewN HB.out q); clear hw HA HB; have HA := HA2; have HB := HB2; clear HA2 HB2))
      go_ret
      exact ⟨rfl, HB.out⟩

set_option maxHeartbeats 8000000 in
set_option maxRecDepth 100000 in
theorem sets_6 (n : Int) (w : World) (hn0 : 0 ≤ n) (hn1 : n ≤ 255) (hn : n % 11 = 5) (hA : SetsAt w) :
    Calls Tryd.prog 8 #[.int .u8 n] w fun e w' => e = .returned (.bool true) ∧ Below w.heap.size w w' := by
  have HA := Lib.hid hA
  have HB := Lib.hid (Below.refl w.heap.size w)
  clear hA
  have p1 : parseI (nameS 6) = 6 := by kernel_rfl
  have p2 : parseE (nameS 6) = 0 := by kernel_rfl
  have p3 : (nameS 6).toList.isEmpty = false := by kernel_rfl
  go_enter Tryd.func8, Tryd.ntmps8
  go_wp2_with (first
    | (go_at_call 11; refine (Name_any _ _ HA.out.names).mono ?_; rintro e w' ⟨rfl, rfl⟩)
    | (go_at_call 9; refine (Parse_any _ _ HA.out.names).mono ?_; rintro e w' ⟨rfl, rfl⟩)
    | (go_at_call 16; refine (Members_form 6 1 (by decide) _ HA.out.names HA.out.mem).mono ?_; rintro e w' ⟨a, cc, rfl, ho, hb⟩; have HO := Lib.hid ho; clear ho; have HA2 := Lib.hid (HA.out.below hb); have HB2 := Lib.hid (HB.out.trans (hb.mono HB.out.size)); clear hb HA HB; have HA := HA2; have HB := HB2; clear HA2 HB2)
    | (go_at_call 47; refine (IsSorted_owned _ _ _ _ HO.out (by decide) (sorted_ref 6)).mono ?_; rintro e w' ⟨rfl, q, hw⟩; have HO2 := Lib.hid (show Owned w' _ _ _ by rw [hw]; exact HO.out.drew q); clear HO; have HO := HO2; clear HO2; have HA2 := Lib.hid (show SetsAt w' by rw [hw]; exact HA.out.drew q); have HB2 := Lib.hid (show Below w.heap.size w w' by rw [hw]; exact below_drewN HB.out q); clear hw HA HB; have HA := HA2; have HB := HB2; clear HA2 HB2)
    | (go_at_call 49; refine (Clone_owned _ _ _ _ HO.out (by decide) (by decide)).mono ?_; rintro e w' ⟨v', rfl, ho, hb⟩; have HV := Lib.hid ho; have HC := Lib.hid hb; clear ho hb)
    | (go_at_call 48; refine (Compact_form 1 _ _ _ _ HV.out (by decide) (by decide +kernel) (by decide)).mono ?_; rintro e w' ⟨a2, c2, rfl, hb2⟩; have hb := HC.out.trans hb2; have HO2 := Lib.hid (HO.out.below hb); clear hb2 HC HV HO; have HO := HO2; clear HO2; have HA2 := Lib.hid (HA.out.below hb); have HB2 := Lib.hid (HB.out.trans (hb.mono HB.out.size)); clear hb HA HB; have HA := HA2; have HB := HB2; clear HA2 HB2))
  have hf : inB 6 1 = false ∧ inB 6 2 = false ∧ inB 6 3 = false ∧ inB 6 4 = false ∧ inB 6 5 = false ∧ inB 6 6 = true := by decide
  obtain ⟨f0, f1, f2, f3, f4, f5⟩ := hf
  go_loop [8] (fun i => ∃ x : Int, (x = 1 ∨ x = 2 ∨ x = 3 ∨ x = 4 ∨ x = 5 ∨ x = 6 ∨ x = 7) ∧ i = .int .i64 x) (fun i => 8 - (intOf i).toNat)
  case atStart => exact ⟨1, by omega, rfl⟩
  case round =>
    obtain ⟨x, hx, rfl⟩ := hrel
    rcases hx with rfl | rfl | rfl | rfl | rfl | rfl | rfl
    · go_wp2_with (first
        | (go_at_call 50; refine (Contains_is 6 _ _ _ _ HO.out).mono ?_; rintro e w' ⟨rfl, rfl⟩)
        | (go_at_call 18; refine (Reads_any _ _).mono ?_; rintro e w' ⟨rfl, rfl⟩)
        | (go_at_call 22; refine (Sendable_any _ _).mono ?_; rintro e w' ⟨rfl, rfl⟩)
        | (go_at_call 43; refine (Global_any _ _ _ HA.out.els).mono ?_; rintro e w' ⟨rfl, rfl⟩)
        | (go_at_call 34; refine (awake_any _ HA.out.fit HA.out.mark HA.out.view).mono ?_; rintro e w' ⟨rfl, q, hw⟩; have HA2 := Lib.hid (show SetsAt w' by rw [hw]; exact HA.out.drew q); have HB2 := Lib.hid (show Below w.heap.size w w' by rw [hw]; exact below_drewN HB.out q); clear hw HA HB; have HA := HA2; have HB := HB2; clear HA2 HB2))
      go_round
      case rel => exact ⟨2, by omega, rfl⟩
      case measure => simp [intOf]
    · go_wp2_with (first
        | (go_at_call 50; refine (Contains_is 6 _ _ _ _ HO.out).mono ?_; rintro e w' ⟨rfl, rfl⟩)
        | (go_at_call 18; refine (Reads_any _ _).mono ?_; rintro e w' ⟨rfl, rfl⟩)
        | (go_at_call 22; refine (Sendable_any _ _).mono ?_; rintro e w' ⟨rfl, rfl⟩)
        | (go_at_call 43; refine (Global_any _ _ _ HA.out.els).mono ?_; rintro e w' ⟨rfl, rfl⟩)
        | (go_at_call 34; refine (awake_any _ HA.out.fit HA.out.mark HA.out.view).mono ?_; rintro e w' ⟨rfl, q, hw⟩; have HA2 := Lib.hid (show SetsAt w' by rw [hw]; exact HA.out.drew q); have HB2 := Lib.hid (show Below w.heap.size w w' by rw [hw]; exact below_drewN HB.out q); clear hw HA HB; have HA := HA2; have HB := HB2; clear HA2 HB2))
      go_round
      case rel => exact ⟨3, by omega, rfl⟩
      case measure => simp [intOf]
    · go_wp2_with (first
        | (go_at_call 50; refine (Contains_is 6 _ _ _ _ HO.out).mono ?_; rintro e w' ⟨rfl, rfl⟩)
        | (go_at_call 18; refine (Reads_any _ _).mono ?_; rintro e w' ⟨rfl, rfl⟩)
        | (go_at_call 22; refine (Sendable_any _ _).mono ?_; rintro e w' ⟨rfl, rfl⟩)
        | (go_at_call 43; refine (Global_any _ _ _ HA.out.els).mono ?_; rintro e w' ⟨rfl, rfl⟩)
        | (go_at_call 34; refine (awake_any _ HA.out.fit HA.out.mark HA.out.view).mono ?_; rintro e w' ⟨rfl, q, hw⟩; have HA2 := Lib.hid (show SetsAt w' by rw [hw]; exact HA.out.drew q); have HB2 := Lib.hid (show Below w.heap.size w w' by rw [hw]; exact below_drewN HB.out q); clear hw HA HB; have HA := HA2; have HB := HB2; clear HA2 HB2))
      go_round
      case rel => exact ⟨4, by omega, rfl⟩
      case measure => simp [intOf]
    · go_wp2_with (first
        | (go_at_call 50; refine (Contains_is 6 _ _ _ _ HO.out).mono ?_; rintro e w' ⟨rfl, rfl⟩)
        | (go_at_call 18; refine (Reads_any _ _).mono ?_; rintro e w' ⟨rfl, rfl⟩)
        | (go_at_call 22; refine (Sendable_any _ _).mono ?_; rintro e w' ⟨rfl, rfl⟩)
        | (go_at_call 43; refine (Global_any _ _ _ HA.out.els).mono ?_; rintro e w' ⟨rfl, rfl⟩)
        | (go_at_call 34; refine (awake_any _ HA.out.fit HA.out.mark HA.out.view).mono ?_; rintro e w' ⟨rfl, q, hw⟩; have HA2 := Lib.hid (show SetsAt w' by rw [hw]; exact HA.out.drew q); have HB2 := Lib.hid (show Below w.heap.size w w' by rw [hw]; exact below_drewN HB.out q); clear hw HA HB; have HA := HA2; have HB := HB2; clear HA2 HB2))
      go_round
      case rel => exact ⟨5, by omega, rfl⟩
      case measure => simp [intOf]
    · go_wp2_with (first
        | (go_at_call 50; refine (Contains_is 6 _ _ _ _ HO.out).mono ?_; rintro e w' ⟨rfl, rfl⟩)
        | (go_at_call 18; refine (Reads_any _ _).mono ?_; rintro e w' ⟨rfl, rfl⟩)
        | (go_at_call 22; refine (Sendable_any _ _).mono ?_; rintro e w' ⟨rfl, rfl⟩)
        | (go_at_call 43; refine (Global_any _ _ _ HA.out.els).mono ?_; rintro e w' ⟨rfl, rfl⟩)
        | (go_at_call 34; refine (awake_any _ HA.out.fit HA.out.mark HA.out.view).mono ?_; rintro e w' ⟨rfl, q, hw⟩; have HA2 := Lib.hid (show SetsAt w' by rw [hw]; exact HA.out.drew q); have HB2 := Lib.hid (show Below w.heap.size w w' by rw [hw]; exact below_drewN HB.out q); clear hw HA HB; have HA := HA2; have HB := HB2; clear HA2 HB2))
      go_round
      case rel => exact ⟨6, by omega, rfl⟩
      case measure => simp [intOf]
    · go_wp2_with (first
        | (go_at_call 50; refine (Contains_is 6 _ _ _ _ HO.out).mono ?_; rintro e w' ⟨rfl, rfl⟩)
        | (go_at_call 18; refine (Reads_any _ _).mono ?_; rintro e w' ⟨rfl, rfl⟩)
        | (go_at_call 22; refine (Sendable_any _ _).mono ?_; rintro e w' ⟨rfl, rfl⟩)
        | (go_at_call 43; refine (Global_any _ _ _ HA.out.els).mono ?_; rintro e w' ⟨rfl, rfl⟩)
        | (go_at_call 34; refine (awake_any _ HA.out.fit HA.out.mark HA.out.view).mono ?_; rintro e w' ⟨rfl, q, hw⟩; have HA2 := Lib.hid (show SetsAt w' by rw [hw]; exact HA.out.drew q); have HB2 := Lib.hid (show Below w.heap.size w w' by rw [hw]; exact below_drewN HB.out q); clear hw HA HB; have HA := HA2; have HB := HB2; clear HA2 HB2))
      go_round
      case rel => exact ⟨7, by omega, rfl⟩
      case measure => simp [intOf]
    · go_wp2_with (first
        | (go_at_call 50; refine (Contains_is 6 _ _ _ _ HO.out).mono ?_; rintro e w' ⟨rfl, rfl⟩)
        | (go_at_call 18; refine (Reads_any _ _).mono ?_; rintro e w' ⟨rfl, rfl⟩)
        | (go_at_call 22; refine (Sendable_any _ _).mono ?_; rintro e w' ⟨rfl, rfl⟩)
        | (go_at_call 43; refine (Global_any _ _ _ HA.out.els).mono ?_; rintro e w' ⟨rfl, rfl⟩)
        | (go_at_call 34; refine (awake_any _ HA.out.fit HA.out.mark HA.out.view).mono ?_; rintro e w' ⟨rfl, q, hw⟩; have HA2 := Lib.hid (show SetsAt w' by rw [hw]; exact HA.out.drew q); have HB2 := Lib.hid (show Below w.heap.size w w' by rw [hw]; exact below_drewN HB.out q); clear hw HA HB; have HA := HA2; have HB := HB2; clear HA2 HB2))
      go_ret
      exact ⟨rfl, HB.out⟩

set_option maxHeartbeats 8000000 in
set_option maxRecDepth 100000 in
theorem sets_7 (n : Int) (w : World) (hn0 : 0 ≤ n) (hn1 : n ≤ 255) (hn : n % 11 = 6) (hA : SetsAt w) :
    Calls Tryd.prog 8 #[.int .u8 n] w fun e w' => e = .returned (.bool true) ∧ Below w.heap.size w w' := by
  have HA := Lib.hid hA
  have HB := Lib.hid (Below.refl w.heap.size w)
  clear hA
  have p1 : parseI (nameS 7) = 7 := by kernel_rfl
  have p2 : parseE (nameS 7) = 0 := by kernel_rfl
  have p3 : (nameS 7).toList.isEmpty = false := by kernel_rfl
  go_enter Tryd.func8, Tryd.ntmps8
  go_wp2_with (first
    | (go_at_call 11; refine (Name_any _ _ HA.out.names).mono ?_; rintro e w' ⟨rfl, rfl⟩)
    | (go_at_call 9; refine (Parse_any _ _ HA.out.names).mono ?_; rintro e w' ⟨rfl, rfl⟩)
    | (go_at_call 16; refine (Members_form 7 3 (by decide) _ HA.out.names HA.out.mem).mono ?_; rintro e w' ⟨a, cc, rfl, ho, hb⟩; have HO := Lib.hid ho; clear ho; have HA2 := Lib.hid (HA.out.below hb); have HB2 := Lib.hid (HB.out.trans (hb.mono HB.out.size)); clear hb HA HB; have HA := HA2; have HB := HB2; clear HA2 HB2)
    | (go_at_call 47; refine (IsSorted_owned _ _ _ _ HO.out (by decide) (sorted_ref 7)).mono ?_; rintro e w' ⟨rfl, q, hw⟩; have HO2 := Lib.hid (show Owned w' _ _ _ by rw [hw]; exact HO.out.drew q); clear HO; have HO := HO2; clear HO2; have HA2 := Lib.hid (show SetsAt w' by rw [hw]; exact HA.out.drew q); have HB2 := Lib.hid (show Below w.heap.size w w' by rw [hw]; exact below_drewN HB.out q); clear hw HA HB; have HA := HA2; have HB := HB2; clear HA2 HB2)
    | (go_at_call 49; refine (Clone_owned _ _ _ _ HO.out (by decide) (by decide)).mono ?_; rintro e w' ⟨v', rfl, ho, hb⟩; have HV := Lib.hid ho; have HC := Lib.hid hb; clear ho hb)
    | (go_at_call 48; refine (Compact_form 3 _ _ _ _ HV.out (by decide) (by decide +kernel) (by decide)).mono ?_; rintro e w' ⟨a2, c2, rfl, hb2⟩; have hb := HC.out.trans hb2; have HO2 := Lib.hid (HO.out.below hb); clear hb2 HC HV HO; have HO := HO2; clear HO2; have HA2 := Lib.hid (HA.out.below hb); have HB2 := Lib.hid (HB.out.trans (hb.mono HB.out.size)); clear hb HA HB; have HA := HA2; have HB := HB2; clear HA2 HB2))
  have hf : inB 7 1 = false ∧ inB 7 2 = false ∧ inB 7 3 = true ∧ inB 7 4 = true ∧ inB 7 5 = true ∧ inB 7 6 = false ∧ readsB 1 = true ∧ readsB 2 = true ∧ readsB 3 = true ∧ readsB 4 = true ∧ readsB 5 = true ∧ readsB 6 = false := by decide
  obtain ⟨f0, f1, f2, f3, f4, f5, f6, f7, f8, f9, f10, f11⟩ := hf
  go_loop [8] (fun i => ∃ x : Int, (x = 1 ∨ x = 2 ∨ x = 3 ∨ x = 4 ∨ x = 5 ∨ x = 6 ∨ x = 7) ∧ i = .int .i64 x) (fun i => 8 - (intOf i).toNat)
  case atStart => exact ⟨1, by omega, rfl⟩
  case round =>
    obtain ⟨x, hx, rfl⟩ := hrel
    rcases hx with rfl | rfl | rfl | rfl | rfl | rfl | rfl
    · go_wp2_with (first
        | (go_at_call 50; refine (Contains_is 7 _ _ _ _ HO.out).mono ?_; rintro e w' ⟨rfl, rfl⟩)
        | (go_at_call 18; refine (Reads_any _ _).mono ?_; rintro e w' ⟨rfl, rfl⟩)
        | (go_at_call 22; refine (Sendable_any _ _).mono ?_; rintro e w' ⟨rfl, rfl⟩)
        | (go_at_call 43; refine (Global_any _ _ _ HA.out.els).mono ?_; rintro e w' ⟨rfl, rfl⟩)
        | (go_at_call 34; refine (awake_any _ HA.out.fit HA.out.mark HA.out.view).mono ?_; rintro e w' ⟨rfl, q, hw⟩; have HA2 := Lib.hid (show SetsAt w' by rw [hw]; exact HA.out.drew q); have HB2 := Lib.hid (show Below w.heap.size w w' by rw [hw]; exact below_drewN HB.out q); clear hw HA HB; have HA := HA2; have HB := HB2; clear HA2 HB2))
      go_round
      case rel => exact ⟨2, by omega, rfl⟩
      case measure => simp [intOf]
    · go_wp2_with (first
        | (go_at_call 50; refine (Contains_is 7 _ _ _ _ HO.out).mono ?_; rintro e w' ⟨rfl, rfl⟩)
        | (go_at_call 18; refine (Reads_any _ _).mono ?_; rintro e w' ⟨rfl, rfl⟩)
        | (go_at_call 22; refine (Sendable_any _ _).mono ?_; rintro e w' ⟨rfl, rfl⟩)
        | (go_at_call 43; refine (Global_any _ _ _ HA.out.els).mono ?_; rintro e w' ⟨rfl, rfl⟩)
        | (go_at_call 34; refine (awake_any _ HA.out.fit HA.out.mark HA.out.view).mono ?_; rintro e w' ⟨rfl, q, hw⟩; have HA2 := Lib.hid (show SetsAt w' by rw [hw]; exact HA.out.drew q); have HB2 := Lib.hid (show Below w.heap.size w w' by rw [hw]; exact below_drewN HB.out q); clear hw HA HB; have HA := HA2; have HB := HB2; clear HA2 HB2))
      go_round
      case rel => exact ⟨3, by omega, rfl⟩
      case measure => simp [intOf]
    · go_wp2_with (first
        | (go_at_call 50; refine (Contains_is 7 _ _ _ _ HO.out).mono ?_; rintro e w' ⟨rfl, rfl⟩)
        | (go_at_call 18; refine (Reads_any _ _).mono ?_; rintro e w' ⟨rfl, rfl⟩)
        | (go_at_call 22; refine (Sendable_any _ _).mono ?_; rintro e w' ⟨rfl, rfl⟩)
        | (go_at_call 43; refine (Global_any _ _ _ HA.out.els).mono ?_; rintro e w' ⟨rfl, rfl⟩)
        | (go_at_call 34; refine (awake_any _ HA.out.fit HA.out.mark HA.out.view).mono ?_; rintro e w' ⟨rfl, q, hw⟩; have HA2 := Lib.hid (show SetsAt w' by rw [hw]; exact HA.out.drew q); have HB2 := Lib.hid (show Below w.heap.size w w' by rw [hw]; exact below_drewN HB.out q); clear hw HA HB; have HA := HA2; have HB := HB2; clear HA2 HB2))
      go_round
      case rel => exact ⟨4, by omega, rfl⟩
      case measure => simp [intOf]
    · go_wp2_with (first
        | (go_at_call 50; refine (Contains_is 7 _ _ _ _ HO.out).mono ?_; rintro e w' ⟨rfl, rfl⟩)
        | (go_at_call 18; refine (Reads_any _ _).mono ?_; rintro e w' ⟨rfl, rfl⟩)
        | (go_at_call 22; refine (Sendable_any _ _).mono ?_; rintro e w' ⟨rfl, rfl⟩)
        | (go_at_call 43; refine (Global_any _ _ _ HA.out.els).mono ?_; rintro e w' ⟨rfl, rfl⟩)
        | (go_at_call 34; refine (awake_any _ HA.out.fit HA.out.mark HA.out.view).mono ?_; rintro e w' ⟨rfl, q, hw⟩; have HA2 := Lib.hid (show SetsAt w' by rw [hw]; exact HA.out.drew q); have HB2 := Lib.hid (show Below w.heap.size w w' by rw [hw]; exact below_drewN HB.out q); clear hw HA HB; have HA := HA2; have HB := HB2; clear HA2 HB2))
      go_round
      case rel => exact ⟨5, by omega, rfl⟩
      case measure => simp [intOf]
    · go_wp2_with (first
        | (go_at_call 50; refine (Contains_is 7 _ _ _ _ HO.out).mono ?_; rintro e w' ⟨rfl, rfl⟩)
        | (go_at_call 18; refine (Reads_any _ _).mono ?_; rintro e w' ⟨rfl, rfl⟩)
        | (go_at_call 22; refine (Sendable_any _ _).mono ?_; rintro e w' ⟨rfl, rfl⟩)
        | (go_at_call 43; refine (Global_any _ _ _ HA.out.els).mono ?_; rintro e w' ⟨rfl, rfl⟩)
        | (go_at_call 34; refine (awake_any _ HA.out.fit HA.out.mark HA.out.view).mono ?_; rintro e w' ⟨rfl, q, hw⟩; have HA2 := Lib.hid (show SetsAt w' by rw [hw]; exact HA.out.drew q); have HB2 := Lib.hid (show Below w.heap.size w w' by rw [hw]; exact below_drewN HB.out q); clear hw HA HB; have HA := HA2; have HB := HB2; clear HA2 HB2))
      go_round
      case rel => exact ⟨6, by omega, rfl⟩
      case measure => simp [intOf]
    · go_wp2_with (first
        | (go_at_call 50; refine (Contains_is 7 _ _ _ _ HO.out).mono ?_; rintro e w' ⟨rfl, rfl⟩)
        | (go_at_call 18; refine (Reads_any _ _).mono ?_; rintro e w' ⟨rfl, rfl⟩)
        | (go_at_call 22; refine (Sendable_any _ _).mono ?_; rintro e w' ⟨rfl, rfl⟩)
        | (go_at_call 43; refine (Global_any _ _ _ HA.out.els).mono ?_; rintro e w' ⟨rfl, rfl⟩)
        | (go_at_call 34; refine (awake_any _ HA.out.fit HA.out.mark HA.out.view).mono ?_; rintro e w' ⟨rfl, q, hw⟩; have HA2 := Lib.hid (show SetsAt w' by rw [hw]; exact HA.out.drew q); have HB2 := Lib.hid (show Below w.heap.size w w' by rw [hw]; exact below_drewN HB.out q); clear hw HA HB; have HA := HA2; have HB := HB2; clear HA2 HB2))
      go_round
      case rel => exact ⟨7, by omega, rfl⟩
      case measure => simp [intOf]
    · go_wp2_with (first
        | (go_at_call 50; refine (Contains_is 7 _ _ _ _ HO.out).mono ?_; rintro e w' ⟨rfl, rfl⟩)
        | (go_at_call 18; refine (Reads_any _ _).mono ?_; rintro e w' ⟨rfl, rfl⟩)
        | (go_at_call 22; refine (Sendable_any _ _).mono ?_; rintro e w' ⟨rfl, rfl⟩)
        | (go_at_call 43; refine (Global_any _ _ _ HA.out.els).mono ?_; rintro e w' ⟨rfl, rfl⟩)
        | (go_at_call 34; refine (awake_any _ HA.out.fit HA.out.mark HA.out.view).mono ?_; rintro e w' ⟨rfl, q, hw⟩; have HA2 := Lib.hid (show SetsAt w' by rw [hw]; exact HA.out.drew q); have HB2 := Lib.hid (show Below w.heap.size w w' by rw [hw]; exact below_drewN HB.out q); clear hw HA HB; have HA := HA2; have HB := HB2; clear HA2 HB2))
      go_ret
      exact ⟨rfl, HB.out⟩

set_option maxHeartbeats 8000000 in
set_option maxRecDepth 100000 in
theorem sets_8 (n : Int) (w : World) (hn0 : 0 ≤ n) (hn1 : n ≤ 255) (hn : n % 11 = 7) (hA : SetsAt w) :
    Calls Tryd.prog 8 #[.int .u8 n] w fun e w' => e = .returned (.bool true) ∧ Below w.heap.size w w' := by
  have HA := Lib.hid hA
  have HB := Lib.hid (Below.refl w.heap.size w)
  clear hA
  have p1 : parseI (nameS 8) = 8 := by kernel_rfl
  have p2 : parseE (nameS 8) = 0 := by kernel_rfl
  have p3 : (nameS 8).toList.isEmpty = false := by kernel_rfl
  go_enter Tryd.func8, Tryd.ntmps8
  go_wp2_with (first
    | (go_at_call 11; refine (Name_any _ _ HA.out.names).mono ?_; rintro e w' ⟨rfl, rfl⟩)
    | (go_at_call 9; refine (Parse_any _ _ HA.out.names).mono ?_; rintro e w' ⟨rfl, rfl⟩)
    | (go_at_call 16; refine (Members_form 8 3 (by decide) _ HA.out.names HA.out.mem).mono ?_; rintro e w' ⟨a, cc, rfl, ho, hb⟩; have HO := Lib.hid ho; clear ho; have HA2 := Lib.hid (HA.out.below hb); have HB2 := Lib.hid (HB.out.trans (hb.mono HB.out.size)); clear hb HA HB; have HA := HA2; have HB := HB2; clear HA2 HB2)
    | (go_at_call 47; refine (IsSorted_owned _ _ _ _ HO.out (by decide) (sorted_ref 8)).mono ?_; rintro e w' ⟨rfl, q, hw⟩; have HO2 := Lib.hid (show Owned w' _ _ _ by rw [hw]; exact HO.out.drew q); clear HO; have HO := HO2; clear HO2; have HA2 := Lib.hid (show SetsAt w' by rw [hw]; exact HA.out.drew q); have HB2 := Lib.hid (show Below w.heap.size w w' by rw [hw]; exact below_drewN HB.out q); clear hw HA HB; have HA := HA2; have HB := HB2; clear HA2 HB2)
    | (go_at_call 49; refine (Clone_owned _ _ _ _ HO.out (by decide) (by decide)).mono ?_; rintro e w' ⟨v', rfl, ho, hb⟩; have HV := Lib.hid ho; have HC := Lib.hid hb; clear ho hb)
    | (go_at_call 48; refine (Compact_form 3 _ _ _ _ HV.out (by decide) (by decide +kernel) (by decide)).mono ?_; rintro e w' ⟨a2, c2, rfl, hb2⟩; have hb := HC.out.trans hb2; have HO2 := Lib.hid (HO.out.below hb); clear hb2 HC HV HO; have HO := HO2; clear HO2; have HA2 := Lib.hid (HA.out.below hb); have HB2 := Lib.hid (HB.out.trans (hb.mono HB.out.size)); clear hb HA HB; have HA := HA2; have HB := HB2; clear HA2 HB2))
  have hf : inB 8 1 = true ∧ inB 8 2 = false ∧ inB 8 3 = false ∧ inB 8 4 = true ∧ inB 8 5 = false ∧ inB 8 6 = true ∧ sendB 1 = true ∧ sendB 2 = false ∧ sendB 3 = false ∧ sendB 4 = true ∧ sendB 5 = false ∧ sendB 6 = true := by decide
  obtain ⟨f0, f1, f2, f3, f4, f5, f6, f7, f8, f9, f10, f11⟩ := hf
  go_loop [8] (fun i => ∃ x : Int, (x = 1 ∨ x = 2 ∨ x = 3 ∨ x = 4 ∨ x = 5 ∨ x = 6 ∨ x = 7) ∧ i = .int .i64 x) (fun i => 8 - (intOf i).toNat)
  case atStart => exact ⟨1, by omega, rfl⟩
  case round =>
    obtain ⟨x, hx, rfl⟩ := hrel
    rcases hx with rfl | rfl | rfl | rfl | rfl | rfl | rfl
    · go_wp2_with (first
        | (go_at_call 50; refine (Contains_is 8 _ _ _ _ HO.out).mono ?_; rintro e w' ⟨rfl, rfl⟩)
        | (go_at_call 18; refine (Reads_any _ _).mono ?_; rintro e w' ⟨rfl, rfl⟩)
        | (go_at_call 22; refine (Sendable_any _ _).mono ?_; rintro e w' ⟨rfl, rfl⟩)
        | (go_at_call 43; refine (Global_any _ _ _ HA.out.els).mono ?_; rintro e w' ⟨rfl, rfl⟩)
        | (go_at_call 34; refine (awake_any _ HA.out.fit HA.out.mark HA.out.view).mono ?_; rintro e w' ⟨rfl, q, hw⟩; have HA2 := Lib.hid (show SetsAt w' by rw [hw]; exact HA.out.drew q); have HB2 := Lib.hid (show Below w.heap.size w w' by rw [hw]; exact below_drewN HB.out q); clear hw HA HB; have HA := HA2; have HB := HB2; clear HA2 HB2))
      go_round
      case rel => exact ⟨2, by omega, rfl⟩
      case measure => simp [intOf]
    · go_wp2_with (first
        | (go_at_call 50; refine (Contains_is 8 _ _ _ _ HO.out).mono ?_; rintro e w' ⟨rfl, rfl⟩)
        | (go_at_call 18; refine (Reads_any _ _).mono ?_; rintro e w' ⟨rfl, rfl⟩)
        | (go_at_call 22; refine (Sendable_any _ _).mono ?_; rintro e w' ⟨rfl, rfl⟩)
        | (go_at_call 43; refine (Global_any _ _ _ HA.out.els).mono ?_; rintro e w' ⟨rfl, rfl⟩)
        | (go_at_call 34; refine (awake_any _ HA.out.fit HA.out.mark HA.out.view).mono ?_; rintro e w' ⟨rfl, q, hw⟩; have HA2 := Lib.hid (show SetsAt w' by rw [hw]; exact HA.out.drew q); have HB2 := Lib.hid (show Below w.heap.size w w' by rw [hw]; exact below_drewN HB.out q); clear hw HA HB; have HA := HA2; have HB := HB2; clear HA2 HB2))
      go_round
      case rel => exact ⟨3, by omega, rfl⟩
      case measure => simp [intOf]
    · go_wp2_with (first
        | (go_at_call 50; refine (Contains_is 8 _ _ _ _ HO.out).mono ?_; rintro e w' ⟨rfl, rfl⟩)
        | (go_at_call 18; refine (Reads_any _ _).mono ?_; rintro e w' ⟨rfl, rfl⟩)
        | (go_at_call 22; refine (Sendable_any _ _).mono ?_; rintro e w' ⟨rfl, rfl⟩)
        | (go_at_call 43; refine (Global_any _ _ _ HA.out.els).mono ?_; rintro e w' ⟨rfl, rfl⟩)
        | (go_at_call 34; refine (awake_any _ HA.out.fit HA.out.mark HA.out.view).mono ?_; rintro e w' ⟨rfl, q, hw⟩; have HA2 := Lib.hid (show SetsAt w' by rw [hw]; exact HA.out.drew q); have HB2 := Lib.hid (show Below w.heap.size w w' by rw [hw]; exact below_drewN HB.out q); clear hw HA HB; have HA := HA2; have HB := HB2; clear HA2 HB2))
      go_round
      case rel => exact ⟨4, by omega, rfl⟩
      case measure => simp [intOf]
    · go_wp2_with (first
        | (go_at_call 50; refine (Contains_is 8 _ _ _ _ HO.out).mono ?_; rintro e w' ⟨rfl, rfl⟩)
        | (go_at_call 18; refine (Reads_any _ _).mono ?_; rintro e w' ⟨rfl, rfl⟩)
        | (go_at_call 22; refine (Sendable_any _ _).mono ?_; rintro e w' ⟨rfl, rfl⟩)
        | (go_at_call 43; refine (Global_any _ _ _ HA.out.els).mono ?_; rintro e w' ⟨rfl, rfl⟩)
        | (go_at_call 34; refine (awake_any _ HA.out.fit HA.out.mark HA.out.view).mono ?_; rintro e w' ⟨rfl, q, hw⟩; have HA2 := Lib.hid (show SetsAt w' by rw [hw]; exact HA.out.drew q); have HB2 := Lib.hid (show Below w.heap.size w w' by rw [hw]; exact below_drewN HB.out q); clear hw HA HB; have HA := HA2; have HB := HB2; clear HA2 HB2))
      go_round
      case rel => exact ⟨5, by omega, rfl⟩
      case measure => simp [intOf]
    · go_wp2_with (first
        | (go_at_call 50; refine (Contains_is 8 _ _ _ _ HO.out).mono ?_; rintro e w' ⟨rfl, rfl⟩)
        | (go_at_call 18; refine (Reads_any _ _).mono ?_; rintro e w' ⟨rfl, rfl⟩)
        | (go_at_call 22; refine (Sendable_any _ _).mono ?_; rintro e w' ⟨rfl, rfl⟩)
        | (go_at_call 43; refine (Global_any _ _ _ HA.out.els).mono ?_; rintro e w' ⟨rfl, rfl⟩)
        | (go_at_call 34; refine (awake_any _ HA.out.fit HA.out.mark HA.out.view).mono ?_; rintro e w' ⟨rfl, q, hw⟩; have HA2 := Lib.hid (show SetsAt w' by rw [hw]; exact HA.out.drew q); have HB2 := Lib.hid (show Below w.heap.size w w' by rw [hw]; exact below_drewN HB.out q); clear hw HA HB; have HA := HA2; have HB := HB2; clear HA2 HB2))
      go_round
      case rel => exact ⟨6, by omega, rfl⟩
      case measure => simp [intOf]
    · go_wp2_with (first
        | (go_at_call 50; refine (Contains_is 8 _ _ _ _ HO.out).mono ?_; rintro e w' ⟨rfl, rfl⟩)
        | (go_at_call 18; refine (Reads_any _ _).mono ?_; rintro e w' ⟨rfl, rfl⟩)
        | (go_at_call 22; refine (Sendable_any _ _).mono ?_; rintro e w' ⟨rfl, rfl⟩)
        | (go_at_call 43; refine (Global_any _ _ _ HA.out.els).mono ?_; rintro e w' ⟨rfl, rfl⟩)
        | (go_at_call 34; refine (awake_any _ HA.out.fit HA.out.mark HA.out.view).mono ?_; rintro e w' ⟨rfl, q, hw⟩; have HA2 := Lib.hid (show SetsAt w' by rw [hw]; exact HA.out.drew q); have HB2 := Lib.hid (show Below w.heap.size w w' by rw [hw]; exact below_drewN HB.out q); clear hw HA HB; have HA := HA2; have HB := HB2; clear HA2 HB2))
      go_round
      case rel => exact ⟨7, by omega, rfl⟩
      case measure => simp [intOf]
    · go_wp2_with (first
        | (go_at_call 50; refine (Contains_is 8 _ _ _ _ HO.out).mono ?_; rintro e w' ⟨rfl, rfl⟩)
        | (go_at_call 18; refine (Reads_any _ _).mono ?_; rintro e w' ⟨rfl, rfl⟩)
        | (go_at_call 22; refine (Sendable_any _ _).mono ?_; rintro e w' ⟨rfl, rfl⟩)
        | (go_at_call 43; refine (Global_any _ _ _ HA.out.els).mono ?_; rintro e w' ⟨rfl, rfl⟩)
        | (go_at_call 34; refine (awake_any _ HA.out.fit HA.out.mark HA.out.view).mono ?_; rintro e w' ⟨rfl, q, hw⟩; have HA2 := Lib.hid (show SetsAt w' by rw [hw]; exact HA.out.drew q); have HB2 := Lib.hid (show Below w.heap.size w w' by rw [hw]; exact below_drewN HB.out q); clear hw HA HB; have HA := HA2; have HB := HB2; clear HA2 HB2))
      go_ret
      exact ⟨rfl, HB.out⟩

set_option maxHeartbeats 8000000 in
set_option maxRecDepth 100000 in
theorem sets_9 (n : Int) (w : World) (hn0 : 0 ≤ n) (hn1 : n ≤ 255) (hn : n % 11 = 8) (hA : SetsAt w) :
    Calls Tryd.prog 8 #[.int .u8 n] w fun e w' => e = .returned (.bool true) ∧ Below w.heap.size w w' := by
  have HA := Lib.hid hA
  have HB := Lib.hid (Below.refl w.heap.size w)
  clear hA
  have p1 : parseI (nameS 9) = 9 := by kernel_rfl
  have p2 : parseE (nameS 9) = 0 := by kernel_rfl
  have p3 : (nameS 9).toList.isEmpty = false := by kernel_rfl
  go_enter Tryd.func8, Tryd.ntmps8
  go_wp2_with (first
    | (go_at_call 11; refine (Name_any _ _ HA.out.names).mono ?_; rintro e w' ⟨rfl, rfl⟩)
    | (go_at_call 9; refine (Parse_any _ _ HA.out.names).mono ?_; rintro e w' ⟨rfl, rfl⟩)
    | (go_at_call 16; refine (Members_form 9 2 (by decide) _ HA.out.names HA.out.mem).mono ?_; rintro e w' ⟨a, cc, rfl, ho, hb⟩; have HO := Lib.hid ho; clear ho; have HA2 := Lib.hid (HA.out.below hb); have HB2 := Lib.hid (HB.out.trans (hb.mono HB.out.size)); clear hb HA HB; have HA := HA2; have HB := HB2; clear HA2 HB2)
    | (go_at_call 47; refine (IsSorted_owned _ _ _ _ HO.out (by decide) (sorted_ref 9)).mono ?_; rintro e w' ⟨rfl, q, hw⟩; have HO2 := Lib.hid (show Owned w' _ _ _ by rw [hw]; exact HO.out.drew q); clear HO; have HO := HO2; clear HO2; have HA2 := Lib.hid (show SetsAt w' by rw [hw]; exact HA.out.drew q); have HB2 := Lib.hid (show Below w.heap.size w w' by rw [hw]; exact below_drewN HB.out q); clear hw HA HB; have HA := HA2; have HB := HB2; clear HA2 HB2)
    | (go_at_call 49; refine (Clone_owned _ _ _ _ HO.out (by decide) (by decide)).mono ?_; rintro e w' ⟨v', rfl, ho, hb⟩; have HV := Lib.hid ho; have HC := Lib.hid hb; clear ho hb)
    | (go_at_call 48; refine (Compact_form 2 _ _ _ _ HV.out (by decide) (by decide +kernel) (by decide)).mono ?_; rintro e w' ⟨a2, c2, rfl, hb2⟩; have hb := HC.out.trans hb2; have HO2 := Lib.hid (HO.out.below hb); clear hb2 HC HV HO; have HO := HO2; clear HO2; have HA2 := Lib.hid (HA.out.below hb); have HB2 := Lib.hid (HB.out.trans (hb.mono HB.out.size)); clear hb HA HB; have HA := HA2; have HB := HB2; clear HA2 HB2))
  have hf : inB 9 1 = false ∧ inB 9 2 = false ∧ inB 9 3 = false ∧ inB 9 4 = true ∧ inB 9 5 = false ∧ inB 9 6 = true ∧ sendB 1 = true ∧ sendB 2 = false ∧ sendB 3 = false ∧ sendB 4 = true ∧ sendB 5 = false ∧ sendB 6 = true ∧ globalB 1 1 = false ∧ globalB 2 2 = false ∧ globalB 3 3 = false ∧ globalB 4 4 = true ∧ globalB 5 5 = true ∧ globalB 6 6 = true := by decide
  obtain ⟨f0, f1, f2, f3, f4, f5, f6, f7, f8, f9, f10, f11, f12, f13, f14, f15, f16, f17⟩ := hf
  go_loop [8] (fun i => ∃ x : Int, (x = 1 ∨ x = 2 ∨ x = 3 ∨ x = 4 ∨ x = 5 ∨ x = 6 ∨ x = 7) ∧ i = .int .i64 x) (fun i => 8 - (intOf i).toNat)
  case atStart => exact ⟨1, by omega, rfl⟩
  case round =>
    obtain ⟨x, hx, rfl⟩ := hrel
    rcases hx with rfl | rfl | rfl | rfl | rfl | rfl | rfl
    · go_wp2_with (first
        | (go_at_call 50; refine (Contains_is 9 _ _ _ _ HO.out).mono ?_; rintro e w' ⟨rfl, rfl⟩)
        | (go_at_call 18; refine (Reads_any _ _).mono ?_; rintro e w' ⟨rfl, rfl⟩)
        | (go_at_call 22; refine (Sendable_any _ _).mono ?_; rintro e w' ⟨rfl, rfl⟩)
        | (go_at_call 43; refine (Global_any _ _ _ HA.out.els).mono ?_; rintro e w' ⟨rfl, rfl⟩)
        | (go_at_call 34; refine (awake_any _ HA.out.fit HA.out.mark HA.out.view).mono ?_; rintro e w' ⟨rfl, q, hw⟩; have HA2 := Lib.hid (show SetsAt w' by rw [hw]; exact HA.out.drew q); have HB2 := Lib.hid (show Below w.heap.size w w' by rw [hw]; exact below_drewN HB.out q); clear hw HA HB; have HA := HA2; have HB := HB2; clear HA2 HB2))
      go_round
      case rel => exact ⟨2, by omega, rfl⟩
      case measure => simp [intOf]
    · go_wp2_with (first
        | (go_at_call 50; refine (Contains_is 9 _ _ _ _ HO.out).mono ?_; rintro e w' ⟨rfl, rfl⟩)
        | (go_at_call 18; refine (Reads_any _ _).mono ?_; rintro e w' ⟨rfl, rfl⟩)
        | (go_at_call 22; refine (Sendable_any _ _).mono ?_; rintro e w' ⟨rfl, rfl⟩)
        | (go_at_call 43; refine (Global_any _ _ _ HA.out.els).mono ?_; rintro e w' ⟨rfl, rfl⟩)
        | (go_at_call 34; refine (awake_any _ HA.out.fit HA.out.mark HA.out.view).mono ?_; rintro e w' ⟨rfl, q, hw⟩; have HA2 := Lib.hid (show SetsAt w' by rw [hw]; exact HA.out.drew q); have HB2 := Lib.hid (show Below w.heap.size w w' by rw [hw]; exact below_drewN HB.out q); clear hw HA HB; have HA := HA2; have HB := HB2; clear HA2 HB2))
      go_round
      case rel => exact ⟨3, by omega, rfl⟩
      case measure => simp [intOf]
    · go_wp2_with (first
        | (go_at_call 50; refine (Contains_is 9 _ _ _ _ HO.out).mono ?_; rintro e w' ⟨rfl, rfl⟩)
        | (go_at_call 18; refine (Reads_any _ _).mono ?_; rintro e w' ⟨rfl, rfl⟩)
        | (go_at_call 22; refine (Sendable_any _ _).mono ?_; rintro e w' ⟨rfl, rfl⟩)
        | (go_at_call 43; refine (Global_any _ _ _ HA.out.els).mono ?_; rintro e w' ⟨rfl, rfl⟩)
        | (go_at_call 34; refine (awake_any _ HA.out.fit HA.out.mark HA.out.view).mono ?_; rintro e w' ⟨rfl, q, hw⟩; have HA2 := Lib.hid (show SetsAt w' by rw [hw]; exact HA.out.drew q); have HB2 := Lib.hid (show Below w.heap.size w w' by rw [hw]; exact below_drewN HB.out q); clear hw HA HB; have HA := HA2; have HB := HB2; clear HA2 HB2))
      go_round
      case rel => exact ⟨4, by omega, rfl⟩
      case measure => simp [intOf]
    · go_wp2_with (first
        | (go_at_call 50; refine (Contains_is 9 _ _ _ _ HO.out).mono ?_; rintro e w' ⟨rfl, rfl⟩)
        | (go_at_call 18; refine (Reads_any _ _).mono ?_; rintro e w' ⟨rfl, rfl⟩)
        | (go_at_call 22; refine (Sendable_any _ _).mono ?_; rintro e w' ⟨rfl, rfl⟩)
        | (go_at_call 43; refine (Global_any _ _ _ HA.out.els).mono ?_; rintro e w' ⟨rfl, rfl⟩)
        | (go_at_call 34; refine (awake_any _ HA.out.fit HA.out.mark HA.out.view).mono ?_; rintro e w' ⟨rfl, q, hw⟩; have HA2 := Lib.hid (show SetsAt w' by rw [hw]; exact HA.out.drew q); have HB2 := Lib.hid (show Below w.heap.size w w' by rw [hw]; exact below_drewN HB.out q); clear hw HA HB; have HA := HA2; have HB := HB2; clear HA2 HB2))
      go_round
      case rel => exact ⟨5, by omega, rfl⟩
      case measure => simp [intOf]
    · go_wp2_with (first
        | (go_at_call 50; refine (Contains_is 9 _ _ _ _ HO.out).mono ?_; rintro e w' ⟨rfl, rfl⟩)
        | (go_at_call 18; refine (Reads_any _ _).mono ?_; rintro e w' ⟨rfl, rfl⟩)
        | (go_at_call 22; refine (Sendable_any _ _).mono ?_; rintro e w' ⟨rfl, rfl⟩)
        | (go_at_call 43; refine (Global_any _ _ _ HA.out.els).mono ?_; rintro e w' ⟨rfl, rfl⟩)
        | (go_at_call 34; refine (awake_any _ HA.out.fit HA.out.mark HA.out.view).mono ?_; rintro e w' ⟨rfl, q, hw⟩; have HA2 := Lib.hid (show SetsAt w' by rw [hw]; exact HA.out.drew q); have HB2 := Lib.hid (show Below w.heap.size w w' by rw [hw]; exact below_drewN HB.out q); clear hw HA HB; have HA := HA2; have HB := HB2; clear HA2 HB2))
      go_round
      case rel => exact ⟨6, by omega, rfl⟩
      case measure => simp [intOf]
    · go_wp2_with (first
        | (go_at_call 50; refine (Contains_is 9 _ _ _ _ HO.out).mono ?_; rintro e w' ⟨rfl, rfl⟩)
        | (go_at_call 18; refine (Reads_any _ _).mono ?_; rintro e w' ⟨rfl, rfl⟩)
        | (go_at_call 22; refine (Sendable_any _ _).mono ?_; rintro e w' ⟨rfl, rfl⟩)
        | (go_at_call 43; refine (Global_any _ _ _ HA.out.els).mono ?_; rintro e w' ⟨rfl, rfl⟩)
        | (go_at_call 34; refine (awake_any _ HA.out.fit HA.out.mark HA.out.view).mono ?_; rintro e w' ⟨rfl, q, hw⟩; have HA2 := Lib.hid (show SetsAt w' by rw [hw]; exact HA.out.drew q); have HB2 := Lib.hid (show Below w.heap.size w w' by rw [hw]; exact below_drewN HB.out q); clear hw HA HB; have HA := HA2; have HB := HB2; clear HA2 HB2))
      go_round
      case rel => exact ⟨7, by omega, rfl⟩
      case measure => simp [intOf]
    · go_wp2_with (first
        | (go_at_call 50; refine (Contains_is 9 _ _ _ _ HO.out).mono ?_; rintro e w' ⟨rfl, rfl⟩)
        | (go_at_call 18; refine (Reads_any _ _).mono ?_; rintro e w' ⟨rfl, rfl⟩)
        | (go_at_call 22; refine (Sendable_any _ _).mono ?_; rintro e w' ⟨rfl, rfl⟩)
        | (go_at_call 43; refine (Global_any _ _ _ HA.out.els).mono ?_; rintro e w' ⟨rfl, rfl⟩)
        | (go_at_call 34; refine (awake_any _ HA.out.fit HA.out.mark HA.out.view).mono ?_; rintro e w' ⟨rfl, q, hw⟩; have HA2 := Lib.hid (show SetsAt w' by rw [hw]; exact HA.out.drew q); have HB2 := Lib.hid (show Below w.heap.size w w' by rw [hw]; exact below_drewN HB.out q); clear hw HA HB; have HA := HA2; have HB := HB2; clear HA2 HB2))
      go_ret
      exact ⟨rfl, HB.out⟩

set_option maxHeartbeats 8000000 in
set_option maxRecDepth 100000 in
theorem sets_10 (n : Int) (w : World) (hn0 : 0 ≤ n) (hn1 : n ≤ 255) (hn : n % 11 = 9) (hA : SetsAt w) :
    Calls Tryd.prog 8 #[.int .u8 n] w fun e w' => e = .returned (.bool true) ∧ Below w.heap.size w w' := by
  have HA := Lib.hid hA
  have HB := Lib.hid (Below.refl w.heap.size w)
  clear hA
  have p1 : parseI (nameS 10) = 10 := by kernel_rfl
  have p2 : parseE (nameS 10) = 0 := by kernel_rfl
  have p3 : (nameS 10).toList.isEmpty = false := by kernel_rfl
  go_enter Tryd.func8, Tryd.ntmps8
  go_wp2_with (first
    | (go_at_call 11; refine (Name_any _ _ HA.out.names).mono ?_; rintro e w' ⟨rfl, rfl⟩)
    | (go_at_call 9; refine (Parse_any _ _ HA.out.names).mono ?_; rintro e w' ⟨rfl, rfl⟩)
    | (go_at_call 16; refine (Members_form 10 4 (by decide) _ HA.out.names HA.out.mem).mono ?_; rintro e w' ⟨a, cc, rfl, ho, hb⟩; have HO := Lib.hid ho; clear ho; have HA2 := Lib.hid (HA.out.below hb); have HB2 := Lib.hid (HB.out.trans (hb.mono HB.out.size)); clear hb HA HB; have HA := HA2; have HB := HB2; clear HA2 HB2)
    | (go_at_call 47; refine (IsSorted_owned _ _ _ _ HO.out (by decide) (sorted_ref 10)).mono ?_; rintro e w' ⟨rfl, q, hw⟩; have HO2 := Lib.hid (show Owned w' _ _ _ by rw [hw]; exact HO.out.drew q); clear HO; have HO := HO2; clear HO2; have HA2 := Lib.hid (show SetsAt w' by rw [hw]; exact HA.out.drew q); have HB2 := Lib.hid (show Below w.heap.size w w' by rw [hw]; exact below_drewN HB.out q); clear hw HA HB; have HA := HA2; have HB := HB2; clear HA2 HB2)
    | (go_at_call 49; refine (Clone_owned _ _ _ _ HO.out (by decide) (by decide)).mono ?_; rintro e w' ⟨v', rfl, ho, hb⟩; have HV := Lib.hid ho; have HC := Lib.hid hb; clear ho hb)
    | (go_at_call 48; refine (Compact_form 4 _ _ _ _ HV.out (by decide) (by decide +kernel) (by decide)).mono ?_; rintro e w' ⟨a2, c2, rfl, hb2⟩; have hb := HC.out.trans hb2; have HO2 := Lib.hid (HO.out.below hb); clear hb2 HC HV HO; have HO := HO2; clear HO2; have HA2 := Lib.hid (HA.out.below hb); have HB2 := Lib.hid (HB.out.trans (hb.mono HB.out.size)); clear hb HA HB; have HA := HA2; have HB := HB2; clear HA2 HB2))
  have hf : inB 10 1 = false ∧ inB 10 2 = false ∧ inB 10 3 = true ∧ inB 10 4 = true ∧ inB 10 5 = true ∧ inB 10 6 = true := by decide
  obtain ⟨f0, f1, f2, f3, f4, f5⟩ := hf
  go_loop [8] (fun i => ∃ x : Int, (x = 1 ∨ x = 2 ∨ x = 3 ∨ x = 4 ∨ x = 5 ∨ x = 6 ∨ x = 7) ∧ i = .int .i64 x) (fun i => 8 - (intOf i).toNat)
  case atStart => exact ⟨1, by omega, rfl⟩
  case round =>
    obtain ⟨x, hx, rfl⟩ := hrel
    rcases hx with rfl | rfl | rfl | rfl | rfl | rfl | rfl
    · go_wp2_with (first
        | (go_at_call 50; refine (Contains_is 10 _ _ _ _ HO.out).mono ?_; rintro e w' ⟨rfl, rfl⟩)
        | (go_at_call 18; refine (Reads_any _ _).mono ?_; rintro e w' ⟨rfl, rfl⟩)
        | (go_at_call 22; refine (Sendable_any _ _).mono ?_; rintro e w' ⟨rfl, rfl⟩)
        | (go_at_call 43; refine (Global_any _ _ _ HA.out.els).mono ?_; rintro e w' ⟨rfl, rfl⟩)
        | (go_at_call 34; refine (awake_any _ HA.out.fit HA.out.mark HA.out.view).mono ?_; rintro e w' ⟨rfl, q, hw⟩; have HA2 := Lib.hid (show SetsAt w' by rw [hw]; exact HA.out.drew q); have HB2 := Lib.hid (show Below w.heap.size w w' by rw [hw]; exact below_drewN HB.out q); clear hw HA HB; have HA := HA2; have HB := HB2; clear HA2 HB2))
      go_round
      case rel => exact ⟨2, by omega, rfl⟩
      case measure => simp [intOf]
    · go_wp2_with (first
        | (go_at_call 50; refine (Contains_is 10 _ _ _ _ HO.out).mono ?_; rintro e w' ⟨rfl, rfl⟩)
        | (go_at_call 18; refine (Reads_any _ _).mono ?_; rintro e w' ⟨rfl, rfl⟩)
        | (go_at_call 22; refine (Sendable_any _ _).mono ?_; rintro e w' ⟨rfl, rfl⟩)
        | (go_at_call 43; refine (Global_any _ _ _ HA.out.els).mono ?_; rintro e w' ⟨rfl, rfl⟩)
        | (go_at_call 34; refine (awake_any _ HA.out.fit HA.out.mark HA.out.view).mono ?_; rintro e w' ⟨rfl, q, hw⟩; have HA2 := Lib.hid (show SetsAt w' by rw [hw]; exact HA.out.drew q); have HB2 := Lib.hid (show Below w.heap.size w w' by rw [hw]; exact below_drewN HB.out q); clear hw HA HB; have HA := HA2; have HB := HB2; clear HA2 HB2))
      go_round
      case rel => exact ⟨3, by omega, rfl⟩
      case measure => simp [intOf]
    · go_wp2_with (first
        | (go_at_call 50; refine (Contains_is 10 _ _ _ _ HO.out).mono ?_; rintro e w' ⟨rfl, rfl⟩)
        | (go_at_call 18; refine (Reads_any _ _).mono ?_; rintro e w' ⟨rfl, rfl⟩)
        | (go_at_call 22; refine (Sendable_any _ _).mono ?_; rintro e w' ⟨rfl, rfl⟩)
        | (go_at_call 43; refine (Global_any _ _ _ HA.out.els).mono ?_; rintro e w' ⟨rfl, rfl⟩)
        | (go_at_call 34; refine (awake_any _ HA.out.fit HA.out.mark HA.out.view).mono ?_; rintro e w' ⟨rfl, q, hw⟩; have HA2 := Lib.hid (show SetsAt w' by rw [hw]; exact HA.out.drew q); have HB2 := Lib.hid (show Below w.heap.size w w' by rw [hw]; exact below_drewN HB.out q); clear hw HA HB; have HA := HA2; have HB := HB2; clear HA2 HB2))
      go_round
      case rel => exact ⟨4, by omega, rfl⟩
      case measure => simp [intOf]
    · go_wp2_with (first
        | (go_at_call 50; refine (Contains_is 10 _ _ _ _ HO.out).mono ?_; rintro e w' ⟨rfl, rfl⟩)
        | (go_at_call 18; refine (Reads_any _ _).mono ?_; rintro e w' ⟨rfl, rfl⟩)
        | (go_at_call 22; refine (Sendable_any _ _).mono ?_; rintro e w' ⟨rfl, rfl⟩)
        | (go_at_call 43; refine (Global_any _ _ _ HA.out.els).mono ?_; rintro e w' ⟨rfl, rfl⟩)
        | (go_at_call 34; refine (awake_any _ HA.out.fit HA.out.mark HA.out.view).mono ?_; rintro e w' ⟨rfl, q, hw⟩; have HA2 := Lib.hid (show SetsAt w' by rw [hw]; exact HA.out.drew q); have HB2 := Lib.hid (show Below w.heap.size w w' by rw [hw]; exact below_drewN HB.out q); clear hw HA HB; have HA := HA2; have HB := HB2; clear HA2 HB2))
      go_round
      case rel => exact ⟨5, by omega, rfl⟩
      case measure => simp [intOf]
    · go_wp2_with (first
        | (go_at_call 50; refine (Contains_is 10 _ _ _ _ HO.out).mono ?_; rintro e w' ⟨rfl, rfl⟩)
        | (go_at_call 18; refine (Reads_any _ _).mono ?_; rintro e w' ⟨rfl, rfl⟩)
        | (go_at_call 22; refine (Sendable_any _ _).mono ?_; rintro e w' ⟨rfl, rfl⟩)
        | (go_at_call 43; refine (Global_any _ _ _ HA.out.els).mono ?_; rintro e w' ⟨rfl, rfl⟩)
        | (go_at_call 34; refine (awake_any _ HA.out.fit HA.out.mark HA.out.view).mono ?_; rintro e w' ⟨rfl, q, hw⟩; have HA2 := Lib.hid (show SetsAt w' by rw [hw]; exact HA.out.drew q); have HB2 := Lib.hid (show Below w.heap.size w w' by rw [hw]; exact below_drewN HB.out q); clear hw HA HB; have HA := HA2; have HB := HB2; clear HA2 HB2))
      go_round
      case rel => exact ⟨6, by omega, rfl⟩
      case measure => simp [intOf]
    · go_wp2_with (first
        | (go_at_call 50; refine (Contains_is 10 _ _ _ _ HO.out).mono ?_; rintro e w' ⟨rfl, rfl⟩)
        | (go_at_call 18; refine (Reads_any _ _).mono ?_; rintro e w' ⟨rfl, rfl⟩)
        | (go_at_call 22; refine (Sendable_any _ _).mono ?_; rintro e w' ⟨rfl, rfl⟩)
        | (go_at_call 43; refine (Global_any _ _ _ HA.out.els).mono ?_; rintro e w' ⟨rfl, rfl⟩)
        | (go_at_call 34; refine (awake_any _ HA.out.fit HA.out.mark HA.out.view).mono ?_; rintro e w' ⟨rfl, q, hw⟩; have HA2 := Lib.hid (show SetsAt w' by rw [hw]; exact HA.out.drew q); have HB2 := Lib.hid (show Below w.heap.size w w' by rw [hw]; exact below_drewN HB.out q); clear hw HA HB; have HA := HA2; have HB := HB2; clear HA2 HB2))
      go_round
      case rel => exact ⟨7, by omega, rfl⟩
      case measure => simp [intOf]
    · go_wp2_with (first
        | (go_at_call 50; refine (Contains_is 10 _ _ _ _ HO.out).mono ?_; rintro e w' ⟨rfl, rfl⟩)
        | (go_at_call 18; refine (Reads_any _ _).mono ?_; rintro e w' ⟨rfl, rfl⟩)
        | (go_at_call 22; refine (Sendable_any _ _).mono ?_; rintro e w' ⟨rfl, rfl⟩)
        | (go_at_call 43; refine (Global_any _ _ _ HA.out.els).mono ?_; rintro e w' ⟨rfl, rfl⟩)
        | (go_at_call 34; refine (awake_any _ HA.out.fit HA.out.mark HA.out.view).mono ?_; rintro e w' ⟨rfl, q, hw⟩; have HA2 := Lib.hid (show SetsAt w' by rw [hw]; exact HA.out.drew q); have HB2 := Lib.hid (show Below w.heap.size w w' by rw [hw]; exact below_drewN HB.out q); clear hw HA HB; have HA := HA2; have HB := HB2; clear HA2 HB2))
      go_ret
      exact ⟨rfl, HB.out⟩

set_option maxHeartbeats 8000000 in
set_option maxRecDepth 100000 in
theorem sets_11 (n : Int) (w : World) (hn0 : 0 ≤ n) (hn1 : n ≤ 255) (hn : n % 11 = 10) (hA : SetsAt w) :
    Calls Tryd.prog 8 #[.int .u8 n] w fun e w' => e = .returned (.bool true) ∧ Below w.heap.size w w' := by
  have HA := Lib.hid hA
  have HB := Lib.hid (Below.refl w.heap.size w)
  clear hA
  have p1 : parseI (nameS 11) = 11 := by kernel_rfl
  have p2 : parseE (nameS 11) = 0 := by kernel_rfl
  have p3 : (nameS 11).toList.isEmpty = false := by kernel_rfl
  go_enter Tryd.func8, Tryd.ntmps8
  go_wp2_with (first
    | (go_at_call 11; refine (Name_any _ _ HA.out.names).mono ?_; rintro e w' ⟨rfl, rfl⟩)
    | (go_at_call 9; refine (Parse_any _ _ HA.out.names).mono ?_; rintro e w' ⟨rfl, rfl⟩)
    | (go_at_call 16; refine (Members_form 11 6 (by decide) _ HA.out.names HA.out.mem).mono ?_; rintro e w' ⟨a, cc, rfl, ho, hb⟩; have HO := Lib.hid ho; clear ho; have HA2 := Lib.hid (HA.out.below hb); have HB2 := Lib.hid (HB.out.trans (hb.mono HB.out.size)); clear hb HA HB; have HA := HA2; have HB := HB2; clear HA2 HB2)
    | (go_at_call 47; refine (IsSorted_owned _ _ _ _ HO.out (by decide) (sorted_ref 11)).mono ?_; rintro e w' ⟨rfl, q, hw⟩; have HO2 := Lib.hid (show Owned w' _ _ _ by rw [hw]; exact HO.out.drew q); clear HO; have HO := HO2; clear HO2; have HA2 := Lib.hid (show SetsAt w' by rw [hw]; exact HA.out.drew q); have HB2 := Lib.hid (show Below w.heap.size w w' by rw [hw]; exact below_drewN HB.out q); clear hw HA HB; have HA := HA2; have HB := HB2; clear HA2 HB2)
    | (go_at_call 49; refine (Clone_owned _ _ _ _ HO.out (by decide) (by decide)).mono ?_; rintro e w' ⟨v', rfl, ho, hb⟩; have HV := Lib.hid ho; have HC := Lib.hid hb; clear ho hb)
    | (go_at_call 48; refine (Compact_form 6 _ _ _ _ HV.out (by decide) (by decide +kernel) (by decide)).mono ?_; rintro e w' ⟨a2, c2, rfl, hb2⟩; have hb := HC.out.trans hb2; have HO2 := Lib.hid (HO.out.below hb); clear hb2 HC HV HO; have HO := HO2; clear HO2; have HA2 := Lib.hid (HA.out.below hb); have HB2 := Lib.hid (HB.out.trans (hb.mono HB.out.size)); clear hb HA HB; have HA := HA2; have HB := HB2; clear HA2 HB2))
  have hf : inB 11 1 = true ∧ inB 11 2 = true ∧ inB 11 3 = true ∧ inB 11 4 = true ∧ inB 11 5 = true ∧ inB 11 6 = true := by decide
  obtain ⟨f0, f1, f2, f3, f4, f5⟩ := hf
  go_loop [8] (fun i => ∃ x : Int, (x = 1 ∨ x = 2 ∨ x = 3 ∨ x = 4 ∨ x = 5 ∨ x = 6 ∨ x = 7) ∧ i = .int .i64 x) (fun i => 8 - (intOf i).toNat)
  case atStart => exact ⟨1, by omega, rfl⟩
  case round =>
    obtain ⟨x, hx, rfl⟩ := hrel
    rcases hx with rfl | rfl | rfl | rfl | rfl | rfl | rfl
    · go_wp2_with (first
        | (go_at_call 50; refine (Contains_is 11 _ _ _ _ HO.out).mono ?_; rintro e w' ⟨rfl, rfl⟩)
        | (go_at_call 18; refine (Reads_any _ _).mono ?_; rintro e w' ⟨rfl, rfl⟩)
        | (go_at_call 22; refine (Sendable_any _ _).mono ?_; rintro e w' ⟨rfl, rfl⟩)
        | (go_at_call 43; refine (Global_any _ _ _ HA.out.els).mono ?_; rintro e w' ⟨rfl, rfl⟩)
        | (go_at_call 34; refine (awake_any _ HA.out.fit HA.out.mark HA.out.view).mono ?_; rintro e w' ⟨rfl, q, hw⟩; have HA2 := Lib.hid (show SetsAt w' by rw [hw]; exact HA.out.drew q); have HB2 := Lib.hid (show Below w.heap.size w w' by rw [hw]; exact below_drewN HB.out q); clear hw HA HB; have HA := HA2; have HB := HB2; clear HA2 HB2))
      go_round
      case rel => exact ⟨2, by omega, rfl⟩
      case measure => simp [intOf]
    · go_wp2_with (first
        | (go_at_call 50; refine (Contains_is 11 _ _ _ _ HO.out).mono ?_; rintro e w' ⟨rfl, rfl⟩)
        | (go_at_call 18; refine (Reads_any _ _).mono ?_; rintro e w' ⟨rfl, rfl⟩)
        | (go_at_call 22; refine (Sendable_any _ _).mono ?_; rintro e w' ⟨rfl, rfl⟩)
        | (go_at_call 43; refine (Global_any _ _ _ HA.out.els).mono ?_; rintro e w' ⟨rfl, rfl⟩)
        | (go_at_call 34; refine (awake_any _ HA.out.fit HA.out.mark HA.out.view).mono ?_; rintro e w' ⟨rfl, q, hw⟩; have HA2 := Lib.hid (show SetsAt w' by rw [hw]; exact HA.out.drew q); have HB2 := Lib.hid (show Below w.heap.size w w' by rw [hw]; exact below_drewN HB.out q); clear hw HA HB; have HA := HA2; have HB := HB2; clear HA2 HB2))
      go_round
      case rel => exact ⟨3, by omega, rfl⟩
      case measure => simp [intOf]
    · go_wp2_with (first
        | (go_at_call 50; refine (Contains_is 11 _ _ _ _ HO.out).mono ?_; rintro e w' ⟨rfl, rfl⟩)
        | (go_at_call 18; refine (Reads_any _ _).mono ?_; rintro e w' ⟨rfl, rfl⟩)
        | (go_at_call 22; refine (Sendable_any _ _).mono ?_; rintro e w' ⟨rfl, rfl⟩)
        | (go_at_call 43; refine (Global_any _ _ _ HA.out.els).mono ?_; rintro e w' ⟨rfl, rfl⟩)
        | (go_at_call 34; refine (awake_any _ HA.out.fit HA.out.mark HA.out.view).mono ?_; rintro e w' ⟨rfl, q, hw⟩; have HA2 := Lib.hid (show SetsAt w' by rw [hw]; exact HA.out.drew q); have HB2 := Lib.hid (show Below w.heap.size w w' by rw [hw]; exact below_drewN HB.out q); clear hw HA HB; have HA := HA2; have HB := HB2; clear HA2 HB2))
      go_round
      case rel => exact ⟨4, by omega, rfl⟩
      case measure => simp [intOf]
    · go_wp2_with (first
        | (go_at_call 50; refine (Contains_is 11 _ _ _ _ HO.out).mono ?_; rintro e w' ⟨rfl, rfl⟩)
        | (go_at_call 18; refine (Reads_any _ _).mono ?_; rintro e w' ⟨rfl, rfl⟩)
        | (go_at_call 22; refine (Sendable_any _ _).mono ?_; rintro e w' ⟨rfl, rfl⟩)
        | (go_at_call 43; refine (Global_any _ _ _ HA.out.els).mono ?_; rintro e w' ⟨rfl, rfl⟩)
        | (go_at_call 34; refine (awake_any _ HA.out.fit HA.out.mark HA.out.view).mono ?_; rintro e w' ⟨rfl, q, hw⟩; have HA2 := Lib.hid (show SetsAt w' by rw [hw]; exact HA.out.drew q); have HB2 := Lib.hid (show Below w.heap.size w w' by rw [hw]; exact below_drewN HB.out q); clear hw HA HB; have HA := HA2; have HB := HB2; clear HA2 HB2))
      go_round
      case rel => exact ⟨5, by omega, rfl⟩
      case measure => simp [intOf]
    · go_wp2_with (first
        | (go_at_call 50; refine (Contains_is 11 _ _ _ _ HO.out).mono ?_; rintro e w' ⟨rfl, rfl⟩)
        | (go_at_call 18; refine (Reads_any _ _).mono ?_; rintro e w' ⟨rfl, rfl⟩)
        | (go_at_call 22; refine (Sendable_any _ _).mono ?_; rintro e w' ⟨rfl, rfl⟩)
        | (go_at_call 43; refine (Global_any _ _ _ HA.out.els).mono ?_; rintro e w' ⟨rfl, rfl⟩)
        | (go_at_call 34; refine (awake_any _ HA.out.fit HA.out.mark HA.out.view).mono ?_; rintro e w' ⟨rfl, q, hw⟩; have HA2 := Lib.hid (show SetsAt w' by rw [hw]; exact HA.out.drew q); have HB2 := Lib.hid (show Below w.heap.size w w' by rw [hw]; exact below_drewN HB.out q); clear hw HA HB; have HA := HA2; have HB := HB2; clear HA2 HB2))
      go_round
      case rel => exact ⟨6, by omega, rfl⟩
      case measure => simp [intOf]
    · go_wp2_with (first
        | (go_at_call 50; refine (Contains_is 11 _ _ _ _ HO.out).mono ?_; rintro e w' ⟨rfl, rfl⟩)
        | (go_at_call 18; refine (Reads_any _ _).mono ?_; rintro e w' ⟨rfl, rfl⟩)
        | (go_at_call 22; refine (Sendable_any _ _).mono ?_; rintro e w' ⟨rfl, rfl⟩)
        | (go_at_call 43; refine (Global_any _ _ _ HA.out.els).mono ?_; rintro e w' ⟨rfl, rfl⟩)
        | (go_at_call 34; refine (awake_any _ HA.out.fit HA.out.mark HA.out.view).mono ?_; rintro e w' ⟨rfl, q, hw⟩; have HA2 := Lib.hid (show SetsAt w' by rw [hw]; exact HA.out.drew q); have HB2 := Lib.hid (show Below w.heap.size w w' by rw [hw]; exact below_drewN HB.out q); clear hw HA HB; have HA := HA2; have HB := HB2; clear HA2 HB2))
      go_round
      case rel => exact ⟨7, by omega, rfl⟩
      case measure => simp [intOf]
    · go_wp2_with (first
        | (go_at_call 50; refine (Contains_is 11 _ _ _ _ HO.out).mono ?_; rintro e w' ⟨rfl, rfl⟩)
        | (go_at_call 18; refine (Reads_any _ _).mono ?_; rintro e w' ⟨rfl, rfl⟩)
        | (go_at_call 22; refine (Sendable_any _ _).mono ?_; rintro e w' ⟨rfl, rfl⟩)
        | (go_at_call 43; refine (Global_any _ _ _ HA.out.els).mono ?_; rintro e w' ⟨rfl, rfl⟩)
        | (go_at_call 34; refine (awake_any _ HA.out.fit HA.out.mark HA.out.view).mono ?_; rintro e w' ⟨rfl, q, hw⟩; have HA2 := Lib.hid (show SetsAt w' by rw [hw]; exact HA.out.drew q); have HB2 := Lib.hid (show Below w.heap.size w w' by rw [hw]; exact below_drewN HB.out q); clear hw HA HB; have HA := HA2; have HB := HB2; clear HA2 HB2))
      go_ret
      exact ⟨rfl, HB.out⟩

theorem sets_walk (n : Int) (w : World) (hn0 : 0 ≤ n) (hn1 : n ≤ 255) (hA : SetsAt w) :
    Calls Tryd.prog 8 #[.int .u8 n] w fun e w' => e = .returned (.bool true) ∧ Below w.heap.size w w' := by
  have : n % 11 = 0 ∨ n % 11 = 1 ∨ n % 11 = 2 ∨ n % 11 = 3 ∨ n % 11 = 4 ∨ n % 11 = 5 ∨ n % 11 = 6 ∨ n % 11 = 7 ∨ n % 11 = 8 ∨ n % 11 = 9 ∨ n % 11 = 10 := by omega
  rcases this with h | h | h | h | h | h | h | h | h | h | h
  · exact sets_1 n w hn0 hn1 h hA
  · exact sets_2 n w hn0 hn1 h hA
  · exact sets_3 n w hn0 hn1 h hA
  · exact sets_4 n w hn0 hn1 h hA
  · exact sets_5 n w hn0 hn1 h hA
  · exact sets_6 n w hn0 hn1 h hA
  · exact sets_7 n w hn0 hn1 h hA
  · exact sets_8 n w hn0 hn1 h hA
  · exact sets_9 n w hn0 hn1 h hA
  · exact sets_10 n w hn0 hn1 h hA
  · exact sets_11 n w hn0 hn1 h hA

end Cp
end Go.Proofs.YtgdfoonflkddnaaDoor
