/- Contracts of the functions of package cap that look into tables, for any numbers. -/
import Derived.Test.YtgdfoonflkddnaaDoorA1
namespace Go.Proofs.YtgdfoonflkddnaaDoor
open Go.ChangeShapes Go.WideShapes Go.ChangeAt Go.RowKit
namespace Cp

def fitL : List Int := [0, 0, 0, 518, 1023, 516, 816, 1016, 800, 832, 832, 832, 896, 896, 896, 768, 768, 768, 512, 512, 512]
def markL : List Int := [0, 0, 0, 2, 1, 4, 16, 8, 32, 64, 64, 64, 128, 128, 128, 256, 256, 256, 512, 512, 512]
def viewL : List Int := [0, 0, 0, 0, 0, 0, 0, 0, 1, 6, 6, 4, 6, 6, 0, 1, 2, 5, 4, 5, 6, 0, 1, 2, 3, 4, 5, 6, 0, 4, 4, 4, 4, 4, 6, 0, 6, 5, 5, 4, 5, 6, 0, 0, 0, 0, 0, 0, 0]
def recL : List Int := [0, 1, 1, 1, 4, 4, 6]
def storL : List Int := [0, 82, 86, 126, 0, 0, 0]
def besL : List Int := [0, 64, 96, 104, 112, 124, 126]
def elsL : List Int := [0, 64, 64, 64, 112, 112, 126]

/-- The cells of a variable are these integers. -/
def TabAt (g : Nat) (l : List Int) (w : World) : Prop := ∀ i : Nat, i < l.length → w.cell? ⟨g, i, none⟩ = some (.int .i64 (l.getD i 0))

theorem TabAt.drew {g : Nat} {l : List Int} {w : World} (h : TabAt g l w) (n : Nat) : TabAt g l (w.drewN n) := fun i hi => by
  have := h i hi
  simpa using this

def fitsB (a m b o : Int) : Bool := markedB a m && markedB b o && (bits BinOp.and IntKind.i64 (fitL.getD (a.toNat * 3 + m.toNat) 0) (markL.getD (b.toNat * 3 + o.toNat) 0) != 0)
def viewB (o f : Int) : Bool := isB o && isB f && !(o == 6)
def viewI (o f : Int) : Int := if viewB o f = true then viewL.getD (o.toNat * 7 + f.toNat) 0 else 0
def aliC (c m : Int) : Int := if markedB c m = true then c else 0
def aliM (c m : Int) : Int := if (markedB c m && (uniqueB c && !(m == 1))) = true then 2 else 0
def conM (c m : Int) : Int := if (markedB c m && uniqueB c) = true then (if (m == 2) = true then 2 else 1) else 0
def countI (c m : Int) : Int := if (c == 1 && m == 2) = true then 6 else if (c == 2 && m == 2) = true then 5 else c
def recI (c : Int) : Int := if isB c = true then recL.getD c.toNat 0 else 0
def storeB (o c m : Int) : Bool := isB o && markedB c m && hasB (storL.getD o.toNat 0) (countI c m)
def localB (a b : Int) : Bool := isB a && hasB (besL.getD a.toNat 0) b
def globalB (a b : Int) : Bool := isB a && hasB (elsL.getD a.toNat 0) b
def exB (o f : Int) : Bool := writesB o && isB f
def exI (o f : Int) : Int := if exB o f = true then (if f = 1 then 1 else if f = 2 ∧ o = 3 then 2 else if f = 2 ∧ o = 2 then 5 else viewL.getD (o.toNat * 7 + f.toNat) 0) else 0
def exM (o f : Int) : Int := if exB o f = true then (if f = 1 then 1 else if f = 2 ∧ o = 3 then 1 else 0) else 0

theorem nat_of_isB {c : Int} (h : isB c = true) : ∃ n : Nat, c = n ∧ 1 ≤ n ∧ n ≤ 6 := by
  have := (isB_iff c).1 h
  exact ⟨c.toNat, by omega, by omega, by omega⟩

theorem marked_bounds {c m : Int} (h : markedB c m = true) : isB c = true ∧ 0 ≤ m ∧ m ≤ 2 := by
  simpa [markedB] using h

theorem nat_of_marked {c m : Int} (h : markedB c m = true) : ∃ n k : Nat, c = n ∧ m = k ∧ 1 ≤ n ∧ n ≤ 6 ∧ k ≤ 2 := by
  obtain ⟨h1, h2, h3⟩ := marked_bounds h
  obtain ⟨n, hn, a, b⟩ := nat_of_isB h1
  exact ⟨n, m.toNat, hn, by omega, a, b, by omega⟩

theorem isMarked_is (c m : Int) (b : Bool) (h : markedB c m = b) (w : World) :
    Calls Tryd.prog 52 #[.int .i64 c, .int .i64 m] w fun e w' => e = .returned (.bool b) ∧ w' = w := by
  subst h
  exact (isMarked_any c m w).mono fun _ _ h => ⟨h.1, h.2.symm⟩

set_option maxHeartbeats 400000 in
theorem Fits_yes (a m b o : Nat) (w : World) (h1 : markedB a m = true) (h2 : markedB b o = true) (ha : a ≤ 6) (hm : m ≤ 2) (hb : b ≤ 6) (ho : o ≤ 2)
    (hF : TabAt 2 fitL w) (hM : TabAt 3 markL w) :
    Calls Tryd.prog 26 #[.int .i64 a, .int .i64 m, .int .i64 b, .int .i64 o] w fun e w' => e = .returned (.bool (bits BinOp.and IntKind.i64 (fitL.getD (a * 3 + m) 0) (markL.getD (b * 3 + o) 0) != 0)) ∧ ∃ n, w' = w.drewN n := by
  have hf := hF (a * 3 + m) (by simp [fitL]; omega)
  have hm := hM (b * 3 + o) (by simp [markL]; omega)
  generalize fitL.getD (a * 3 + m) 0 = x at hf ⊢
  generalize markL.getD (b * 3 + o) 0 = y at hm ⊢
  have a7 : (a : Int) < 7 := by omega
  have b7 : (b : Int) < 7 := by omega
  have m3 : (m : Int) < 3 := by omega
  have o3 : (o : Int) < 3 := by omega
  clear hF hM
  go_enter Tryd.func26, Tryd.ntmps26
  go_wp2
  go_quiet ((go_at_call 52; exact Calls.quiet_of_same ((isMarked_any _ _ _).mono fun _ _ h => ⟨h.1, h.2.symm⟩)))
  go_wp2
  go_ret
  exact ⟨rfl, _, rfl⟩

set_option maxHeartbeats 400000 in
theorem Fits_no1 (a m b o : Int) (w : World) (h1 : markedB a m = false) :
    Calls Tryd.prog 26 #[.int .i64 a, .int .i64 m, .int .i64 b, .int .i64 o] w fun e w' => e = .returned (.bool false) ∧ ∃ n, w' = w.drewN n := by
  go_enter Tryd.func26, Tryd.ntmps26
  go_wp2
  have H1 := Lib.hid h1
  clear h1
  go_quiet ((go_at_call 52; exact Calls.quiet_of_same (isMarked_is _ _ false H1.out _)))
  go_wp2
  go_ret
  exact ⟨rfl, _, rfl⟩

set_option maxHeartbeats 400000 in
theorem Fits_no2 (a m b o : Int) (w : World) (h1 : markedB a m = true) (h2 : markedB b o = false) :
    Calls Tryd.prog 26 #[.int .i64 a, .int .i64 m, .int .i64 b, .int .i64 o] w fun e w' => e = .returned (.bool false) ∧ ∃ n, w' = w.drewN n := by
  go_enter Tryd.func26, Tryd.ntmps26
  go_wp2
  have H1 := Lib.hid h1
  have H2 := Lib.hid h2
  clear h1 h2
  go_quiet ((go_at_call 52; first | (with_reducible exact Calls.quiet_of_same (isMarked_is a m true H1.out _)) | (with_reducible exact Calls.quiet_of_same (isMarked_is b o false H2.out _))))
  go_wp2
  go_ret
  exact ⟨rfl, _, rfl⟩

theorem Fits_any (a m b o : Int) (w : World) (hF : TabAt 2 fitL w) (hM : TabAt 3 markL w) :
    Calls Tryd.prog 26 #[.int .i64 a, .int .i64 m, .int .i64 b, .int .i64 o] w fun e w' => e = .returned (.bool (fitsB a m b o)) ∧ ∃ n, w' = w.drewN n := by
  cases h1 : markedB a m
  · simp only [fitsB, h1, Bool.false_and]
    exact Fits_no1 a m b o w h1
  · cases h2 : markedB b o
    · simp only [fitsB, h1, h2, Bool.false_and, Bool.and_false]
      exact Fits_no2 a m b o w h1 h2
    · obtain ⟨n, k, rfl, rfl, _, q2, q3⟩ := nat_of_marked h1
      obtain ⟨n', k', rfl, rfl, _, r2, r3⟩ := nat_of_marked h2
      simp only [fitsB, h1, h2, Bool.true_and, Int.toNat_natCast]
      exact Fits_yes n k n' k' w h1 h2 q2 q3 r2 r3 hF hM

set_option maxHeartbeats 400000 in
theorem Sub_any (a b : Int) (w : World) (hF : TabAt 2 fitL w) (hM : TabAt 3 markL w) :
    Calls Tryd.prog 24 #[.int .i64 a, .int .i64 b] w fun e w' => e = .returned (.bool (fitsB a 1 b 0)) ∧ ∃ n, w' = w.drewN n := by
  have HF := Lib.hid hF
  have HM := Lib.hid hM
  clear hF hM
  go_enter Tryd.func24, Tryd.ntmps24
  go_wp2_with (go_at_call 26; refine (Fits_any _ _ _ _ _ HF.out HM.out).mono ?_; rintro e w' ⟨rfl, n, rfl⟩)
  go_ret
  exact ⟨rfl, _, rfl⟩

set_option maxHeartbeats 400000 in
theorem View_any (o f : Int) (w : World) (hV : TabAt 5 viewL w) :
    Calls Tryd.prog 35 #[.int .i64 o, .int .i64 f] w fun e w' => e = .returned (.tuple #[.int .i64 (viewI o f), .bool (viewB o f)]) ∧ w = w' := by
  cases h1 : isB o
  · have e1 : viewB o f = false := by simp [viewB, h1]
    have e2 : viewI o f = 0 := by simp [viewI, e1]
    rw [e1, e2]
    clear e1 e2 hV
    go_enter Tryd.func35, Tryd.ntmps35
    go_wp2_with (go_at_call 13; refine (Is_any _ _).mono ?_; rintro e w' ⟨rfl, rfl⟩)
    go_ret2
    exact ⟨rfl, rfl⟩
  · cases h2 : isB f
    · have e1 : viewB o f = false := by simp [viewB, h2]
      have e2 : viewI o f = 0 := by simp [viewI, e1]
      rw [e1, e2]
      clear e1 e2 hV
      go_enter Tryd.func35, Tryd.ntmps35
      go_wp2_with (go_at_call 13; refine (Is_any _ _).mono ?_; rintro e w' ⟨rfl, rfl⟩)
      go_ret2
      exact ⟨rfl, rfl⟩
    · cases h3 : (o == 6)
      · have e1 : viewB o f = true := by simp [viewB, h1, h2, h3]
        have e2 : viewI o f = viewL.getD (o.toNat * 7 + f.toNat) 0 := by simp [viewI, e1]
        rw [e1, e2]
        clear e1 e2
        obtain ⟨n, rfl, _, q2⟩ := nat_of_isB h1
        obtain ⟨k, rfl, _, r2⟩ := nat_of_isB h2
        simp only [Int.toNat_natCast]
        have hc := hV (n * 7 + k) (by simp [viewL]; omega)
        generalize viewL.getD (n * 7 + k) 0 = x at hc ⊢
        have n7 : (n : Int) < 7 := by omega
        have k7 : (k : Int) < 7 := by omega
        clear hV
        go_enter Tryd.func35, Tryd.ntmps35
        go_wp2_with (go_at_call 13; refine (Is_any _ _).mono ?_; rintro e w' ⟨rfl, rfl⟩)
        go_ret2
        exact ⟨rfl, rfl⟩
      · have e1 : viewB o f = false := by simp [viewB, h3]
        have e2 : viewI o f = 0 := by simp [viewI, e1]
        rw [e1, e2]
        clear e1 e2 hV
        go_enter Tryd.func35, Tryd.ntmps35
        go_wp2_with (go_at_call 13; refine (Is_any _ _).mono ?_; rintro e w' ⟨rfl, rfl⟩)
        go_ret2
        exact ⟨rfl, rfl⟩

end Cp
end Go.Proofs.YtgdfoonflkddnaaDoor
