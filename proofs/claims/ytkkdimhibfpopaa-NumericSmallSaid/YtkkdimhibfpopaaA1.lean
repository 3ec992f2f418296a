/- Words of F32: not-a-numbers made one, and the four operations up to that. -/
import Derived.Laws.ComplexArith
import Derived.Laws.NewFold
import Derived.WalkKit
import Derived.WalkSmall
namespace Go.Proofs.Ytkkdimhibfpopaa
open Go.RowKit
namespace Nu

/-- A word of F32 that is not a number. -/
def isN (b : Nat) : Bool := (Ieee.single.read b).isNaN
/-- The word that all of them become. -/
def qN : Nat := 2143289344
def canon (b : Nat) : Nat := if isN b = true then qN else b

theorem order_self (d : Ieee.Datum) : d.order d = if d.isNaN = true then none else some .eq := by
  cases d with
  | number s m e => simp [Ieee.Datum.order, Ieee.Datum.isNaN]
  | infinity s => cases s <;> simp [Ieee.Datum.order, Ieee.Datum.isNaN] <;> rfl
  | nan s t => simp [Ieee.Datum.order, Ieee.Datum.isNaN]

theorem order_yes {b : Nat} (h : isN b = false) : FloatKind.f32.format.order b b = some .eq := by
  show (Ieee.single.read b).order (Ieee.single.read b) = _
  rw [order_self, if_neg]
  unfold isN at h
  rw [h]; decide
theorem order_no {b : Nat} (h : isN b = true) : FloatKind.f32.format.order b b = none := by
  show (Ieee.single.read b).order (Ieee.single.read b) = _
  rw [order_self, if_pos]
  exact h

theorem isN_qN : isN qN = true := by decide
theorem canon_no {b : Nat} (h : isN b = false) : canon b = b := by unfold canon; rw [h]; rfl
theorem canon_yes {b : Nat} (h : isN b = true) : canon b = qN := by unfold canon; rw [h]; rfl
theorem canon_canon (b : Nat) : canon (canon b) = canon b := by
  cases h : isN b
  · rw [canon_no h, canon_no h]
  · rw [canon_yes h, canon_yes isN_qN]
theorem canon_lt {b : Nat} (h : b < 4294967296) : canon b < 4294967296 := by
  cases hb : isN b
  · rw [canon_no hb]; exact h
  · rw [canon_yes hb]; decide

theorem word_num {neg : Bool} {rung : Nat} (h : rung ≤ Ieee.single.infRung) : isN (Ieee.single.word neg rung) = false := by
  have hi : Ieee.single.infRung = 2139095040 := by decide
  have hs : Ieee.single.signWeight = 2147483648 := by decide
  have hb : Ieee.single.binade = 8388608 := by decide
  have hw : Ieee.single.word neg rung % 2147483648 = rung := by
    unfold Ieee.Format.word
    rw [hs]
    rw [hi] at h
    split <;> omega
  unfold isN Ieee.Format.read
  rw [hs, hw, hb, hi]
  rw [hi] at h
  dsimp only
  split
  · rfl
  · split
    · rfl
    · have : rung = 2139095040 := by omega
      rw [if_pos this]; rfl

theorem write_num {d : Ieee.Datum} (h : d.isNaN = false) : isN (Ieee.single.write d) = false := by
  cases d with
  | number s m e =>
    show isN (Ieee.single.nearest s m e) = false
    unfold Ieee.Format.nearest
    dsimp only
    split
    · exact word_num (Nat.zero_le _)
    · exact word_num (Nat.min_le_right _ _)
  | infinity s => exact word_num (Nat.le_refl _)
  | nan s t => cases h

theorem sum_num {x y d : Ieee.Datum} (h : x.sum y = some d) : d.isNaN = false := by
  cases x <;> cases y <;> simp [Ieee.Datum.sum] at h <;> (try (obtain ⟨_, rfl⟩ := h)) <;> (try subst h) <;> rfl
theorem product_num {x y d : Ieee.Datum} (h : x.product y = some d) : d.isNaN = false := by
  cases x <;> cases y <;> simp [Ieee.Datum.product] at h <;> (try (obtain ⟨_, rfl⟩ := h)) <;> (try subst h) <;> rfl
theorem quotient_num {k : Nat} {x y d : Ieee.Datum} (h : x.quotient k y = some d) : d.isNaN = false := by
  cases x <;> cases y <;> simp only [Ieee.Datum.quotient] at h <;> (try split at h) <;> (try split at h) <;> first | cases h; done | (cases h; rfl)

/-- What an operation gives, up to which not-a-number it is. -/
def fop (op : BinOp) (x y : Nat) : Nat := (floatBits op .f32 x y).getD qN

theorem bits_num {op : BinOp} {x y r : Nat} (h : floatBits op .f32 x y = some r) : isN r = false := by
  have key : ∀ o : Option Ieee.Datum, (∀ d, o = some d → d.isNaN = false) → o.map Ieee.single.write = some r → isN r = false := fun o ho hr => by
    cases o with
    | none => cases hr
    | some d => cases hr; exact write_num (ho d rfl)
  cases op <;> simp only [floatBits] at h <;> first | (cases h; done) | skip
  · exact key _ (fun d hd => sum_num hd) h
  · exact key _ (fun d hd => sum_num hd) h
  · exact key _ (fun d hd => product_num hd) h
  · exact key _ (fun d hd => quotient_num hd) h

theorem bits_lt {op : BinOp} {x y r : Nat} (h : floatBits op .f32 x y = some r) : r < 4294967296 := by
  have := floatBits_wf h
  simpa [Lit.wf] using this

theorem cut_nan (x y t : Nat) : isN ((Question.nanBits .f32 x y).cut t) = true ∧ (Question.nanBits .f32 x y).cut t < 4294967296 := by
  have hi : Ieee.single.infRung = 2139095040 := by decide
  have hs : Ieee.single.signWeight = 2147483648 := by decide
  have hb : Ieee.single.binade = 8388608 := by decide
  obtain ⟨v, hv⟩ : ∃ v, v = (Question.nanBits .f32 x y).cut t := ⟨_, rfl⟩
  have he : v = (t % 2) * 2147483648 + 2139095040 + 1 + (t / 2) % 8388607 := hv
  rw [← hv]
  have hc : (t / 2) % 8388607 < 8388607 := Nat.mod_lt _ (by decide)
  have ha : t % 2 < 2 := Nat.mod_lt _ (by decide)
  generalize (t / 2) % 8388607 = c at hc he
  generalize t % 2 = a at ha he
  have hm : v % 2147483648 = 2139095041 + c := by
    rcases (show a = 0 ∨ a = 1 by omega) with rfl | rfl <;> omega
  constructor
  · unfold isN Ieee.Format.read
    rw [hs, hb, hi, hm]
    dsimp only
    rw [if_neg (by omega), if_neg (by omega), if_neg (by omega)]
    rfl
  · omega

theorem read_nan {b : Nat} (h : isN b = true) : ∃ s t, Ieee.single.read b = .nan s t := by
  unfold isN at h
  cases hr : Ieee.single.read b <;> rw [hr] at h <;> first | exact ⟨_, _, rfl⟩ | cases h

theorem bits_left {op : BinOp} {x y : Nat} (h : isN x = true) : floatBits op .f32 x y = none := by
  obtain ⟨s, t, hr⟩ := read_nan h
  have hr' : FloatKind.f32.format.read x = .nan s t := hr
  cases op <;> simp only [floatBits] <;>
    simp only [Ieee.Format.add, Ieee.Format.sub, Ieee.Format.mul, Ieee.Format.div, hr', Ieee.Datum.sum, Ieee.Datum.product, Ieee.Datum.quotient, Option.map_none]
theorem bits_right {op : BinOp} {x y : Nat} (h : isN y = true) : floatBits op .f32 x y = none := by
  obtain ⟨s, t, hr⟩ := read_nan h
  have hr' : FloatKind.f32.format.read y = .nan s t := hr
  cases op <;> simp only [floatBits] <;>
    simp only [Ieee.Format.add, Ieee.Format.sub, Ieee.Format.mul, Ieee.Format.div, hr', Ieee.Datum.opposite] <;>
    cases FloatKind.f32.format.read x <;> rfl

theorem bits_canon (op : BinOp) (x y : Nat) : floatBits op .f32 (canon x) (canon y) = floatBits op .f32 x y := by
  cases hx : isN x
  · rw [canon_no hx]
    cases hy : isN y
    · rw [canon_no hy]
    · rw [canon_yes hy, bits_right hy, bits_right isN_qN]
  · rw [canon_yes hx, bits_left hx, bits_left isN_qN]

theorem fop_canon (op : BinOp) (x y : Nat) : fop op (canon x) (canon y) = fop op x y := by unfold fop; rw [bits_canon]
theorem fop_left (op : BinOp) (x y : Nat) : fop op (canon x) y = fop op x y := by
  rw [← fop_canon op x y, ← fop_canon op (canon x) y, canon_canon]
theorem fop_right (op : BinOp) (x y : Nat) : fop op x (canon y) = fop op x y := by
  rw [← fop_canon op x y, ← fop_canon op x (canon y), canon_canon]
theorem canon_fop (op : BinOp) (x y : Nat) : canon (fop op x y) = fop op x y := by
  unfold fop
  cases h : floatBits op .f32 x y with
  | none => exact canon_yes isN_qN
  | some r => exact canon_no (bits_num h)
theorem fop_lt (op : BinOp) (x y : Nat) : fop op x y < 4294967296 := by
  unfold fop
  cases h : floatBits op .f32 x y with
  | none => decide
  | some r => exact bits_lt h

/-- The very word that comes of an operation, and how often the tape was asked. -/
def raw (op : BinOp) (x y : Nat) (w : World) : Nat := (floatBits op .f32 x y).getD ((Question.nanBits .f32 x y).cut (w.tape w.drawn (.nanBits .f32 x y)))
def cnt (op : BinOp) (x y : Nat) : Nat := if (floatBits op .f32 x y).isSome = true then 0 else 1

theorem canon_raw (op : BinOp) (x y : Nat) (w : World) : canon (raw op x y w) = fop op x y := by
  unfold raw fop
  cases h : floatBits op .f32 x y with
  | none => exact canon_yes (cut_nan x y _).1
  | some r => exact canon_no (bits_num h)
theorem raw_lt (op : BinOp) (x y : Nat) (w : World) : raw op x y w < 4294967296 := by
  unfold raw
  cases h : floatBits op .f32 x y with
  | none => exact (cut_nan x y _).2
  | some r => exact bits_lt h

def Arith (op : BinOp) : Prop := op = .add ∨ op = .sub ∨ op = .mul ∨ op = .quo

theorem run_floatArith_raw {P : Program} (w : World) {op : BinOp} (ho : Arith op) (x y : Nat) :
    (Op.floatArith op .f32 x y).run P w = .ok (.float .f32 (raw op x y w)) (w.drewN (cnt op x y)) := by
  unfold raw cnt
  cases h : floatBits op .f32 x y with
  | some r => exact run_floatArith w h
  | none =>
    rcases ho with rfl | rfl | rfl | rfl <;> simp only [floatBits] at h <;>
      simp [Op.floatArith, h, Question.forced, World.drewN] <;> rfl

theorem run_fop {P : Program} (w : World) {op : BinOp} (ho : Arith op) (t : TypeId) (x y : Nat) :
    (binOp op t (.float .f32 x) (.float .f32 y)).run P w = .ok (.float .f32 (raw op x y w)) (w.drewN (cnt op x y)) := by
  have h := run_floatArith_raw (P := P) w ho x y
  rcases ho with rfl | rfl | rfl | rfl <;> simpa [binOp] using h

theorem run_cop {P : Program} (w : World) {op : BinOp} (ho : op = .add ∨ op = .sub) (t : TypeId) (a b c d : Nat) :
    (binOp op t (.complex .f32 a b) (.complex .f32 c d)).run P w = .ok (.complex .f32 (raw op a c w) (raw op b d (w.drewN (cnt op a c)))) ((w.drewN (cnt op a c)).drewN (cnt op b d)) := by
  have ha : Arith op := by rcases ho with rfl | rfl <;> simp [Arith]
  have h1 := run_floatArith_raw (P := P) w ha a c
  have h2 := run_floatArith_raw (P := P) (w.drewN (cnt op a c)) ha b d
  rcases ho with rfl | rfl <;> simp [binOp, Op.complexOp, Op.Complex.arith, h1, h2]

end Nu
end Go.Proofs.Ytkkdimhibfpopaa
