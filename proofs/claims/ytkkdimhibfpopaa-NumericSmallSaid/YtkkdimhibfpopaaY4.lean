/- A region that draws its order and holds guards: by an invariant over what has come up. -/
import Derived.Test.YtkkdimhibfpopaaY1
namespace Go.Proofs.Ytkkdimhibfpopaa
open Go.ChangeShapes Go.WideShapes Go.ChangeAt Go.RowKit Go.WideMaps Go.Maps
namespace Nu

/-- Each edge points back. -/
def back (ops : Array Oper) : Bool := (List.range ops.size).all fun i => match ops[i]? with | none => true | some o => o.after.all fun e => decide (e.on < i)
theorem back_at {ops : Array Oper} (h : back ops = true) {i : Nat} {o : Oper} (ho : ops[i]? = some o) : ∀ e ∈ o.after, e.on < i := by
  have hi : i < ops.size := (Array.getElem?_eq_some_iff.1 ho).1
  have h1 := List.all_eq_true.1 h i (List.mem_range.2 hi)
  rw [ho] at h1
  intro e he
  have h2 := Array.all_eq_true_iff_forall_mem.1 h1 e he
  exact of_decide_eq_true h2

theorem all_up {ops : Array Oper} (hb : back ops = true) {l : Array Bool} (hr : Region.ready .any ops l = []) (hs : l.size = ops.size) : ∀ n i, i < n → i < ops.size → l.getD i false = true
  | 0, i, h, _ => absurd h (by omega)
  | n + 1, i, h, hi => by
    cases hc : l.getD i false
    · exfalso
      have h2 : l.getD i true = false := by simpa [show i < l.size by omega] using hc
      have ho : ops[i]? = some ops[i] := by simp
      have : i ∈ Region.ready .any ops l := mem_ready.2 ⟨h2, _, ho, fun e he _ => all_up hb hr hs n e.on (by have := back_at hb ho e he; omega) (by have := back_at hb ho e he; omega)⟩
      rw [hr] at this
      cases this
    · rfl

theorem wp_region_all {P : Program} {ops : Array Oper} {Q : Exit → Act → World → Prop} {id : Nat} {a : Act} {w : World} (n : Nat) (hm : P.follows .mixedOrders = true) (hn : ops.size = n) (hb : back ops = true) (I : Array Bool → Act → World → Prop) (hs : ∀ l a w, I l a w → l.size = n)
    (start : I (Array.replicate n false) a w.drew)
    (step : ∀ os, os = ops → ∀ i l a w, I l a w → i < n → i ∈ Region.ready .any os l → wpOp P os Q i (fun a' w' => I (l.setIfInBounds i true) a' w') a w)
    (done : ∀ l a w, I l a w → (∀ i, i < n → l.getD i false = true) → Q .normal a w) : (Code.region id ops true).wp P Q a w := by
  subst hn
  refine wp_region_inv hm I start (fun i l a w h hi => ?_) (fun l a w h hr => done l a w h fun i hi => all_up hb hr (hs l a w h) (i + 1) i (by omega) hi)
  obtain ⟨-, o, ho, -⟩ := mem_ready.1 hi
  exact step ops rfl i l a w h (Array.getElem?_eq_some_iff.1 ho).1 hi

theorem op_at {ops lit : Array Oper} (hO : ops = lit) {i : Nat} {o o' : Oper} (ho : ops[i]? = some o) (h : lit[i]? = some o') : o = o' := by
  subst hO
  rw [ho] at h
  injection h

theorem wpOp_go {P : Program} {ops : Array Oper} {Q : Exit → Act → World → Prop} {i : Nat} {o : Oper} {K : Act → World → Prop} {a : Act} {w : World} (ho : ops[i]? = some o) (hw : Region.wanted o (yielded ops a.tmps) = true)
    (h : ∀ K' : Act → World → Prop, (∀ a w, K a w → K' a w) → Oper.wp P o a w K' Q) : wpOp P ops Q i K a w :=
  wpOp_step ho fun K' hK => by rw [if_pos hw]; exact h K' hK

theorem wanted_none {o : Oper} (h : o.guard = none) (y : Nat → Option Bool) : Region.wanted o y = true := by
  unfold Region.wanted; rw [h]
theorem wanted_some {ops lit : Array Oper} (hO : ops = lit) {tmps : Array Value} {o o' : Oper} {g d : Nat} {v : Value} (h : o.guard = some (g, true)) (hg : lit[g]? = some o') (hd : o'.dst = some d) (ht : tmps[d]? = some v) (hv : v = .bool true) : Region.wanted o (yielded ops tmps) = true := by
  subst hO hv
  unfold Region.wanted
  rw [h]
  show (yielded ops tmps g == some true) = true
  unfold yielded
  rw [hg, Option.bind_some, hd, Option.bind_some, ht]
  rfl

theorem upd_self {U : Nat → Value} {i : Nat} {v : Value} (h : U i = v) : upd U i v = U := by
  funext k
  by_cases e : k = i
  · subst e; rw [upd_same, h]
  · rw [upd_other _ _ _ _ e]

theorem calls_args {P : Program} {f : Nat} {x y : Array Value} {w : World} {Q : Ending → World → Prop} (h : x = y) (hc : Calls P f y w Q) : Calls P f x w Q := h ▸ hc

end Nu
end Go.Proofs.Ytkkdimhibfpopaa
