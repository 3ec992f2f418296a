/- A range over a function that keeps a place of its own in memory: the law, for an iterator that writes one older block and for rounds that always go on. -/
import Derived.Test.YtlpcpnbjpbhlgaaGreatDoorA2
import Derived.Maps.AppendAt
import Derived.RangeFuncNested
import Derived.RangeFuncCalls
import Derived.RangeFuncLeaves
namespace Go.Proofs.YtlpcpnbjpbhlgaaGreatDoor
open Go.RowKit
namespace Tk

/-- What an iterator's contract says: N rounds come, the k-th with the values (encs k); of its own it writes block c alone; C k: what it holds when the k-th round begins, and wants back; D: what it leaves. -/
def IterSt (P : Program) (n gf : Nat) (lb : Array Value) (c N : Nat) (encs : Nat → Array Value) (C : Nat → World → Prop) (D : World → Prop) (w : World) : Prop :=
  ∀ (l : Nat) (J : Nat → World → Prop) (W : World), w.grownBy W none → (∀ k A B, J k A → A.grownBy B (some c) → J k B) →
    (∀ k W1, k < N → J k W1 → C k W1 → YieldAt Fence.wide (n - 1) P l (encs k) W1 fun e W' => e = .returned (.bool true) ∧ J (k + 1) W' ∧ C k W') →
    J 0 W → CallsIn Fence.wide n P gf (#[.func (.yield l) #[] #[]] ++ lb) W fun e W' => (∃ v, e = .returned v) ∧ J N W' ∧ D W'

def goesOn (I C : World → Prop) (W : World) : Exit → Act → World → Prop
  | .normal, _, W' => KeepsOthers W W' ∧ I W' ∧ C W'
  | _, _, _ => False

/-- A fact abides what is done at or beyond a size, and to block c. -/
def Stable (X : World → Prop) (c B : Nat) : Prop := ∀ U V r, X U → U.grownBy V (some r) → (r = c ∨ B ≤ r) → X V
def StableNew (X : World → Prop) (B : Nat) : Prop := ∀ U V r, X U → U.grownBy V (some r) → B ≤ r → X V

theorem grown_row {w w' : World} (h : w.grownBy w' none) (r : Nat) : w.grownBy w' (some r) :=
  ⟨h.os, h.tape, h.output, h.size, fun k hk _ => h.block k hk (by simp)⟩

theorem wpIn_range_st {P : Program} {n : Nat} {g : Operand} {ps : Array Tmp} {assign body : Code} {Q : Exit → Act → World → Prop} {a : Act} {w : World}
    {gf : Nat} {lb : Array Value} (hg : a.eval g = .func (.func gf) #[] lb) (eg : ∀ args w, (callFunc gf args).run P w = .ok (.enter gf args) w)
    {c N : Nat} (hcw : c < w.heap.size) {encs : Nat → Array Value} {C : Nat → World → Prop} {D : World → Prop} {n0 : Nat} (hit : IterSt P n0 gf lb c N encs C D w) (hps : ∀ k, (encs k).size = ps.size)
    (hC : ∀ k, StableNew (C k) w.heap.size) (hD : StableNew D w.heap.size)
    (I : Nat → World → Prop) (hI : ∀ k, Stable (I k) c w.heap.size) (h0 : I 0 w) (a₁ : Nat → Act)
    (hassign : ∀ (l k : Nat) (W : World) (K : Act → World → Prop), K (a₁ k) W →
      assign.wpIn (Fence.wide.inRound l) (n0 - 1) P (Exit.then K (fun _ _ _ => False)) { tmps := (ps.zip (encs k)).foldl (fun t (p, v) => t.setIfInBounds p v) a.tmps, defers := [] } W)
    (hbody : ∀ (l k : Nat) (W : World), k < N → I k W → C k W → body.wpIn (Fence.wide.inRound l) (n0 - 1) P (goesOn (I (k + 1)) (C k) W) (a₁ k) W)
    (hdone : ∀ (B : Nat) (W : World), w.heap.size ≤ B → I N W → D W → W.heap[B]? = some (.deferred (some [])) → Q .normal { a with defers := { target := .collected B, args := #[] } :: a.defers } W) :
    (Code.rangeFunc g ps assign body).wpIn Fence.wide n P Q a w := by
  refine wpIn_rangeFunc ?_
  intro fn hfn
  obtain ⟨rec, hrec⟩ : ∃ rec : LoopState → Option Code → Loop, rec = fun st pe => { state := st, pending := pe, fn, tmps := a.tmps, params := ps, assign, body, defers := w.heap.size } := ⟨_, rfl⟩
  obtain ⟨W1, hW1⟩ : ∃ W1, (w.alloc (.deferred (some []))).alloc (.loop (rec .ready none)) = W1 := ⟨_, rfl⟩
  have hL1 : W1.heap[w.heap.size + 1]? = some (.loop (rec .ready none)) := by
    rw [← hW1]; have := World.alloc_heap_new (w.alloc (.deferred (some []))) (.loop (rec .ready none)); rwa [World.size_alloc] at this
  have hK1 : W1.heap[w.heap.size]? = some (.deferred (some [])) := by
    rw [← hW1]; exact (Below.heap_alloc _ _ _ (by simp)).trans (World.alloc_heap_new w _)
  have hg1 : w.grownBy W1 none := by
    rw [← hW1]; exact (World.grownBy_alloc w _ none).trans (World.grownBy_alloc _ _ none)
  have hI1 : I 0 W1 := hI 0 w W1 c h0 (grown_row hg1 c) (.inl rfl)
  refine ⟨w.heap.size + 1, [{ target := .collected w.heap.size, args := #[] }], W1, { target := .fn (.func gf) lb, args := #[.func (.yield (w.heap.size + 1)) #[] #[]] }, W1, gf,
    #[.func (.yield (w.heap.size + 1)) #[] #[]] ++ lb, W1, ?_, ?_, ?_, ?_, fun h => (by cases h), ?_⟩
  · rw [← hW1, hrec]; exact run_enterLoop_outer _ _ _ _ _
  · simp only [resolve, hg]
    simp [go_sem]
  · intro f' hf'; trivial
  · simp [invoke, go_sem, eg]
  · have hit' : CallsIn Fence.wide n0 P gf (#[.func (.yield (w.heap.size + 1)) #[] #[]] ++ lb) W1 (rangePost Fence.wide n P (w.heap.size + 1) Q { a with defers := [{ target := .collected w.heap.size, args := #[] }] ++ a.defers }) := by
      refine (hit (w.heap.size + 1)
        (fun k W => I k W ∧ W.heap[w.heap.size + 1]? = some (.loop (rec .ready none)) ∧ W.heap[w.heap.size]? = some (.deferred (some [])))
        W1 hg1 ?_ ?_ ⟨hI1, hL1, hK1⟩).mono ?_
      · rintro k A B ⟨h1, h2, h3⟩ hAB
        exact ⟨hI k A B c h1 hAB (.inl rfl), (hAB.block _ (Array.getElem?_eq_some_iff.1 h2).1 (by intro e; cases e; omega)).trans h2, (hAB.block _ (Array.getElem?_eq_some_iff.1 h3).1 (by intro e; cases e; omega)).trans h3⟩
      · rintro k W hk ⟨hi, hl, hd⟩ hc
        have hlt : w.heap.size + 1 < W.heap.size := (Array.getElem?_eq_some_iff.1 hl).1
        have hy := run_yield (P := P) (args := encs k) hl (by rw [hrec]; exact hps k)
        rw [hrec] at hy
        refine ⟨fn, _, assign, body, hy, roundIn_of_wpIn hfn (hassign _ k W _ ⟨_, run_beginRound hl (by rw [hrec]), ?_⟩)⟩
        have hl2 : (W.putObj (w.heap.size + 1) (.loop { rec .ready none with state := .busy })).heap[w.heap.size + 1]? = some (.loop { rec .ready none with state := .busy }) := World.putObj_heap_same hlt
        have hk2 : (W.putObj (w.heap.size + 1) (.loop { rec .ready none with state := .busy })).heap[w.heap.size]? = some (.deferred (some [])) := (World.putObj_heap_other (by omega)).trans hd
        refine wpIn_mono (hbody _ k _ hk (hI k _ _ _ hi (grownBy_putObj' _ _ _) (.inr (by omega))) (hC k _ _ _ hc (grownBy_putObj' _ _ _) (by omega))) ?_
        rintro e a3 W3 hp
        cases e with
        | normal =>
          obtain ⟨hk3, hi3, hc3⟩ := hp
          have hl3 := hk3.same _ _ hl2 rfl
          have hr := run_endRound (P := P) none hl3
          have hl4 : (W3.putObj (w.heap.size + 1) (.loop (rec .ready none))).heap[w.heap.size + 1]? = some (.loop (rec .ready none)) := World.putObj_heap_same (Array.getElem?_eq_some_iff.1 hl3).1
          have hk4 : (W3.putObj (w.heap.size + 1) (.loop (rec .ready none))).heap[w.heap.size]? = some (.deferred (some [])) := (World.putObj_heap_other (by omega)).trans (hk3.same _ _ hk2 rfl)
          refine ⟨_, W3.putObj (w.heap.size + 1) (.loop (rec .ready none)), ?_, rfl, ⟨hI (k + 1) _ _ _ hi3 (grownBy_putObj' _ _ _) (.inr (by omega)), hl4, hk4⟩, hC k _ _ _ hc3 (grownBy_putObj' _ _ _) (by omega)⟩
          rw [hr, hrec]
          rfl
        | ret => exact hp.elim
        | exit id => exact hp.elim
        | goto t => exact hp.elim
        | panic ch => exact hp.elim
        | outgrown => exact hp.elim
      · rintro e W2 ⟨⟨v, rfl⟩, ⟨hi, hl, hd⟩, hdd⟩
        exact ⟨none, _, by have := run_endLoop (P := P) hl (by rw [hrec]; simp); rw [hrec] at this; exact this, hdone _ _ (Nat.le_refl _) (hI N _ _ _ hi (grownBy_putObj' _ _ _) (.inr (by omega))) (hD _ _ _ hdd (grownBy_putObj' _ _ _) (by omega)) ((World.putObj_heap_other (by omega)).trans hd)⟩
    exact callsIn_wide.2 (callsIn_wide.1 hit')

end Tk
end Go.Proofs.YtlpcpnbjpbhlgaaGreatDoor
