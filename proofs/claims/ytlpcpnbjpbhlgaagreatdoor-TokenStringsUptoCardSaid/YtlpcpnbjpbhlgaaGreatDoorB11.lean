/- Scan of a text that has no error: its tokens. -/
import Derived.Test.YtlpcpnbjpbhlgaaGreatDoorB10
import Derived.Test.YtlpcpnbjpbhlgaaGreatDoorA13
import Derived.Defers
import Derived.Recover
import Derived.Deep.OwnRows
namespace Go.Proofs.YtlpcpnbjpbhlgaaGreatDoor
open Go.ChangeShapes Go.WideShapes Go.ChangeAt Go.RowKit Go.WideMaps Go.Maps
namespace Tk

theorem caught_idle (a b c : Addr) (w : World) :
    CallsD Tryz.prog 26 #[.pointer (some a), .pointer (some b), .pointer (some c)] .returning w fun e u' w' => e = .returned (.tuple #[]) ∧ u' = .returning ∧ w' = w := by
  refine callsD_of_wpS Tryz.func26 rfl fun c₀ cs hu => ?_
  apply wpS_seq
  apply wpS_region
  simp [wpOpsS, go_sem, recoverD, hu, Tryz.ntmps26, Exit.thenS]
  apply wpS_seq
  apply wpS_seq
  apply wpS_region
  simp [wpOpsS, go_sem, Exit.thenS]
  refine wpS_cond (t := true) (by simp [Act.eval, Array.replicate]) ?_
  simp only [if_true]
  refine wpS_of_wp (wp_ret ?_)
  cases c₀
  simp_all [Exit.thenS, bodyPostS, results, Tryz.results26]

/-- The tables and the set of keywords that reading wants. -/
structure Env (w : World) (c m : Nat) : Prop where
  syms : Syms w
  pow : Pow10 w
  kw : w.ownsMap Tryz.prog 9 (plainElem (H := Unit) Tryz.prog 4) m 51 (kwSet Unit 51)
  mc : m < c
  m0 : 0 < m
  m8 : 8 < m
  u8 : Utf8T w
  m1 : 1 < m
  m2 : 2 < m

theorem Env.kept {w w' : World} {c m : Nat} {row : Option Nat} (h : Env w c m) (hg : w.grownBy w' row) (hr : ∀ r, row = some r → r ≠ 0 ∧ r ≠ 8 ∧ r ≠ 1 ∧ r ≠ 2 ∧ r ≠ m) : Env w' c m where
  syms := by
    obtain ⟨t, fr, hb⟩ := h.syms.block
    exact ⟨t, fr, (hg.block _ (Array.getElem?_eq_some_iff.1 hb).1 (fun e => (hr _ e.symm).1 rfl)).trans hb⟩
  pow := tabIs_grown pow10_at h.pow hg (fun e => (hr _ e.symm).2.1 rfl)
  kw := h.kw.kept hg (fun e => (hr _ e.symm).2.2.2.2 rfl)
  u8 := utf8_grown h.u8 hg (fun e => (hr _ e.symm).2.2.1 rfl) (fun e => (hr _ e.symm).2.2.2.1 rfl)
  m1 := h.m1
  m2 := h.m2
  mc := h.mc
  m0 := h.m0
  m8 := h.m8

theorem Env.up {w w' : World} {c m : Nat} {row : Option Nat} (h : Env w c m) (hg : w.grownBy w' row) (hr : ∀ r, row = some r → m < r) : Env w' c m :=
  h.kept hg fun r e => by
    have h1 := hr r e
    have h2 := h.m0
    have h3 := h.m8
    have h4 := h.m1
    have h5 := h.m2
    exact ⟨by omega, by omega, by omega, by omega, by omega⟩

/-- A token at place p, which ends at q. -/
def ReadAt (s : ByteArray) (p : Nat) (k : Int) (tx : ByteArray) (q : Nat) : Prop :=
  ∀ (w : World) (c st m : Nat), Cur w c s st p m → Env w c m → Calls Tryz.prog 29 #[.pointer (some ⟨c, 0, none⟩)] w fun e w' =>
    ∃ (g : Nat) (lb : Array Value), e = .returned (.func (.func g) #[] lb) ∧ (∀ args w, (callFunc g args).run Tryz.prog w = .ok (.enter g args) w) ∧ w.grownBy w' (some c) ∧
      Calls Tryz.prog g lb w' fun e w2 => e = .returned (tokV k tx) ∧ Cur w2 c s p q m ∧ w'.grownBy w2 (some c)

structure Tok where
  kind : Int
  text : ByteArray
  pos : Nat
  line : Bool

def Tok.cells (t : Tok) : List Value := [.int .i64 t.kind, .string t.text, .int .i64 t.pos, .bool t.line]
def cellsOf (l : List Tok) : List Value := l.flatMap Tok.cells

/-- The tokens from place p on. -/
inductive Toks (s : ByteArray) : Nat → Bool → List Tok → Prop
  | last (p : Nat) (f : Bool) (h : Skip s p s.size) : Toks s p f []
  | tok (p : Nat) (f : Bool) (b : Nat) (k : Int) (tx : ByteArray) (q : Nat) (ts : List Tok) (h : Skip s p b) (hb : b < s.size) (hr : ReadAt s b k tx q) (h1 : b < q) (h2 : q ≤ s.size) (hn : Toks s q false ts) : Toks s p f (⟨k, tx, b, feedB s p b || f⟩ :: ts)

/-- What stands ahead of each round. -/
structure ScanI (w : World) (B c m : Nat) (s : ByteArray) (p : Nat) (done : List Tok) (wr : World) : Prop where
  cur : ∃ st, Cur wr c s st p m
  env : Env wr c m
  list : ∃ v, Boxed wr B 30 v ∧ wr.ownsRow (c + 1) 34 4 v done.length (cellsOf done)
  place : Boxed wr (B + 1) 3 (.int .i64 0)
  code : Boxed wr (B + 1 + 1) 23 (.int .i64 0)
  below : Below B w wr
  bm : B + 1 + 1 < m
  b0 : 0 < B
  b8 : 8 < B
  b1 : 1 < B
  b2 : 2 < B

theorem ScanI.kept {w U V : World} {B c m p q : Nat} {s : ByteArray} {done : List Tok} (h : ScanI w B c m s p done U) (hg : U.grownBy V (some c)) (hcur : ∃ st, Cur V c s st q m) : ScanI w B c m s q done V := by
  have h1 := h.env.mc
  have h2 := h.bm
  obtain ⟨v, hv, hrow⟩ := h.list
  refine ⟨hcur, h.env.up hg (fun r e => by cases e; exact h1), ⟨v, hv.kept hg (by intro e; have := Option.some.inj e; omega), hrow.kept hg ?_⟩, h.place.kept hg (by intro e; have := Option.some.inj e; omega), h.code.kept hg (by intro e; have := Option.some.inj e; omega), h.below.grown hg (by have := (Array.getElem?_eq_some_iff.1 hv).1; omega) (fun k e => by cases e; omega), h.bm, h.b0, h.b8, h.b1, h.b2⟩
  cases ho : v.ownBlock with
  | none => exact .inl rfl
  | some k =>
    right
    have := (hrow.lt k ho).1
    intro e
    have := Option.some.inj e
    omega

theorem ScanI.alloc {w U : World} {B c m p : Nat} {s : ByteArray} {done : List Tok} (h : ScanI w B c m s p done U) (o : Obj) : ScanI w B c m s p done (U.alloc o) := by
  obtain ⟨st, hc⟩ := h.cur
  exact h.kept (World.grownBy_alloc U o _) ⟨st, hc.kept (World.grownBy_alloc U o none) (by simp)⟩

theorem cellsOf_snoc (l : List Tok) (t : Tok) : cellsOf (l ++ [t]) = cellsOf l ++ t.cells := by simp [cellsOf]

theorem ScanI.put {w U V : World} {B c m p : Nat} {s : ByteArray} {done : List Tok} {v v' : Value} {t : Tok} (h : ScanI w B c m s p done U) (hv : Boxed U B 30 v) (hrow : U.ownsRow (c + 1) 34 4 v done.length (cellsOf done))
    (hg : U.grownBy V v.ownBlock) (hrow' : V.ownsRow (c + 1) 34 4 v' (done.length + 1) (cellsOf done ++ t.cells)) : ScanI w B c m s p (done ++ [t]) (V.setCell ⟨B, 0, none⟩ v') := by
  have h1 := h.env.mc
  have h2 := h.bm
  have h3 := h.b0
  have h4 := h.b8
  have h5 := h.b1
  have h6 := h.b2
  obtain ⟨st, hc⟩ := h.cur
  have hk : ∀ r, v.ownBlock = some r → c + 1 ≤ r := fun r e => (hrow.lt r e).1
  have gs : V.grownBy (V.setCell ⟨B, 0, none⟩ v') (some B) := grown_set V ⟨B, 0, none⟩ v'
  have hvV : Boxed V B 30 v := hv.kept hg (by intro e; have := hk _ e.symm; omega)
  have hbV : Below B w V := h.below.grown hg (by have := (Array.getElem?_eq_some_iff.1 hv).1; omega) (fun k e => by have := hk _ e; omega)
  refine ⟨⟨st, (hc.kept hg (by intro e; have := hk _ e.symm; omega)).kept gs (by intro e; have := Option.some.inj e; omega)⟩, (h.env.up hg (fun r e => by have := hk _ e; omega)).kept gs (fun r e => by cases e; exact ⟨by omega, by omega, by omega, by omega, by omega⟩), ⟨v', hvV.set v', ?_⟩,
    (h.place.kept hg (by intro e; have := hk _ e.symm; omega)).other (by omega) _, (h.code.kept hg (by intro e; have := hk _ e.symm; omega)).other (by omega) _, hbV.setCell (p := ⟨B, 0, none⟩) (Nat.le_refl _) _, h.bm, h.b0, h.b8, h.b1, h.b2⟩
  rw [cellsOf_snoc, List.length_append]
  refine hrow'.kept gs ?_
  cases ho : v'.ownBlock with
  | none => exact .inl rfl
  | some k =>
    right
    have := (hrow'.lt k ho).1
    intro e
    have := Option.some.inj e
    omega

theorem ScanI.shape {w U : World} {B c m p : Nat} {s : ByteArray} {done : List Tok} (h : ScanI w B c m s p done U) :
    ∃ ao cap, Boxed U B 30 (.slice ao done.length cap) ∧ U.ownsRow (c + 1) 34 4 (.slice ao done.length cap) done.length (cellsOf done) := by
  obtain ⟨v, hv, hrow⟩ := h.list
  have hrow2 := hrow
  rcases hrow.2 with ⟨h1, h2⟩ | ⟨g, cap, cur, h1, _⟩
  · rw [h1] at hv hrow2
    exact ⟨none, 0, by rw [h2]; exact hv, by rw [h2] at hrow2 ⊢; exact hrow2⟩
  · rw [h1] at hv hrow2
    exact ⟨_, cap, hv, hrow2⟩

def zeroTok : Value := .agg #[.int .i64 0, .string ⟨#[]⟩, .int .i64 0, .bool false]
theorem infoTok : (Tryz.prog.info? 34).map (fun i => (i.zero, i.size, i.bytes)) = some (some zeroTok, 4, 40) := by kernel_rfl

theorem boxed_below {W W' : World} {B b : Nat} {t : TypeId} {v : Value} (h : Boxed W b t v) (hb : Below B W W') (hlt : b < B) : Boxed W' b t v := (hb.block b hlt).trans h

/-- The world in which the loop begins. -/
theorem scan_start (w : World) (s : ByteArray) (hspace : Lib.TabIs Tryz.prog w "strings.asciiSpace" .u8 Lib.asciiSpaceTab) (hsy : Syms w) (hpo : Pow10 w) (hu : Utf8T w) :
    ∃ w3, w3 = ((w.alloc (.cells #[.slice none 0 0] 30)).alloc (.cells #[.int .i64 0] 3)).alloc (.cells #[.int .i64 0] 23) ∧ w3.heap.size = w.heap.size + 1 + 1 + 1 ∧
      Lib.TabIs Tryz.prog w3 "strings.asciiSpace" .u8 Lib.asciiSpaceTab ∧
      ∀ w4 m, m = w3.heap.size → Below w3.heap.size w3 w4 → w4.ownsMap Tryz.prog 9 (plainElem (H := Unit) Tryz.prog 4) m 51 (kwSet Unit 51) →
        ScanI w w.heap.size w4.heap.size m s 0 [] (w4.alloc (.cells #[.string s, .int .i64 0, .int .i64 0, .map (some m)] 58)) := by
  have hb3 : Below w.heap.size w (((w.alloc (.cells #[.slice none 0 0] 30)).alloc (.cells #[.int .i64 0] 3)).alloc (.cells #[.int .i64 0] 23)) :=
    (((Below.refl _ _).alloc (Nat.le_refl _) _).alloc (by simp) _).alloc (by simp; omega) _
  refine ⟨_, rfl, by simp, tabIs_below hspace hb3, ?_⟩
  intro w4 m hmm hb hm
  have hmB : w.heap.size + 1 + 1 < m := by rw [hmm]; simp
  have q0 : Boxed (((w.alloc (.cells #[.slice none 0 0] 30)).alloc (.cells #[.int .i64 0] 3)).alloc (.cells #[.int .i64 0] 23)) w.heap.size 30 (.slice none 0 0) := ((Boxed.new w _ _).alloc _).alloc _
  have q1 := ((Boxed.new (w.alloc (.cells #[.slice none 0 0] 30)) 3 (.int .i64 0)).alloc (.cells #[.int .i64 0] 23))
  have q2 := Boxed.new ((w.alloc (.cells #[.slice none 0 0] 30)).alloc (.cells #[.int .i64 0] 3)) 23 (.int .i64 0)
  rw [World.size_alloc] at q1
  rw [World.size_alloc, World.size_alloc] at q2
  have hz : w.heap.size + 1 + 1 + 1 ≤ w4.heap.size := by have := hb.size; simpa using this
  have hbw : Below w.heap.size w w4 := hb3.trans (hb.mono (by simp; omega))
  have hc : (w4.alloc (.cells #[.string s, .int .i64 0, .int .i64 0, .map (some m)] 58)).heap[w4.heap.size]? = some (.cells #[.string s, .int .i64 0, .int .i64 0, .map (some m)] 58) := World.alloc_heap_new w4 _
  have g4 := World.grownBy_alloc w4 (.cells #[.string s, .int .i64 0, .int .i64 0, .map (some m)] 58) none
  have hlm : m < w4.heap.size := by
    obtain ⟨es, clock, hb, _⟩ := hm
    exact (Array.getElem?_eq_some_iff.1 hb).1
  obtain ⟨t0, f0, hs0⟩ := hsy.block
  have hl0 : 0 < w.heap.size := (Array.getElem?_eq_some_iff.1 hs0).1
  have hlu := utf8_lt hu
  have hl8 : 8 < w.heap.size := by
    have h := hpo
    unfold Pow10 Lib.TabIs World.var? at h
    rw [pow10_at] at h
    simp only [Option.bind_some] at h
    rcases Nat.lt_or_ge 8 w.heap.size with h1 | h1
    · exact h1
    · rw [Array.getElem?_eq_none h1] at h
      cases h
  refine ⟨⟨0, by rw [Lib.cell_of_heap hc]; rfl, by rw [Lib.cell_of_heap hc]; rfl, by rw [Lib.cell_of_heap hc]; rfl, by rw [Lib.cell_of_heap hc]; rfl, fun j => Lib.frozen_of_heap hc j⟩,
    ⟨?_, ?_, hm.alloc _, hlm, by omega, by omega, ?_, by omega, by omega⟩, ⟨.slice none 0 0, (boxed_below q0 hb (by simp; omega)).alloc _, World.ownsRow_nil _ _ _ _⟩, (boxed_below q1 hb (by simp)).alloc _, (boxed_below q2 hb (by simp)).alloc _, hbw.alloc (by omega) _, hmB, hl0, hl8, (utf8_lt hu).1, (utf8_lt hu).2⟩
  · exact ⟨t0, f0, ((hbw.alloc (by omega) _).block _ hl0).trans hs0⟩
  · exact tabIs_below hpo (hbw.alloc (by omega) _)
  · exact utf8_below hu (hbw.alloc (by omega) _)

end Tk
end Go.Proofs.YtlpcpnbjpbhlgaaGreatDoor
