/- Scan of a text that has no error: the walk. -/
import Derived.Test.YtlpcpnbjpbhlgaaGreatDoorB11
namespace Go.Proofs.YtlpcpnbjpbhlgaaGreatDoor
open Go.ChangeShapes Go.WideShapes Go.ChangeAt Go.RowKit Go.WideMaps Go.Maps
namespace Tk

theorem new_cells (W : World) (o1 : Obj) (vs : List Value) (t : TypeId) : ∀ j u, vs[j]? = some u → ((W.alloc o1).alloc (.cells vs.toArray t)).cell? ((⟨W.heap.size + 1, 0, none⟩ : Addr).add j) = some u := by
  intro j u h
  have hb := World.alloc_heap_new (W.alloc o1) (.cells vs.toArray t)
  rw [World.size_alloc] at hb
  rw [show ((⟨W.heap.size + 1, 0, none⟩ : Addr).add j) = ⟨W.heap.size + 1, j, none⟩ by simp [Addr.add]; exact fun h => h.symm, Lib.cell_of_heap hb]
  simpa using h

theorem ownsRow_base {w : World} {base base' : Nat} {e : TypeId} {size n : Nat} {v : Value} {xs : List Value} (h : w.ownsRow base e size v n xs) (hb : base' ≤ base) : w.ownsRow base' e size v n xs := by
  refine ⟨h.1, ?_⟩
  rcases h.2 with h1 | ⟨g, cap, cur, h1, h2, h3⟩
  · exact .inl h1
  · exact .inr ⟨g, cap, cur, h1, Nat.le_trans hb h2, h3⟩

theorem row_kept {w w' : World} {base : Nat} {e : TypeId} {size n : Nat} {v : Value} {xs : List Value} {r : Nat} (h : w.ownsRow base e size v n xs) (hg : w.grownBy w' (some r)) (hr : r < base) : w'.ownsRow base e size v n xs := by
  refine h.kept hg ?_
  cases ho : v.ownBlock with
  | none => exact .inl rfl
  | some k =>
    right
    have := (h.lt k ho).1
    intro e
    have := Option.some.inj e
    omega

theorem feedB_end (s : ByteArray) (p : Nat) : feedB s p s.size = true := by unfold feedB; simp

set_option maxHeartbeats 4000000 in
set_option maxRecDepth 100000 in
theorem scan_any (w : World) (s : ByteArray) (ts : List Tok) (hs : s.size ≤ 20000) (hT : Toks s 0 true ts) (hspace : Lib.TabIs Tryz.prog w "strings.asciiSpace" .u8 Lib.asciiSpaceTab) (hsy : Syms w) (hpo : Pow10 w) (hu : Utf8T w) :
    Calls Tryz.prog 15 #[.string s] w fun e w' => ∃ v, e = .returned (.tuple #[v, .int .i64 0, .int .i64 0]) ∧ w'.ownsRow w.heap.size 34 4 v ts.length (cellsOf ts) ∧ Below w.heap.size w w' := by
  have hmf : ∀ (fn : Fn) (first cap : Array Value) (w : World), (Instr.makeFunc fn first cap).run Tryz.prog w = .ok (.func fn first cap) w := fun _ _ _ _ => rfl
  have hsi : (s.size : Int) ≤ 20000 := by omega
  obtain ⟨w3, hw3, hs3, hsp3, hstart⟩ := scan_start w s hspace hsy hpo hu
  have HW3 := Lib.hid hw3
  have HS3 := Lib.hid hs3
  have HT := Lib.hid hT
  have HSt := Lib.hid hstart
  clear hw3 hspace hsy hpo hu hT hs3 hstart
  go_enter_defers Tryz.func15, Tryz.ntmps15
  go_wp2_with (go_at_call 27; rw [← HW3.out]; refine (keywordSet_any w3 hsp3).mono ?_; rintro e w4 ⟨rfl, hown4, hb4⟩)
  have HS0 := Lib.hid (HSt.out w4 _ rfl hb4 hown4)
  have hz4 := hb4.size
  clear hown4 hb4 hsp3
  obtain ⟨c, hc⟩ : ∃ c, c = w4.heap.size := ⟨_, rfl⟩
  obtain ⟨m, hm⟩ : ∃ m, m = w3.heap.size := ⟨_, rfl⟩
  obtain ⟨w5, hw5⟩ : ∃ w5, w5 = w4.alloc (.cells #[.string s, .int .i64 0, .int .i64 0, .map (some w3.heap.size)] 58) := ⟨_, rfl⟩
  rw [← hw5, ← hc, ← hm] at HS0
  rw [← hw5, ← hc]
  clear hw5 hc hm
  go_loopw [] (fun wr => ∃ (p : Nat) (done ts' : List Tok), p ≤ s.size ∧ done.length ≤ p ∧ ScanI w w.heap.size c m s p done wr ∧ Toks s p done.isEmpty ts' ∧ done ++ ts' = ts) (fun wr => s.size - posOf wr c)
  case atStart => exact ⟨0, [], ts, Nat.zero_le _, Nat.le_refl _, HS0.out, HT.out, rfl⟩
  case round =>
    obtain ⟨p, done, ts', hp, hdp, hI, htk, hts⟩ := hrel
    clear HS0 HT
    obtain ⟨st, hcur⟩ := hI.cur
    obtain ⟨ao, cap, hv, hrow⟩ := hI.shape
    have HI := Lib.hid hI
    have HC := Lib.hid hcur
    have HTS := Lib.hid hts
    have hmc := hI.env.mc
    have hbm := hI.bm
    clear hI hcur hts
    cases htk with
    | last _ _ h =>
      have HV := Lib.hid hv
      have HRow := Lib.hid hrow
      have HK := Lib.hid h
      clear hv hrow h
      go_wp2_with fail
      refine (skip_any _ c s st p s.size m HC.out hs hp HK.out).mono ?_
      rintro e w1 ⟨he, ⟨st1, hc1⟩, hg1⟩
      rw [feedB_end] at he
      subst he
      have HI1 := Lib.hid (HI.out.kept hg1 ⟨st1, hc1⟩)
      have HV1 : Hid (Boxed w1 w.heap.size 30 (.slice ao done.length cap)) := HV.out.kept hg1 (by intro e; have := Option.some.inj e; omega)
      have HR1 : Hid (w1.ownsRow (c + 1) 34 4 (.slice ao done.length cap) done.length (cellsOf done)) := row_kept HRow.out hg1 (by omega)
      have c2 := hc1.pos
      have x0 := HV1.out.cell
      have f0 := HV1.out.frozen
      have x1 := HI1.out.place.cell
      have f1 := HI1.out.place.frozen
      have x2 := HI1.out.code.cell
      have f2 := HI1.out.code.frozen
      clear hc1 hg1
      go_wp2_with fail
      obtain ⟨wa, hwa⟩ : ∃ wa, wa = w1.setCell ⟨w.heap.size, 0, none⟩ (.slice ao done.length cap) := ⟨_, rfl⟩
      obtain ⟨wb, hwb⟩ : ∃ wb, wb = wa.setCell ⟨w.heap.size + 1, 0, none⟩ (.int .i64 0) := ⟨_, rfl⟩
      obtain ⟨wf, hwf⟩ : ∃ wf, wf = wb.setCell ⟨w.heap.size + 1 + 1, 0, none⟩ (.int .i64 0) := ⟨_, rfl⟩
      rw [← hwa, ← hwb, ← hwf]
      have g1 : w1.grownBy wa (some w.heap.size) := by rw [hwa]; exact grown_set w1 ⟨w.heap.size, 0, none⟩ _
      have g2 : wa.grownBy wb (some (w.heap.size + 1)) := by rw [hwb]; exact grown_set wa ⟨w.heap.size + 1, 0, none⟩ _
      have g3 : wb.grownBy wf (some (w.heap.size + 1 + 1)) := by rw [hwf]; exact grown_set wb ⟨w.heap.size + 1 + 1, 0, none⟩ _
      have q0 : Boxed wa w.heap.size 30 (.slice ao done.length cap) := by rw [hwa]; exact HV1.out.set _
      have q1 : Boxed wb (w.heap.size + 1) 3 (.int .i64 0) := by rw [hwb]; exact (HI1.out.place.kept g1 (by simp)).set _
      have q2 : Boxed wf (w.heap.size + 1 + 1) 23 (.int .i64 0) := by rw [hwf]; exact ((HI1.out.code.kept g1 (by simp; omega)).kept g2 (by simp)).set _
      have y0 := ((q0.kept g2 (by simp)).kept g3 (by simp; omega)).cell
      have y1 := (q1.kept g3 (by simp)).cell
      have y2 := q2.cell
      have hbl : Below w.heap.size w wf := by
        rw [hwf, hwb, hwa]
        exact ((HI1.out.below.setCell (p := ⟨w.heap.size, 0, none⟩) (Nat.le_refl _) _).setCell (p := ⟨w.heap.size + 1, 0, none⟩) (by simp) _).setCell (p := ⟨w.heap.size + 1 + 1, 0, none⟩) (by simp; omega) _
      have hrf := ownsRow_base (row_kept (row_kept (row_kept HR1.out g1 (by omega)) g2 (by omega)) g3 (by omega)) (show w.heap.size ≤ c + 1 by omega)
      have hdone : done = ts := by have := HTS.out; rwa [List.append_nil] at this
      refine leaves_cons (f := 26) (args := #[.pointer (some ⟨w.heap.size, 0, none⟩), .pointer (some ⟨w.heap.size + 1, 0, none⟩), .pointer (some ⟨w.heap.size + 1 + 1, 0, none⟩)]) (by simp) (by simp [go_sem]) ?_
      refine (caught_idle ⟨w.heap.size, 0, none⟩ ⟨w.heap.size + 1, 0, none⟩ ⟨w.heap.size + 1 + 1, 0, none⟩ _).mono ?_
      rintro e u' w'' ⟨rfl, rfl, rfl⟩
      refine ⟨.tuple #[.slice ao done.length cap, .int .i64 0, .int .i64 0], by simp [results, Tryz.results15, go_sem, y0, y1, y2], _, rfl, ?_, hbl⟩
      rw [← hdone]
      exact hrf
    | tok _ _ b k tx q ts'' h hb hr h1 h2 hn =>
      have HV := Lib.hid hv
      have HRow := Lib.hid hrow
      have HK := Lib.hid h
      have hpb := h.le
      have HR := Lib.hid hr
      have HN := Lib.hid hn
      clear hv hrow h hr hn
      have hfl : ((done.length : Int) == 0) = done.isEmpty := by cases done <;> simp; omega
      obtain ⟨fb, hfb⟩ : ∃ fb, fb = feedB s p b := ⟨_, rfl⟩
      have HFB := Lib.hid hfb
      have i1 : ((b : Int) == s.size) = false := by simp; omega
      go_wp2_with fail
      refine (skip_any _ c s st p b m HC.out hs hp HK.out).mono ?_
      rintro e w1 ⟨he, ⟨st1, hc1⟩, hg1⟩
      rw [← hfb] at he
      subst he
      clear hfb
      have HI1 := Lib.hid (HI.out.kept hg1 ⟨st1, hc1⟩)
      have HV1 : Hid (Boxed w1 w.heap.size 30 (.slice ao done.length cap)) := HV.out.kept hg1 (by intro e; have := Option.some.inj e; omega)
      have HR1 : Hid (w1.ownsRow (c + 1) 34 4 (.slice ao done.length cap) done.length (cellsOf done)) := row_kept HRow.out hg1 (by omega)
      have HC1 := Lib.hid hc1
      have c2 := hc1.pos
      have x0 := HV1.out.cell
      clear hc1 hg1
      obtain ⟨ln, hln⟩ : ∃ ln : Bool, ln = (fb || done.isEmpty) := ⟨_, rfl⟩
      have HLN := Lib.hid hln
      obtain ⟨i0, hi, hz0, hz1, hz2⟩ := info_parts infoTok
      cases fb
      case true =>
        simp only [Bool.true_or] at hln
        subst hln
        go_wp2_with (go_at_call 29; refine (HR.out _ c st1 m HC1.out HI1.out.env).mono ?_; rintro e w2 ⟨g, lb, rfl, eg, hg2, hcl⟩)
        refine hcl.mono ?_
        rintro e w3' ⟨rfl, hC3, hg3⟩
        have hg23 := hg2.trans hg3
        have HI3 := Lib.hid (HI1.out.kept hg23 ⟨b, hC3⟩)
        have HV3 : Hid (Boxed w3' w.heap.size 30 (.slice ao done.length cap)) := HV1.out.kept hg23 (by intro e; have := Option.some.inj e; omega)
        have HR3 : Hid (w3'.ownsRow (c + 1) 34 4 (.slice ao done.length cap) done.length (cellsOf done)) := row_kept HR1.out hg23 (by omega)
        have HC3 := Lib.hid hC3
        have hlt3 := hC3.lt
        clear hcl eg hC3 hg2 hg3 hg23 c2 x0 hfl
        have x1 : ∀ o1, (w3'.alloc o1).cell? ⟨w.heap.size, 0, none⟩ = some (.slice ao done.length cap) := fun o1 => (HV3.out.alloc o1).cell
        have x2 : ∀ o1 o2, ((w3'.alloc o1).alloc o2).cell? ⟨w.heap.size, 0, none⟩ = some (.slice ao done.length cap) := fun o1 o2 => ((HV3.out.alloc o1).alloc o2).cell
        have ht : tokV k tx = .agg #[.int .i64 k, .string tx, .int .i64 0, .bool false] := rfl
        rw [ht]
        go_wp2_with (at_builtin; refine wpList_append_own _ rfl _ _ 30 rfl (c + 1) 34 i0 zeroTok 4 40 Tryz.underlying30 hi hz0 hz1 hz2 rfl (by decide) _ _ _ rfl ((HR3.out.alloc _).alloc _) ⟨w3'.heap.size + 1, 0, none⟩ 1 1 [.int .i64 k, .string tx, .int .i64 b, .bool true] rfl rfl (new_cells w3' _ _ _) (by intro u hu; simp at hu; rcases hu with rfl | rfl | rfl | rfl <;> rfl) (by unfold maxLen; omega) (by omega) (by simp; omega) ?_)
        intro v' w5 hown' hgrow _
        obtain ⟨g', cap', rfl⟩ := ownsRow_succ hown'
        have hU := (HI3.out.alloc (.cells #[.int .i64 k, .string tx, .int .i64 b, .bool true] 34)).alloc (.cells #[.int .i64 k, .string tx, .int .i64 b, .bool true] 34)
        have hP := hU.put (t := ⟨k, tx, b, true⟩) ((HV3.out.alloc _).alloc _) ((HR3.out.alloc _).alloc _) hgrow hown'
        have hv5 : Boxed w5 w.heap.size 30 (.slice ao done.length cap) := ((HV3.out.alloc _).alloc _).kept hgrow (by intro e; have := (HR3.out.lt _ e.symm).1; omega)
        have HP := Lib.hid hP
        have x5 := hv5.cell
        have f5 := hv5.frozen
        clear hown' hgrow hU hP hv5 x1 x2
        go_wp2_with fail
        obtain ⟨st5, hc5⟩ := HP.out.cur
        refine ⟨⟨q, done ++ [⟨k, tx, b, true⟩], ts'', h2, ?_, HP.out, ?_, ?_⟩, ?_⟩
        · rw [List.length_append]
          simp
          omega
        · rw [show (done ++ [(⟨k, tx, b, true⟩ : Tok)]).isEmpty = false by cases done <;> rfl]
          exact HN.out
        · rw [List.append_assoc]
          have := HTS.out
          rw [← HFB.out] at this
          exact this
        · rw [hc5.posOf, HC.out.posOf]
          omega
      case false =>
        simp only [Bool.false_or] at hln
        rw [← hln] at hfl
        clear hln
        go_wp2_with (go_at_call 29; refine (HR.out _ c st1 m HC1.out HI1.out.env).mono ?_; rintro e w2 ⟨g, lb, rfl, eg, hg2, hcl⟩)
        refine hcl.mono ?_
        rintro e w3' ⟨rfl, hC3, hg3⟩
        have hg23 := hg2.trans hg3
        have HI3 := Lib.hid (HI1.out.kept hg23 ⟨b, hC3⟩)
        have HV3 : Hid (Boxed w3' w.heap.size 30 (.slice ao done.length cap)) := HV1.out.kept hg23 (by intro e; have := Option.some.inj e; omega)
        have HR3 : Hid (w3'.ownsRow (c + 1) 34 4 (.slice ao done.length cap) done.length (cellsOf done)) := row_kept HR1.out hg23 (by omega)
        have HC3 := Lib.hid hC3
        have hlt3 := hC3.lt
        clear hcl eg hC3 hg2 hg3 hg23 c2 x0 hfl
        have x1 : ∀ o1, (w3'.alloc o1).cell? ⟨w.heap.size, 0, none⟩ = some (.slice ao done.length cap) := fun o1 => (HV3.out.alloc o1).cell
        have x2 : ∀ o1 o2, ((w3'.alloc o1).alloc o2).cell? ⟨w.heap.size, 0, none⟩ = some (.slice ao done.length cap) := fun o1 o2 => ((HV3.out.alloc o1).alloc o2).cell
        have ht : tokV k tx = .agg #[.int .i64 k, .string tx, .int .i64 0, .bool false] := rfl
        rw [ht]
        go_wp2_with (at_builtin; refine wpList_append_own _ rfl _ _ 30 rfl (c + 1) 34 i0 zeroTok 4 40 Tryz.underlying30 hi hz0 hz1 hz2 rfl (by decide) _ _ _ rfl ((HR3.out.alloc _).alloc _) ⟨w3'.heap.size + 1, 0, none⟩ 1 1 [.int .i64 k, .string tx, .int .i64 b, .bool ln] rfl rfl (new_cells w3' _ _ _) (by intro u hu; simp at hu; rcases hu with rfl | rfl | rfl | rfl <;> rfl) (by unfold maxLen; omega) (by omega) (by simp; omega) ?_)
        intro v' w5 hown' hgrow _
        obtain ⟨g', cap', rfl⟩ := ownsRow_succ hown'
        have hU := (HI3.out.alloc (.cells #[.int .i64 k, .string tx, .int .i64 b, .bool ln] 34)).alloc (.cells #[.int .i64 k, .string tx, .int .i64 b, .bool ln] 34)
        have hP := hU.put (t := ⟨k, tx, b, ln⟩) ((HV3.out.alloc _).alloc _) ((HR3.out.alloc _).alloc _) hgrow hown'
        have hv5 : Boxed w5 w.heap.size 30 (.slice ao done.length cap) := ((HV3.out.alloc _).alloc _).kept hgrow (by intro e; have := (HR3.out.lt _ e.symm).1; omega)
        have HP := Lib.hid hP
        have x5 := hv5.cell
        have f5 := hv5.frozen
        clear hown' hgrow hU hP hv5 x1 x2
        go_wp2_with fail
        obtain ⟨st5, hc5⟩ := HP.out.cur
        refine ⟨⟨q, done ++ [⟨k, tx, b, ln⟩], ts'', h2, ?_, HP.out, ?_, ?_⟩, ?_⟩
        · rw [List.length_append]
          simp
          omega
        · rw [show (done ++ [(⟨k, tx, b, ln⟩ : Tok)]).isEmpty = false by cases done <;> rfl]
          exact HN.out
        · rw [List.append_assoc]
          have := HTS.out
          rw [← HFB.out] at this
          rw [← HLN.out] at this
          exact this
        · rw [hc5.posOf, HC.out.posOf]
          omega

end Tk
end Go.Proofs.YtlpcpnbjpbhlgaaGreatDoor
