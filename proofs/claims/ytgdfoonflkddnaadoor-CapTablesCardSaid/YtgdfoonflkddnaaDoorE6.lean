/- From the row's condition to the names and members. -/
import Derived.Test.YtgdfoonflkddnaaDoorE3
import Derived.Test.YtgdfoonflkddnaaDoorA6
namespace Go.Proofs.YtgdfoonflkddnaaDoor
open Go.ChangeShapes Go.WideShapes Go.ChangeAt Go.RowKit
namespace Cp

theorem names_of {w : World} {l : List (String × DataW Unit)} (h : laidMetH Tryd.prog l w) (hp : (l.all fun x => x.2.handleName?.isNone) = true) (hm : ("hackamore/cap.names", Rows.laid_hackamore_cap_names) ∈ l) : NamesAt w := by
  rw [MakeChecks.laidMetH_plain _ _ _ hp] at h
  obtain ⟨ps, hl, _⟩ := h
  obtain ⟨g, t, cs, fuel, p, h1, h2, h3, h4⟩ := laidVars_mem hl hm
  have hg : Tryd.prog.globalNamed "hackamore/cap.names" = some 0 := by kernel_rfl
  have hty : (Tryd.prog.globals[0]?).map (·.type) = some 50 := by kernel_rfl
  obtain rfl := Option.some.inj (hg.symm.trans h1)
  obtain rfl := Option.some.inj (hty.symm.trans h2)
  obtain ⟨xs, k, rfl, hx, hlen, hn, hel⟩ := DataW.trod_array Tryd.underlying50 h4
  have c9 : Tryd.prog.cellsOf 9 = 1 := by kernel_rfl
  have c50 : Tryd.prog.cellsOf 50 = 12 := by kernel_rfl
  rw [c9] at hel
  rw [c50] at hlen
  simp only [Prod.mk.injEq, Rows.laid_hackamore_cap_names, DataW.agg.injEq] at hx
  have key : ∀ i, i < 12 → cs[i]? = nmV[i]? := fun i hi => by
    obtain ⟨y, hy⟩ : ∃ y, xs[i]? = some y := ⟨xs[i], by simp [hn, hi]⟩
    have h5 := hel i hi
    rw [hy] at h5
    obtain ⟨s, hs, hys, _⟩ := DataW.trod_string Tryd.underlying9 h5
    have h6 : (xs.map (·.1))[i]? = some y.1 := by simp [hy]
    rw [← hx.1, hys] at h6
    have h7 : cs[i]? = some (.string s) := by
      have := congrArg (·[0]?) hs
      simpa [List.getElem?_take, List.getElem?_drop] using this
    rw [h7, nmV_at i hi]
    have h8 : ([[], [105, 115, 111], [116, 114, 110], [114, 101, 102], [118, 97, 108], [98, 111, 120], [116, 97, 103], [35, 114, 101, 97, 100], [35, 115, 101, 110, 100], [35, 115, 104, 97, 114, 101], [35, 97, 108, 105, 97, 115], [35, 97, 110, 121]] : List (List UInt8))[i]? = some s.data.toList := by
      have := congrArg (Option.map fun d : DataW Unit => match d with | .lit (.string l) => l | _ => []) h6
      simpa [← List.getElem?_map] using this
    have h9 : nmL[i]? = some s.data.toList := h8
    have : nmS i = s := by
      unfold nmS
      rw [List.getD_eq_getElem?_getD, h9]
      cases s
      simp
    rw [this]
  have hcs : cs = nmV := by
    apply Array.ext_getElem?
    intro i
    by_cases hi : i < 12
    · exact key i hi
    · rw [Array.getElem?_eq_none (by rw [← Array.length_toList, hlen]; omega), Array.getElem?_eq_none (by show 12 ≤ i; omega)]
  subst hcs
  simp only [World.var?, hg, Option.bind_some] at h3
  split at h3
  · rename_i c t fr hh
    cases h3
    exact ⟨t, fr, hh⟩
  · cases h3

theorem mem_of {w : World} {l : List (String × DataW Unit)} (h : laidMetH Tryd.prog l w) (hp : (l.all fun x => x.2.handleName?.isNone) = true) (hm : ("hackamore/cap.members", Rows.laid_hackamore_cap_members) ∈ l) : TabAt 1 memL w :=
  tab1 h hp (zs := memL) hm (g := 1) (t := 52) (e := 3) (n := 12) (by kernel_rfl) (by kernel_rfl) (by kernel_rfl) (by kernel_rfl) (by kernel_rfl) (by kernel_rfl)

end Cp
end Go.Proofs.YtgdfoonflkddnaaDoor
