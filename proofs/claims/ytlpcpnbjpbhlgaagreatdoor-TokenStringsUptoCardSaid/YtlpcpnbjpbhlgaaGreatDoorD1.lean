/- From the row's condition and the world's shape to what the walks read. -/
import Derived.Test.YtlpcpnbjpbhlgaaGreatDoorC11
import Derived.Test.YtlpcpnbjpbhlgaaGreatDoorRows
import Derived.PinnedBridge
import Derived.Lib.LaidU8T
import Derived.OpenShut
namespace Go.Proofs.YtlpcpnbjpbhlgaaGreatDoor
open Go.ChangeShapes Go.WideShapes Go.ChangeAt Go.RowKit
namespace Tk

theorem tabIs_of {P : Program} {w : World} {name : String} {k : IntKind} {zs : List Int} {g t e n : Nat} (hg : P.globalNamed name = some g) (hty : (P.globals[g]?).map (·.type) = some t)
    (ht : P.underlying t = some (.array n e)) (he : P.underlying e = some (.int k)) (hce : P.cellsOf e = 1) (hct : P.cellsOf t = n) (h : Lib.VarReads P w name (Lib.tabData k zs)) : Lib.TabIs P w name k zs := by
  obtain ⟨g', t', cs, fuel, p, h1, h2, h3, h4⟩ := h
  obtain rfl := Option.some.inj (hg.symm.trans h1)
  obtain rfl := Option.some.inj (hty.symm.trans h2)
  unfold Lib.TabIs
  rw [h3, ← Lib.cells_of_tab ht he hce hct h4]

theorem symData_eq : (Rows.laid_hackamore_token_symbols : DataW Unit) = .agg (symL.map fun l => .lit (.string l)) := by kernel_rfl

theorem syms_of {w : World} (h : Lib.VarReads Tryz.prog w "hackamore/token.symbols" Rows.laid_hackamore_token_symbols) : Syms w := by
  obtain ⟨g, t, cs, fuel, p, h1, h2, h3, h4⟩ := h
  have hg : Tryz.prog.globalNamed "hackamore/token.symbols" = some 0 := by kernel_rfl
  have hty : (Tryz.prog.globals[0]?).map (·.type) = some 50 := by kernel_rfl
  obtain rfl := Option.some.inj (hg.symm.trans h1)
  obtain rfl := Option.some.inj (hty.symm.trans h2)
  rw [symData_eq] at h4
  obtain ⟨xs, k, rfl, hx, hlen, hn, hel⟩ := DataW.trod_array Tryz.underlying50 h4
  have c9 : Tryz.prog.cellsOf 9 = 1 := by kernel_rfl
  have c50 : Tryz.prog.cellsOf 50 = 43 := by kernel_rfl
  rw [c9] at hel
  rw [c50] at hlen
  simp only [Prod.mk.injEq, DataW.agg.injEq] at hx
  have key : ∀ i, i < 43 → cs[i]? = symCells[i]? := fun i hi => by
    obtain ⟨y, hy⟩ : ∃ y, xs[i]? = some y := ⟨xs[i], by simp [hn, hi]⟩
    have h5 := hel i hi
    rw [hy] at h5
    obtain ⟨s, hs, hys, _⟩ := DataW.trod_string Tryz.underlying9 h5
    have h6 : (xs.map (·.1))[i]? = some y.1 := by simp [hy]
    rw [← hx.1, hys] at h6
    have h7 : cs[i]? = some (.string s) := by
      have := congrArg (·[0]?) hs
      simpa [List.getElem?_take, List.getElem?_drop] using this
    have h8 : symL[i]? = some s.data.toList := by
      simp only [List.getElem?_map, Option.map_eq_some_iff] at h6
      obtain ⟨l, hl, he⟩ := h6
      simp only [DataW.lit.injEq, Lit.string.injEq] at he
      rw [hl, he]
    rw [h7]
    unfold symCells symB
    rw [← Array.getElem?_toList]
    simp only [List.getElem?_map, h8, Option.map_some]
  have hcs : cs = symCells := by
    have hsz : symCells.size = 43 := by kernel_rfl
    apply Array.ext_getElem?
    intro i
    by_cases hi : i < 43
    · exact key i hi
    · rw [Array.getElem?_eq_none (by rw [← Array.length_toList, hlen]; omega), Array.getElem?_eq_none (by rw [hsz]; omega)]
  subst hcs
  simp only [World.var?, hg, Option.bind_some] at h3
  split at h3
  · rename_i c t fr hh
    cases h3
    exact ⟨t, fr, hh⟩
  · cases h3

theorem u8Extra : Proofs.U8Extra Tryz.prog Tryz.lays196_ren := ⟨by kernel_rfl, by kernel_rfl, by kernel_rfl, by kernel_rfl, by kernel_rfl, by kernel_rfl, by kernel_rfl⟩

theorem asciiData_eq : (Rows.laid_strings_asciiSpace : DataW Unit) = Lib.tabData .u8 Lib.asciiSpaceTab := by kernel_rfl
theorem powData_eq : (Rows.laid_internal_strconv_uint64pow10 : DataW Unit) = Lib.tabData .u64 Lib.pow10Tab := by kernel_rfl
theorem accData_eq : (Rows.laid_unicode_utf8_acceptRanges : DataW Unit) = Lib.acceptData := by kernel_rfl

theorem law_env {w : World} (hL : laidMet Tryz.prog Rows.tokenNamesRow.laid w) (hsh : w.ShapedOpen Tryz.prog) : ∃ mm, LawEnv w mm := by
  obtain ⟨mm, hm⟩ := Tryz.laysM144.s1_3 w hsh
  refine ⟨mm, ?_, ?_, ?_, ?_, hm⟩
  · exact tabIs_of (g := 3) (t := 62) (e := 5) (n := 256) (by kernel_rfl) (by kernel_rfl) (by kernel_rfl) (by kernel_rfl) (by kernel_rfl) (by kernel_rfl) (asciiData_eq ▸ Lib.laidMet.reads hL (.tail _ (.tail _ (.tail _ (.tail _ (.tail _ (.head _)))))))
  · exact syms_of (Lib.laidMet.reads hL (.tail _ (.tail _ (.tail _ (.tail _ (.tail _ (.tail _ (.head _))))))))
  · exact tabIs_of (g := 8) (t := 149) (e := 77) (n := 20) (by kernel_rfl) (by kernel_rfl) (by kernel_rfl) (by kernel_rfl) (by kernel_rfl) (by kernel_rfl) (powData_eq ▸ Lib.laidMet.reads hL (.tail _ (.tail _ (.head _))))
  · exact Proofs.utf8Tabs_of_readsT (Proofs.U8Types.of196 Tryz.lays196) u8Extra (Pinned.utf8First_eq ▸ Lib.laidMet.reads hL (.tail _ (.tail _ (.tail _ (.tail _ (.tail _ (.tail _ (.tail _ (.head _))))))))) (accData_eq ▸ Lib.laidMet.reads hL (.tail _ (.tail _ (.tail _ (.head _)))))

end Tk
end Go.Proofs.YtlpcpnbjpbhlgaaGreatDoor
