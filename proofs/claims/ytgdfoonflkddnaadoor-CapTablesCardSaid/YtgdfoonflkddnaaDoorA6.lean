/- From the row's condition to the tables. -/
import Derived.Test.YtgdfoonflkddnaaDoorA5
import Derived.Test.YtgdfoonflkddnaaDoorRows
import Derived.LaidMore
import Derived.OpenShut
import Derived.Lib.LaidTab
import Derived.Stop.Joined
namespace Go.Proofs.YtgdfoonflkddnaaDoor
open Go.ChangeShapes Go.WideShapes Go.ChangeAt Go.RowKit
namespace Cp

def fitLL : List (List Int) := [[0, 0, 0], [518, 1023, 516], [816, 1016, 800], [832, 832, 832], [896, 896, 896], [768, 768, 768], [512, 512, 512]]
def markLL : List (List Int) := [[0, 0, 0], [2, 1, 4], [16, 8, 32], [64, 64, 64], [128, 128, 128], [256, 256, 256], [512, 512, 512]]
def viewLL : List (List Int) := [[0, 0, 0, 0, 0, 0, 0], [0, 1, 6, 6, 4, 6, 6], [0, 1, 2, 5, 4, 5, 6], [0, 1, 2, 3, 4, 5, 6], [0, 4, 4, 4, 4, 4, 6], [0, 6, 5, 5, 4, 5, 6], [0, 0, 0, 0, 0, 0, 0]]

theorem laidVars_mem {P : Program} {w : World} {name : String} {d : DataW Unit} :
    ∀ {l : List (String × DataW Unit)} {ps : List MemPlace}, DataW.LaidVars P w l ps → (name, d) ∈ l →
      ∃ g t cs fuel p, P.globalNamed name = some g ∧ (P.globals[g]?).map (·.type) = some t ∧ w.var? P name = some cs ∧
        DataW.trod (fun _ => ()) P w 0 (fun _ => true) false fuel t cs.toList = some (d, p)
  | [], _, _, hm => by cases hm
  | (n, e) :: r, ps, h, hm => by
    obtain ⟨g, t, cs, fuel, p, q, h1, h2, h3, h4, h5, _⟩ := h
    rcases List.mem_cons.1 hm with hm | hm
    · cases hm
      exact ⟨g, t, cs, fuel, p, h1, h2, h3, h4⟩
    · exact laidVars_mem h5 hm

theorem tabAt_of {P : Program} {w : World} {name : String} {g : Nat} {l : List Int} (hg : P.globalNamed name = some g) {cs : Array Value} (hv : w.var? P name = some cs)
    (hc : cs.toList = l.map (Value.int .i64)) : TabAt g l w := fun i hi => by
  have := World.var?_cell hg hv i
  rw [this, ← Array.getElem?_toList, hc]
  simp [hi]

theorem tab1 {w : World} {l : List (String × DataW Unit)} (h : laidMetH Tryd.prog l w) (hp : (l.all fun x => x.2.handleName?.isNone) = true) {name : String} {zs : List Int} (hm : (name, Lib.tabData .i64 zs) ∈ l)
    {g t e n : Nat} (hg : Tryd.prog.globalNamed name = some g) (hty : (Tryd.prog.globals[g]?).map (·.type) = some t) (ht : Tryd.prog.underlying t = some (.array n e)) (he : Tryd.prog.underlying e = some (.int .i64))
    (hce : Tryd.prog.cellsOf e = 1) (hct : Tryd.prog.cellsOf t = n) : TabAt g zs w := by
  rw [MakeChecks.laidMetH_plain _ _ _ hp] at h
  obtain ⟨ps, hl, _⟩ := h
  obtain ⟨g', t', cs, fuel, p, h1, h2, h3, h4⟩ := laidVars_mem hl hm
  obtain rfl := Option.some.inj (hg.symm.trans h1)
  obtain rfl := Option.some.inj (hty.symm.trans h2)
  exact tabAt_of hg h3 (Lib.cells_of_tab ht he hce hct h4)

theorem chunks (m : Nat) (f : Int → Value) : ∀ (zss : List (List Int)) (c : List Value), c.length = zss.length * m →
    (∀ i, i < zss.length → (c.drop (i * m)).take m = (zss.getD i []).map f) → c = zss.flatten.map f
  | [], c, hl, _ => by
    simp at hl
    simp [hl]
  | z :: zss, c, hl, hk => by
    have h0 := hk 0 (by simp)
    simp only [Nat.zero_mul, List.drop_zero, List.getD_cons_zero] at h0
    have hr := chunks m f zss (c.drop m) (by simp [hl, Nat.add_mul]) (fun i hi => by
      have h1 := hk (i + 1) (by simpa using hi)
      rw [List.drop_drop, show m + i * m = (i + 1) * m by rw [Nat.add_mul, Nat.one_mul, Nat.add_comm], h1]
      rfl)
    rw [List.flatten_cons, List.map_append, ← h0, ← hr, List.take_append_drop]

theorem tab2 {w : World} {l : List (String × DataW Unit)} (h : laidMetH Tryd.prog l w) (hp : (l.all fun x => x.2.handleName?.isNone) = true) {name : String} {zss : List (List Int)} (hm : (name, .agg (zss.map (Lib.tabData .i64))) ∈ l)
    {g t r e n m : Nat} (hg : Tryd.prog.globalNamed name = some g) (hty : (Tryd.prog.globals[g]?).map (·.type) = some t) (ht : Tryd.prog.underlying t = some (.array n r)) (hr : Tryd.prog.underlying r = some (.array m e)) (he : Tryd.prog.underlying e = some (.int .i64))
    (hce : Tryd.prog.cellsOf e = 1) (hcr : Tryd.prog.cellsOf r = m) (hct : Tryd.prog.cellsOf t = n * m) : TabAt g zss.flatten w := by
  rw [MakeChecks.laidMetH_plain _ _ _ hp] at h
  obtain ⟨ps, hl, _⟩ := h
  obtain ⟨g', t', cs, fuel, p, h1, h2, h3, h4⟩ := laidVars_mem hl hm
  obtain rfl := Option.some.inj (hg.symm.trans h1)
  obtain rfl := Option.some.inj (hty.symm.trans h2)
  refine tabAt_of hg h3 ?_
  obtain ⟨xs, k, rfl, hx, hlen, hn, hel⟩ := DataW.trod_array ht h4
  simp only [Prod.mk.injEq, DataW.agg.injEq] at hx
  have hz : zss.length = n := by
    have := congrArg List.length hx.1
    simpa [hn] using this
  have key : ∀ i, i < n → (cs.toList.drop (i * m)).take m = (zss.getD i []).map (Value.int .i64) := fun i hi => by
    have h5 := hel i hi
    rw [hcr] at h5
    obtain ⟨y, hy⟩ : ∃ y, xs[i]? = some y := ⟨xs[i], by simp [hn, hi]⟩
    rw [hy] at h5
    have h6 : (xs.map (·.1))[i]? = some y.1 := by simp [hy]
    rw [← hx.1] at h6
    simp only [List.getElem?_map, Option.map_eq_some_iff] at h6
    obtain ⟨zs, hzs, hyz⟩ := h6
    have h7 : DataW.trod (fun _ => ()) Tryd.prog w 0 (fun _ => true) false k r ((cs.toList.drop (i * m)).take m) = some (Lib.tabData .i64 zs, y.2) := by rw [h5, hyz]
    have := Lib.cells_of_tab hr he hce hcr h7
    rw [this, List.getD_eq_getElem?_getD, hzs]
    rfl
  have len : cs.toList.length = n * m := by rw [hlen, hct]
  exact chunks m _ zss _ (by rw [len, hz]) (fun i hi => key i (by omega))


section
variable {w : World} {l : List (String × DataW Unit)} (h : laidMetH Tryd.prog l w) (hp : (l.all fun x => x.2.handleName?.isNone) = true)
include h hp
theorem fit_of (hm : ("hackamore/cap.fitting", Rows.laid_hackamore_cap_fitting) ∈ l) : TabAt 2 fitL w := by
  have := tab2 h hp (zss := fitLL) hm (g := 2) (t := 54) (r := 53) (e := 3) (n := 7) (m := 3) (by kernel_rfl) (by kernel_rfl) (by kernel_rfl) (by kernel_rfl) (by kernel_rfl) (by kernel_rfl) (by kernel_rfl) (by kernel_rfl)
  rwa [show fitLL.flatten = fitL from rfl] at this
theorem mark_of (hm : ("hackamore/cap.marked", Rows.laid_hackamore_cap_marked) ∈ l) : TabAt 3 markL w := by
  have := tab2 h hp (zss := markLL) hm (g := 3) (t := 54) (r := 53) (e := 3) (n := 7) (m := 3) (by kernel_rfl) (by kernel_rfl) (by kernel_rfl) (by kernel_rfl) (by kernel_rfl) (by kernel_rfl) (by kernel_rfl) (by kernel_rfl)
  rwa [show markLL.flatten = markL from rfl] at this
theorem view_of (hm : ("hackamore/cap.views", Rows.laid_hackamore_cap_views) ∈ l) : TabAt 5 viewL w := by
  have := tab2 h hp (zss := viewLL) hm (g := 5) (t := 56) (r := 55) (e := 3) (n := 7) (m := 7) (by kernel_rfl) (by kernel_rfl) (by kernel_rfl) (by kernel_rfl) (by kernel_rfl) (by kernel_rfl) (by kernel_rfl) (by kernel_rfl)
  rwa [show viewLL.flatten = viewL from rfl] at this
theorem rec_of (hm : ("hackamore/cap.recovered", Rows.laid_hackamore_cap_recovered) ∈ l) : TabAt 4 recL w :=
  tab1 h hp (zs := recL) hm (g := 4) (t := 55) (e := 3) (n := 7) (by kernel_rfl) (by kernel_rfl) (by kernel_rfl) (by kernel_rfl) (by kernel_rfl) (by kernel_rfl)
theorem stor_of (hm : ("hackamore/cap.storable", Rows.laid_hackamore_cap_storable) ∈ l) : TabAt 6 storL w :=
  tab1 h hp (zs := storL) hm (g := 6) (t := 55) (e := 3) (n := 7) (by kernel_rfl) (by kernel_rfl) (by kernel_rfl) (by kernel_rfl) (by kernel_rfl) (by kernel_rfl)
theorem bes_of (hm : ("hackamore/cap.besides", Rows.laid_hackamore_cap_besides) ∈ l) : TabAt 7 besL w :=
  tab1 h hp (zs := besL) hm (g := 7) (t := 55) (e := 3) (n := 7) (by kernel_rfl) (by kernel_rfl) (by kernel_rfl) (by kernel_rfl) (by kernel_rfl) (by kernel_rfl)
theorem els_of (hm : ("hackamore/cap.elsewhere", Rows.laid_hackamore_cap_elsewhere) ∈ l) : TabAt 8 elsL w :=
  tab1 h hp (zs := elsL) hm (g := 8) (t := 55) (e := 3) (n := 7) (by kernel_rfl) (by kernel_rfl) (by kernel_rfl) (by kernel_rfl) (by kernel_rfl) (by kernel_rfl)
end

end Cp
end Go.Proofs.YtgdfoonflkddnaaDoor
