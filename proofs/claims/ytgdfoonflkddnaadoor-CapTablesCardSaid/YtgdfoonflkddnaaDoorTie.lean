/-
  DERIVED. GIVEN WITH THE SEED: THE PROGRAM's TIES (one call each: nine closed facts by the kernel) AND EACH ROW's TIE, after the 31st guide's Derived/Test/Toyas{Tie, Card}.lean. No idea stands in it: it is a product of the set-up. Laid BY PROGRAM, IN A SANDBOX (cutbox-door.mjs). By AI agents, Wed Nov 11 2026. No macro, syntax, notation, axiom, sorry.
-/
import Derived.Test.YtgdfoonflkddnaaDoorRows
import Derived.LaidByTextLater
import Derived.SevenTiedAt
import Derived.LaidSub
import Derived.LaidOnce
namespace Go.Proofs.YtgdfoonflkddnaaDoor
open Go
set_option maxRecDepth 100000
theorem seatTie1 : Tryd.prog.laidByTextLater [("hackamore/cap.marked", Rows.laid_hackamore_cap_marked), ("hackamore/cap.fitting", Rows.laid_hackamore_cap_fitting), ("hackamore/cap.views", Rows.laid_hackamore_cap_views), ("hackamore/cap.names", Rows.laid_hackamore_cap_names), ("hackamore/cap.members", Rows.laid_hackamore_cap_members), ("hackamore/cap.storable", Rows.laid_hackamore_cap_storable), ("hackamore/cap.recovered", Rows.laid_hackamore_cap_recovered), ("hackamore/cap.besides", Rows.laid_hackamore_cap_besides), ("hackamore/cap.elsewhere", Rows.laid_hackamore_cap_elsewhere)] [.data, .data, .data, .data, .data, .data, .data, .data, .data] true :=
  Program.laidByTextLater_by_one 71 8 50 (by kernel_rfl) (by kernel_rfl) (by kernel_rfl) (by kernel_rfl) (by kernel_rfl) (by kernel_rfl) (fun _ _ => by kernel_rfl)
theorem noOwnUnsafe : Tryd.pinned.checked.prog.headLifts.contains "ownunsafe" = false := by kernel_rfl
theorem tie : Tryd.prog.laidByTextLater [("hackamore/cap.marked", Rows.laid_hackamore_cap_marked), ("hackamore/cap.fitting", Rows.laid_hackamore_cap_fitting), ("hackamore/cap.views", Rows.laid_hackamore_cap_views), ("hackamore/cap.names", Rows.laid_hackamore_cap_names), ("hackamore/cap.members", Rows.laid_hackamore_cap_members), ("hackamore/cap.recovered", Rows.laid_hackamore_cap_recovered)] [.data, .data, .data, .data, .data, .data] true :=
  Program.laidByTextLater.sub seatTie1 ["hackamore/cap.marked", "hackamore/cap.fitting", "hackamore/cap.views", "hackamore/cap.names", "hackamore/cap.members", "hackamore/cap.recovered"] (by kernel_rfl) (by kernel_rfl)
theorem capTables_row_tie : Rows.capTablesRow.laidByTextAt .later Tryd.pinned [.data, .data, .data, .data, .data, .data] true :=
  OpenClaim.laidByTextAt_later rfl rfl tie noOwnUnsafe
theorem tie2 : Tryd.prog.laidByTextLater [("hackamore/cap.marked", Rows.laid_hackamore_cap_marked), ("hackamore/cap.fitting", Rows.laid_hackamore_cap_fitting), ("hackamore/cap.views", Rows.laid_hackamore_cap_views), ("hackamore/cap.storable", Rows.laid_hackamore_cap_storable), ("hackamore/cap.besides", Rows.laid_hackamore_cap_besides), ("hackamore/cap.elsewhere", Rows.laid_hackamore_cap_elsewhere)] [.data, .data, .data, .data, .data, .data] true :=
  Program.laidByTextLater.sub seatTie1 ["hackamore/cap.marked", "hackamore/cap.fitting", "hackamore/cap.views", "hackamore/cap.storable", "hackamore/cap.besides", "hackamore/cap.elsewhere"] (by kernel_rfl) (by kernel_rfl)
theorem capViews_row_tie : Rows.capViewsRow.laidByTextAt .later Tryd.pinned [.data, .data, .data, .data, .data, .data] true :=
  OpenClaim.laidByTextAt_later rfl rfl tie2 noOwnUnsafe
theorem tie3 : Tryd.prog.laidByTextLater [("hackamore/cap.marked", Rows.laid_hackamore_cap_marked), ("hackamore/cap.fitting", Rows.laid_hackamore_cap_fitting), ("hackamore/cap.views", Rows.laid_hackamore_cap_views)] [.data, .data, .data] true :=
  Program.laidByTextLater.sub seatTie1 ["hackamore/cap.marked", "hackamore/cap.fitting", "hackamore/cap.views"] (by kernel_rfl) (by kernel_rfl)
theorem capOrder_row_tie : Rows.capOrderRow.laidByTextAt .later Tryd.pinned [.data, .data, .data] true :=
  OpenClaim.laidByTextAt_later rfl rfl tie3 noOwnUnsafe
theorem capPermits_row_tie : Rows.capPermitsRow.laidByTextAt .later Tryd.pinned [.data, .data, .data] true :=
  OpenClaim.laidByTextAt_later rfl rfl tie3 noOwnUnsafe
theorem tie4 : Tryd.prog.laidByTextLater [("hackamore/cap.marked", Rows.laid_hackamore_cap_marked), ("hackamore/cap.fitting", Rows.laid_hackamore_cap_fitting), ("hackamore/cap.views", Rows.laid_hackamore_cap_views), ("hackamore/cap.besides", Rows.laid_hackamore_cap_besides), ("hackamore/cap.elsewhere", Rows.laid_hackamore_cap_elsewhere)] [.data, .data, .data, .data, .data] true :=
  Program.laidByTextLater.sub seatTie1 ["hackamore/cap.marked", "hackamore/cap.fitting", "hackamore/cap.views", "hackamore/cap.besides", "hackamore/cap.elsewhere"] (by kernel_rfl) (by kernel_rfl)
theorem capBeside_row_tie : Rows.capBesideRow.laidByTextAt .later Tryd.pinned [.data, .data, .data, .data, .data] true :=
  OpenClaim.laidByTextAt_later rfl rfl tie4 noOwnUnsafe
theorem tie5 : Tryd.prog.laidByTextLater [("hackamore/cap.marked", Rows.laid_hackamore_cap_marked), ("hackamore/cap.fitting", Rows.laid_hackamore_cap_fitting), ("hackamore/cap.views", Rows.laid_hackamore_cap_views), ("hackamore/cap.names", Rows.laid_hackamore_cap_names), ("hackamore/cap.members", Rows.laid_hackamore_cap_members), ("hackamore/cap.elsewhere", Rows.laid_hackamore_cap_elsewhere)] [.data, .data, .data, .data, .data, .data] true :=
  Program.laidByTextLater.sub seatTie1 ["hackamore/cap.marked", "hackamore/cap.fitting", "hackamore/cap.views", "hackamore/cap.names", "hackamore/cap.members", "hackamore/cap.elsewhere"] (by kernel_rfl) (by kernel_rfl)
theorem capSets_row_tie : Rows.capSetsRow.laidByTextAt .later Tryd.pinned [.data, .data, .data, .data, .data, .data] true :=
  OpenClaim.laidByTextAt_later rfl rfl tie5 noOwnUnsafe
theorem capTablesUpto_row_tie : Rows.capTablesUptoRow.laidByTextAt .later Tryd.pinned [.data, .data, .data, .data, .data, .data] true :=
  OpenClaim.laidByTextAt_later rfl rfl tie noOwnUnsafe
theorem capViewsUpto_row_tie : Rows.capViewsUptoRow.laidByTextAt .later Tryd.pinned [.data, .data, .data, .data, .data, .data] true :=
  OpenClaim.laidByTextAt_later rfl rfl tie2 noOwnUnsafe
theorem capOrderUpto_row_tie : Rows.capOrderUptoRow.laidByTextAt .later Tryd.pinned [.data, .data, .data] true :=
  OpenClaim.laidByTextAt_later rfl rfl tie3 noOwnUnsafe
theorem capPermitsUpto_row_tie : Rows.capPermitsUptoRow.laidByTextAt .later Tryd.pinned [.data, .data, .data] true :=
  OpenClaim.laidByTextAt_later rfl rfl tie3 noOwnUnsafe
theorem capBesideUpto_row_tie : Rows.capBesideUptoRow.laidByTextAt .later Tryd.pinned [.data, .data, .data, .data, .data] true :=
  OpenClaim.laidByTextAt_later rfl rfl tie4 noOwnUnsafe
theorem capSetsUpto_row_tie : Rows.capSetsUptoRow.laidByTextAt .later Tryd.pinned [.data, .data, .data, .data, .data, .data] true :=
  OpenClaim.laidByTextAt_later rfl rfl tie5 noOwnUnsafe
end Go.Proofs.YtgdfoonflkddnaaDoor
