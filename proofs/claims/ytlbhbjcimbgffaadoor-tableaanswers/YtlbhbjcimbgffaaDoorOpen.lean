/-
  How the table that comes in is read: lemmas that the claimed proofs use.
-/
import Derived.Test.YtlbhbjcimbgffaaDoorTable
import Derived.Test.YtlbhbjcimbgffaaDoorEnd
import Derived.Lib.LaidTab
import Derived.LaidMore
namespace Go.Proofs.YtlbhbjcimbgffaaDoor
open Go.ChangeShapes Go.WideShapes Go.ChangeAt Go.RowKit Go.Joins

theorem Tryd.gTab : Tryd.prog.globalNamed "underpin/tablea.classSizes" = some 0 := by kernel_rfl
theorem Tryd.tTab : (Tryd.prog.globals[0]?).map (·.type) = some 33 := by kernel_rfl
theorem tab_data : (Rows.laid_underpin_tablea_classSizes : DataW Unit) = Lib.tabData .i64 szs := rfl
theorem tab_of_laid {W : World} (h : laidMetH Tryd.prog [("underpin/tablea.classSizes", Rows.laid_underpin_tablea_classSizes)] W) : Tab W := by
  rw [MakeChecks.laidMetH_plain _ _ _ (by kernel_rfl), tab_data] at h
  have hT : W.var? Tryd.prog "underpin/tablea.classSizes" = some row := Lib.tabIs_of_head Tryd.gTab Tryd.tTab Tryd.underlying33 Tryd.underlying3 (by kernel_rfl) (by kernel_rfl) h
  unfold World.var? at hT
  rw [Tryd.gTab, Option.bind_some] at hT
  split at hT
  · rename_i cs t fr hq
    obtain rfl := Option.some.inj hT
    exact ⟨t, fr, hq⟩
  · cases hT
theorem door_met (os : Os) (args : Array Value) : laidMetH Tryd.prog [("underpin/tablea.classSizes", Rows.laid_underpin_tablea_classSizes)] ((World.doorLaid Tryd.prog 14 os).forCall (fun _ _ => 0) ⟨#[], args, []⟩).memory :=
  laidMetH_of_parts3 (fuel := 8) (laidMet_of_run' 8 (by kernel_rfl) (by kernel_rfl)) (by kernel_rfl) (by kernel_rfl)
end Go.Proofs.YtlbhbjcimbgffaaDoor
