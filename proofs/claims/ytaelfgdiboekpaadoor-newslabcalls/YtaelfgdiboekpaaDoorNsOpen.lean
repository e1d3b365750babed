/-
  How the tables that come in are read: lemmas that the claimed proofs use.
-/
import Derived.Test.YtaelfgdiboekpaaDoorTbA
import Derived.Test.YtaelfgdiboekpaaDoorNsEnd
import Derived.Lib.LaidTab
import Derived.LaidMore
namespace Go.Proofs.YtaelfgdiboekpaaDoor
set_option maxRecDepth 100000
open Go.ChangeShapes Go.WideShapes Go.ChangeAt Go.RowKit Go.Joins

/-- What the rows list: both tables. -/
def tabs : List (String × DataW Unit) := [("underpin/tablea.classSizes", Rows.laid_underpin_tablea_classSizes), ("underpin/tableb.newSizes", Rows.laid_underpin_tableb_newSizes)]
theorem Tryd.gOld : Tryd.prog.globalNamed "underpin/tablea.classSizes" = some 0 := by kernel_rfl
theorem Tryd.tOld : (Tryd.prog.globals[0]?).map (·.type) = some 138 := by kernel_rfl
theorem Tryd.gNew : Tryd.prog.globalNamed "underpin/tableb.newSizes" = some 1 := by kernel_rfl
theorem Tryd.tNew : (Tryd.prog.globals[1]?).map (·.type) = some 139 := by kernel_rfl
theorem old_data : (Rows.laid_underpin_tablea_classSizes : DataW Unit) = Lib.tabData .i64 (Tb.szs 0) := rfl
theorem new_data : (Rows.laid_underpin_tableb_newSizes : DataW Unit) = Lib.tabData .i64 (Tb.szs 1) := rfl
theorem laid_tail {P : Program} {x : String × DataW Unit} {r : List (String × DataW Unit)} {w : World} (h : laidMet P (x :: r) w) : laidMet P r w := by
  obtain ⟨ps, hl, hn, hc⟩ := h
  obtain ⟨_, _, _, _, p, q, _, _, _, _, hq, rfl⟩ := hl
  exact ⟨q, hq, (List.nodup_append.1 hn).2.1, fun b off hm => hc b off (List.mem_append_right _ hm)⟩
theorem tab_of_laid {W : World} (h : laidMetH Tryd.prog tabs W) : Tb.Tab W := by
  unfold tabs at h
  rw [MakeChecks.laidMetH_plain _ _ _ (by kernel_rfl), old_data, new_data] at h
  have h1 : W.var? Tryd.prog "underpin/tablea.classSizes" = some (Tb.row 0) := Lib.tabIs_of_head Tryd.gOld Tryd.tOld Tryd.underlying138 Tryd.underlying3 (by kernel_rfl) (by kernel_rfl) h
  have h2 : W.var? Tryd.prog "underpin/tableb.newSizes" = some (Tb.row 1) := Lib.tabIs_of_head Tryd.gNew Tryd.tNew Tryd.underlying139 Tryd.underlying3 (by kernel_rfl) (by kernel_rfl) (laid_tail h)
  unfold World.var? at h1 h2
  rw [Tryd.gOld, Option.bind_some] at h1
  rw [Tryd.gNew, Option.bind_some] at h2
  constructor
  · split at h1
    · rename_i cs t fr hq
      obtain rfl := Option.some.inj h1
      exact ⟨t, fr, hq⟩
    · cases h1
  · split at h2
    · rename_i cs t fr hq
      obtain rfl := Option.some.inj h2
      exact ⟨t, fr, hq⟩
    · cases h2
theorem door_met (os : Os) (args : Array Value) : laidMetH Tryd.prog tabs ((World.doorLaid Tryd.prog 20 os).forCall (fun _ _ => 0) ⟨#[], args, []⟩).memory :=
  laidMetH_of_parts3 (fuel := 8) (laidMet_of_run' 8 (by kernel_rfl) (by kernel_rfl)) (by kernel_rfl) (by kernel_rfl)
end Go.Proofs.YtaelfgdiboekpaaDoor
