/-
  How the tables that come in are read: lemmas that the claimed proofs use.
-/
import Derived.Test.YtckcgaliphpgeaaGreatDoorOsA
import Derived.Test.YtckcgaliphpgeaaGreatDoorHeEnd
import Derived.Lib.LaidTab
import Derived.LaidMore
namespace Go.Proofs.YtckcgaliphpgeaaGreatDoor
set_option maxRecDepth 100000
open Go.ChangeShapes Go.WideShapes Go.ChangeAt Go.RowKit Go.Joins

/-- What the rows list: both tables. -/
def tabs : List (String × DataW Unit) := [("math/bits.deBruijn64tab", Rows.laid_math_bits_deBruijn64tab), ("underpin/tablea.classSizes", Rows.laid_underpin_tablea_classSizes)]
theorem Tryz.gOld : Tryz.prog.globalNamed "underpin/tablea.classSizes" = some 0 := by kernel_rfl
theorem Tryz.tOld : (Tryz.prog.globals[0]?).map (·.type) = some 158 := by kernel_rfl
theorem Tryz.gTab : Tryz.prog.globalNamed "math/bits.deBruijn64tab" = some 1 := by kernel_rfl
theorem Tryz.tTab : (Tryz.prog.globals[1]?).map (·.type) = some 197 := by kernel_rfl
theorem old_data : (Rows.laid_underpin_tablea_classSizes : DataW Unit) = Lib.tabData .i64 Ta.szs := rfl
def tabInts : List Int := Lib.deBruijn64tab.map fun (n : Nat) => (n : Int)
theorem tab_data : (Rows.laid_math_bits_deBruijn64tab : DataW Unit) = Lib.tabData .u8 tabInts := rfl
theorem laid_tail {P : Program} {x : String × DataW Unit} {r : List (String × DataW Unit)} {w : World} (h : laidMet P (x :: r) w) : laidMet P r w := by
  obtain ⟨ps, hl, hn, hc⟩ := h
  obtain ⟨_, _, _, _, p, q, _, _, _, _, hq, rfl⟩ := hl
  exact ⟨q, hq, (List.nodup_append.1 hn).2.1, fun b off hm => hc b off (List.mem_append_right _ hm)⟩
theorem tab_of_laid {W : World} (h : laidMetH Tryz.prog tabs W) : Os.Tb W := by
  unfold tabs at h
  rw [MakeChecks.laidMetH_plain _ _ _ (by kernel_rfl), tab_data, old_data] at h
  have hT := Lib.tabIs_of_head Tryz.gTab Tryz.tTab Tryz.underlying197 Tryz.underlying5 (by kernel_rfl) (by kernel_rfl) h
  have h1 : W.var? Tryz.prog "underpin/tablea.classSizes" = some Ta.row := Lib.tabIs_of_head Tryz.gOld Tryz.tOld Tryz.underlying158 Tryz.underlying3 (by kernel_rfl) (by kernel_rfl) (laid_tail h)
  unfold World.var? at h1
  rw [Tryz.gOld, Option.bind_some] at h1
  constructor
  · intro j hj
    have := hT.cell Tryz.gTab j (by simpa [tabInts, Lib.deBruijn64tab] using hj)
    rw [this]
    congr 2
    unfold tabInts
    rw [List.getD_eq_getElem?_getD, List.getElem?_map, List.getD_eq_getElem?_getD]
    cases Lib.deBruijn64tab[j]? <;> rfl
  · split at h1
    · rename_i cs t fr hq
      obtain rfl := Option.some.inj h1
      exact ⟨t, fr, hq⟩
    · cases h1
theorem door_met (os : Os) (args : Array Value) : laidMetH Tryz.prog tabs ((World.doorLaid Tryz.prog 20 os).forCall (fun _ _ => 0) ⟨#[], args, []⟩).memory :=
  laidMetH_of_parts3 (fuel := 8) (laidMet_of_run' 8 (by kernel_rfl) (by kernel_rfl)) (by kernel_rfl) (by kernel_rfl)
end Go.Proofs.YtckcgaliphpgeaaGreatDoor
