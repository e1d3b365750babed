/-
  How a list of calls that comes in, and the library's table, are read: lemmas that the claimed proofs use.
-/
import Derived.Test.YthleflfljomeiaaDoorDo
import Derived.Test.YthleflfljomeiaaDoorEnd
import Derived.Deep.SlicePairs
import Derived.Lib.LaidTab
import Derived.LaidMore
namespace Go.Proofs.YthleflfljomeiaaDoor
open Go.ChangeShapes Go.WideShapes Go.ChangeAt Go.RowKit Go.Joins Go.Deep

theorem at_plain {W : World} {a : Addr} {k : Nat} {v : Value} (h : W.cell? (a.add 0) = some v) : a.add k = ⟨a.block, a.off + k, none⟩ := by
  obtain ⟨b, off, spot⟩ := a
  have hspot : spot = none := by simpa [Addr.add] using World.cell?_spot h
  subst hspot
  exact add_plain b off k
def boolV : Value → Bool
  | .bool b => b
  | _ => false
theorem open_calls {H : Type} {enc : TypeId × Value → H} {W : World} {r : Reach} {b0 : Nat} {v : Value} {dd : DataW H} {p : List MemPlace} (hval : Value.okWide Tryd.prog W r b0 22 v) (h : DataW.Trod enc Tryd.prog W 0 (fun _ => true) true 22 v dd p) :
    ∃ A l c, v = .slice A (List.length (α := Bool × Int) l) c ∧ CA W.heap.size W A l := by
  obtain ⟨a0, len, cap, rfl⟩ := okWide_slice Tryd.underlying22 hval
  obtain ⟨fuel, hf⟩ := h
  rcases open_slice_pairs Tryd.underlying22 Tryd.underlying56 (by kernel_rfl) rfl rfl (by kernel_rfl) (by kernel_rfl) hf with ⟨hcs, _⟩ | ⟨a, len', cap', m, n, V0, V1, D0, D1, P0, P1, hcs, _, hl, _, hm, _, hi⟩
  · simp [Value.cells] at hcs
    obtain ⟨rfl, rfl, rfl⟩ := hcs
    exact ⟨none, [], 0, rfl, fun h => by simp at h⟩
  · simp [Value.cells] at hcs
    obtain ⟨rfl, rfl, rfl⟩ := hcs
    rw [if_pos rfl] at hm
    subst hm
    have e : ∀ i, i < len → W.cell? ⟨a.block, a.off + i * 2, none⟩ = some (.bool (boolV (V0 i))) ∧ W.cell? ⟨a.block, a.off + i * 2 + 1, none⟩ = some (.int .i64 (intOf (V1 i))) := by
      intro i hlt
      have z := (hi 0 (by omega)).1
      rw [Nat.zero_mul] at z
      obtain ⟨q0, q1, t0, t1⟩ := hi i (by omega)
      obtain ⟨x0, e0, _⟩ := DataW.trod_bool Tryd.underlying4 t0
      obtain ⟨x1, e1, _, _⟩ := DataW.trod_int Tryd.underlying3 t1
      simp only [List.cons.injEq, and_true] at e0 e1
      rw [at_plain z, e0] at q0
      rw [at_plain z, e1] at q1
      rw [e0, e1]
      exact ⟨q0, q1⟩
    refine ⟨some a, (List.range len).map fun i => (boolV (V0 i), intOf (V1 i)), m, by simp, fun hp => ?_⟩
    have hp' : 0 < len := by simpa using hp
    have z := (hi 0 (by omega)).1
    rw [Nat.zero_mul] at z
    have ea := at_plain (k := 0) z
    have ea' : a = ⟨a.block, a.off, none⟩ := by simpa [Addr.add] using ea
    refine ⟨a.block, a.off, by rw [← ea'], World.block_lt_of_cell? W ⟨a.block, a.off + 0 * 2, none⟩ (e 0 hp').1, fun i hlt => ?_⟩
    have hlt' : i < len := by simpa using hlt
    have eg : ((List.range len).map fun i => (boolV (V0 i), intOf (V1 i))).getD i (false, 0) = (boolV (V0 i), intOf (V1 i)) := by
      rw [List.getD_eq_getElem?_getD, List.getElem?_map, List.getElem?_range hlt']; rfl
    rw [eg]
    exact e i hlt'

/-! ### The table -/
theorem Tryd.gTab : Tryd.prog.globalNamed "math/bits.deBruijn64tab" = some 0 := by kernel_rfl
theorem Tryd.tTab : (Tryd.prog.globals[0]?).map (·.type) = some 62 := by kernel_rfl
def tabInts : List Int := Lib.deBruijn64tab.map fun (n : Nat) => (n : Int)
theorem tab_data : (Rows.laid_math_bits_deBruijn64tab : DataW Unit) = Lib.tabData .u8 tabInts := rfl
theorem tab_of_laid {W : World} (h : laidMetH Tryd.prog [("math/bits.deBruijn64tab", Rows.laid_math_bits_deBruijn64tab)] W) : Tab W := by
  rw [MakeChecks.laidMetH_plain _ _ _ (by kernel_rfl), tab_data] at h
  have hT := Lib.tabIs_of_head Tryd.gTab Tryd.tTab Tryd.underlying62 Tryd.underlying5 (by kernel_rfl) (by kernel_rfl) h
  intro j hj
  have := hT.cell Tryd.gTab j (by simpa [tabInts, Lib.deBruijn64tab] using hj)
  rw [this]
  congr 2
  unfold tabInts
  rw [List.getD_eq_getElem?_getD, List.getElem?_map, List.getD_eq_getElem?_getD]
  cases Lib.deBruijn64tab[j]? <;> rfl
theorem door_met (os : Os) (args : Array Value) : laidMetH Tryd.prog [("math/bits.deBruijn64tab", Rows.laid_math_bits_deBruijn64tab)] ((World.doorLaid Tryd.prog 14 os).forCall (fun _ _ => 0) ⟨#[], args, []⟩).memory :=
  laidMetH_of_parts3 (fuel := 8) (laidMet_of_run' 8 (by kernel_rfl) (by kernel_rfl)) (by kernel_rfl) (by kernel_rfl)
end Go.Proofs.YthleflfljomeiaaDoor
