/-
  How a list of numbers that comes in is read: a lemma that the claimed proofs use.
-/
import Derived.Test.YtiemgeflkmbfoaaDoorOsWit
import Derived.Test.YtiemgeflkmbfoaaDoorOsEnd
import Derived.Deep.SlicePairs
namespace Go.Proofs.YtiemgeflkmbfoaaDoor
set_option maxRecDepth 100000
open Go.ChangeShapes Go.WideShapes Go.ChangeAt Go.RowKit Go.Joins Go.Deep

theorem at_plain {W : World} {a : Addr} {k : Nat} {v : Value} (h : W.cell? (a.add 0) = some v) : a.add k = ⟨a.block, a.off + k, none⟩ := by
  obtain ⟨b, off, spot⟩ := a
  have hspot : spot = none := by simpa [Addr.add] using World.cell?_spot h
  subst hspot
  exact add_plain b off k
theorem i64_wf {n : Int} (h : (Lit.int .i64 n).wf = true) : Os.I64 n := by
  obtain ⟨h0, h1⟩ := Go.bounds_i64 h
  exact ⟨by omega, by omega⟩
theorem open_in {H : Type} {enc : TypeId × Value → H} {W : World} {fuel : Nat} {v : Value} {a0 : Option Addr} {len cap : Nat} {x : DataW H × List MemPlace} (hv : v = .slice a0 len cap) (hf : DataW.trod enc Tryd.prog W 0 (fun _ => true) true fuel 22 v.cells.toList = some x) :
    ∃ xs, Os.In W a0 len cap xs := by
  subst hv
  rcases open_ints Tryd.underlying22 Tryd.underlying3 (by kernel_rfl) hf with ⟨hcs, _⟩ | ⟨a, len', cap', zs, hcs, _, hl, _, hz, _, hi, hw⟩
  · simp [Value.cells] at hcs
    obtain ⟨rfl, rfl, rfl⟩ := hcs
    exact ⟨[], fun h => by simp at h, rfl, fun _ => ⟨rfl, rfl⟩, fun y hy => (List.not_mem_nil hy).elim⟩
  · simp [Value.cells] at hcs
    obtain ⟨rfl, rfl, rfl⟩ := hcs
    rw [if_pos rfl] at hz
    have hzl : len ≤ zs.length := by omega
    refine ⟨zs.take len, fun hp => ?_, by rw [List.length_take]; omega, (fun h => by cases h), fun y hy => i64_wf (hw y (List.mem_of_mem_take hy))⟩
    rw [List.length_take] at hp
    have z := hi 0 (by omega)
    have ea := at_plain (k := 0) z
    have ea' : a = ⟨a.block, a.off, none⟩ := by simpa [Addr.add] using ea
    refine ⟨a.block, a.off, by rw [← ea'], World.block_lt_of_cell? W ⟨a.block, a.off + 0, none⟩ (by rw [ea] at z; exact z), fun i hlt => ?_⟩
    rw [List.length_take] at hlt
    have e : (zs.take len).getD i 0 = zs.getD i 0 := by
      rw [List.getD_eq_getElem?_getD, List.getD_eq_getElem?_getD, List.getElem?_take, if_pos (by omega)]
    rw [e, ← at_plain z]
    exact hi i (by omega)
end Go.Proofs.YtiemgeflkmbfoaaDoor
