/-
  How numbers that come in are read: lemmas that the claimed proofs use.
-/
import Derived.Test.YtaelfgdiboekpaaDoorNsEnv
import Derived.Test.YtaelfgdiboekpaaDoorNsEnd
import Derived.Deep.SlicePairs
namespace Go.Proofs.YtaelfgdiboekpaaDoor.Ns
set_option maxRecDepth 100000
open Go.ChangeShapes Go.WideShapes Go.ChangeAt Go.RowKit Go.Joins Go.Deep

theorem open_u64 {n : Int} (h : (Lit.int .u64 n).wf = true) : ∃ x : BitVec 64, n = Ce.u x := by
  obtain ⟨h0, h1⟩ := Go.bounds_u64 h
  exact Ce.u_of n h0 (by omega)
theorem open_u8 {n : Int} (h : (Lit.int .u8 n).wf = true) : ∃ x : BitVec 8, n = Ce.y x := by
  obtain ⟨h0, h1⟩ := Go.bounds_u8 h
  exact Ce.y_of n h0 (by omega)
theorem i64_wf {n : Int} (h : (Lit.int .i64 n).wf = true) : I64 n := by
  obtain ⟨h0, h1⟩ := Go.bounds_i64 h
  exact ⟨by omega, by omega⟩
end Go.Proofs.YtaelfgdiboekpaaDoor.Ns
