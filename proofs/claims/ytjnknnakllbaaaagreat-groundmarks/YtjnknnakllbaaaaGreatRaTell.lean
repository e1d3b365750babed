/-
  How many leaves are kept, how many pages have an entry of a version and a state: contracts that the claimed proofs use.
-/
import Derived.Test.YtjnknnakllbaaaaGreatRaWord
namespace Go.Proofs.YtjnknnakllbaaaaGreat.Ra
set_option maxRecDepth 100000
open Go.RowKit

theorem ps_len (g : Gs) : (ps g).length = 64 := by unfold ps; simp
theorem lw_len (f : Ws) (i : Nat) : (lw f i).length = 64 := by unfold lw; simp
theorem ps_info (g : Gs) : (Tryz.prog.info? 127).map (·.size) = some (ps g).length := by rw [ps_len]; kernel_rfl
theorem ps_range {w : World} {q : Nat} {n t : Int} {g : Gs} (h : Blk w q (mc n t g) 129) : w.rangeAt q 2 (ps g) := fun j v hv => by
  have hj : j < 64 := by have := (List.getElem?_eq_some_iff.1 hv).1; rwa [ps_len] at this
  rw [h.cell, mc_at n t g hj, ← hv, ps_at g hj]
theorem ps_index (g : Gs) {i : Nat} (hi : i < 64) (w : World) : (Instr.index 127 (.agg (ps g).toArray) (.int .i64 i)).run Tryz.prog w = .ok (ptr (g i)) w := by
  have hs : (sizeOf 126).run Tryz.prog w = .ok 1 w := by kernel_rfl
  have hx : (ps g).toArray[i]? = some (ptr (g i)) := by rw [List.getElem?_toArray]; exact ps_at g hi
  have hc : (0 : Int) ≤ (i : Int) ∧ (i : Int) < ((64 : Nat) : Int) := by omega
  have hp : (part 126 (ps g).toArray i).run Tryz.prog w = .ok (ptr (g i)) w := by simp [part, isAgg, run_underlying Tryz.underlying126, hx]
  simp only [Instr.index, asIntOf, Sem.run_bind, Sem.run_pure, Result.andThen_ok, run_underlying Tryz.underlying127]
  rw [if_pos hc]
  simp only [Sem.run_bind, hs, Result.andThen_ok, Nat.mul_one, Int.toNat_natCast, hp]
section
variable {w : World} {q : Nat} {n t : Int} {g : Gs} {f : Ws}
end
end Go.Proofs.YtjnknnakllbaaaaGreat.Ra
