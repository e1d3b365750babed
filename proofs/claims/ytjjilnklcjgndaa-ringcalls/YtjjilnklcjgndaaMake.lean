/-
  How rows of numbers are made: laws that the claimed proofs use.
-/
import Derived.Test.YtjjilnklcjgndaaOps
namespace Go.Proofs.Ytjjilnklcjgndaa
open Go.RowKit

theorem int_info : (Try.prog.info? 3).map (fun i => (i.zero, i.size, i.bytes)) = some (some (.int .i64 0), 1, 8) := by kernel_rfl
theorem info_parts {t : TypeId} {z : Value} {s b : Nat} (h : (Try.prog.info? t).map (fun i => (i.zero, i.size, i.bytes)) = some (some z, s, b)) : ∃ i, Try.prog.info? t = some i ∧ i.zero = some z ∧ i.size = s ∧ i.bytes = b := by
  obtain ⟨i, hi, hp⟩ := Option.map_eq_some_iff.1 h
  simp only [Prod.mk.injEq] at hp
  exact ⟨i, hi, hp.1, hp.2.1, hp.2.2⟩
theorem make_ints (n c : Nat) (hn : n ≤ c) (hc : c ≤ 8192) (W : World) :
    (Instr.makeSlice 37 (.int .i64 (n : Int)) (.int .i64 (c : Int))).run Try.prog W = .ok (.slice (some ⟨W.heap.size, 0, none⟩) n c) (W.alloc (.cells (madeCells #[.int .i64 0] c) 3)) := by
  obtain ⟨i, hi, hz, hs, hb⟩ := info_parts int_info
  have := run_make (P := Try.prog) W 37 3 i (.int .i64 0) Try.underlying37 hi hz .i64 .i64 n c (by omega) (by omega) (by rw [hb]; omega) (by omega)
  rw [hs] at this
  simpa [Value.cells] using this
end Go.Proofs.Ytjjilnklcjgndaa
