/-
  An entry as the document has it: a contract that the claimed proof uses.
-/
import Derived.Test.YtjnknnakllbaaaaGreatGrRefTold
namespace Go.Proofs.YtjnknnakllbaaaaGreat.Gr
set_option maxRecDepth 100000
open Go.RowKit

theorem entry_any (a b c d : Int) (w : World) : Calls Tryz.prog 17 #[.agg #[.int .i64 a, .int .i64 b, .int .i64 c, .int .i64 d]] w fun e w' => e = .returned (.agg #[.int .i64 a, .int .i64 b, .int .i64 c, .int .i64 d]) ∧ Below w.heap.size w w' := by
  obtain ⟨w1, hw1⟩ : ∃ w1, w.alloc (.cells #[.int .i64 a, .int .i64 b, .int .i64 c, .int .i64 d] 52) = w1 := ⟨_, rfl⟩
  have b1 : Below w.heap.size w w1 := by rw [← hw1]; exact up_alloc (Below.refl _ _) _
  have k1 : Ra.Blk w1 w.heap.size [.int .i64 a, .int .i64 b, .int .i64 c, .int .i64 d] 52 := by rw [← hw1]; exact heap_alloc_last w _
  obtain ⟨w2, hw2⟩ : ∃ w2, w1.alloc (.cells #[.int .i64 0, .int .i64 0, .int .i64 0, .int .i64 0] 55) = w2 := ⟨_, rfl⟩
  have B2 : Hid (Below w.heap.size w w2) := by rw [← hw2]; exact up_alloc b1 _
  have K2 : Hid (Ra.Blk w2 w1.heap.size [.int .i64 0, .int .i64 0, .int .i64 0, .int .i64 0] 55) := by rw [← hw2]; exact heap_alloc_last w1 _
  have k2 : Ra.Blk w2 w.heap.size [.int .i64 a, .int .i64 b, .int .i64 c, .int .i64 d] 52 := by rw [← hw2]; exact Sp.Blk.of k1 ((up_alloc (Below.refl _ w1) _).block _ (Sp.Blk.lt k1))
  have e0 : w2.cell? ⟨w.heap.size, 0, none⟩ = some (.int .i64 a) := k2.cell
  have e1 : w2.cell? ⟨w.heap.size, 1, none⟩ = some (.int .i64 b) := k2.cell
  have e2 : w2.cell? ⟨w.heap.size, 2, none⟩ = some (.int .i64 c) := k2.cell
  have e3 : w2.cell? ⟨w.heap.size, 3, none⟩ = some (.int .i64 d) := k2.cell
  have d0 : w2.cell? ⟨w1.heap.size, 0, none⟩ = some (.int .i64 0) := K2.out.cell
  have d1 : w2.cell? ⟨w1.heap.size, 1, none⟩ = some (.int .i64 0) := K2.out.cell
  have d2 : w2.cell? ⟨w1.heap.size, 2, none⟩ = some (.int .i64 0) := K2.out.cell
  have d3 : w2.cell? ⟨w1.heap.size, 3, none⟩ = some (.int .i64 0) := K2.out.cell
  have f0 := K2.out.frozen 0
  have f1 := K2.out.frozen 1
  have f2 := K2.out.frozen 2
  have f3 := K2.out.frozen 3
  have hz : Hid (w.heap.size ≤ w1.heap.size) := b1.size
  clear b1 k1 k2
  go_enter Tryz.func17, Tryz.ntmps17
  go_wp2_with fail
  have K9 := Lib.hid (Ra.four_set K2.out (.int .i64 a) (.int .i64 b) (.int .i64 c) (.int .i64 d))
  have B9 := Lib.hid (Ra.four_below B2.out hz.out (.int .i64 a) (.int .i64 b) (.int .i64 c) (.int .i64 d))
  generalize (((w2.setCell ⟨w1.heap.size, 0, none⟩ (.int .i64 a)).setCell ⟨w1.heap.size, 1, none⟩ (.int .i64 b)).setCell ⟨w1.heap.size, 2, none⟩ (.int .i64 c)).setCell ⟨w1.heap.size, 3, none⟩ (.int .i64 d) = W9 at K9 B9 ⊢
  have g0 : W9.cell? ⟨w1.heap.size, 0, none⟩ = some (.int .i64 a) := K9.out.cell
  have g1 : W9.cell? ⟨w1.heap.size, 1, none⟩ = some (.int .i64 b) := K9.out.cell
  have g2 : W9.cell? ⟨w1.heap.size, 2, none⟩ = some (.int .i64 c) := K9.out.cell
  have g3 : W9.cell? ⟨w1.heap.size, 3, none⟩ = some (.int .i64 d) := K9.out.cell
  exact bodyPost_ret (v := .agg #[.int .i64 a, .int .i64 b, .int .i64 c, .int .i64 d]) (by simp [results, Tryz.results17, go_sem, g0, g1, g2, g3]) rfl ⟨rfl, B9.out⟩
end Go.Proofs.YtjnknnakllbaaaaGreat.Gr
