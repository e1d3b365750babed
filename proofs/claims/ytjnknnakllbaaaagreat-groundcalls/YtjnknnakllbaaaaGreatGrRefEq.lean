/-
  Two entries of the document's, compared. A law that the claimed proof uses.
-/
import Derived.Test.YtjnknnakllbaaaaGreatGrRefEntry
namespace Go.Proofs.YtjnknnakllbaaaaGreat.Gr
set_option maxRecDepth 100000
open Go.RowKit
theorem ent_eq (w : World) (a b c d : Int) : (Op.equalIn 10000 55 (.agg #[.int .i64 a, .int .i64 b, .int .i64 c, .int .i64 d]) (.agg #[.int .i64 a, .int .i64 b, .int .i64 c, .int .i64 d])).run Tryz.prog w = .ok true w := by
  have hs : Tryz.prog.underlying 55 = some (.struct (Tryz.prog.fieldsOf 55)) := by kernel_rfl
  have hp : Tryz.prog.stoodInHeld 55 = false := by kernel_rfl
  have hq := fun (a : Int) => run_equalIn_int w 9998 3 .i64 .i64 a a Tryz.underlying3
  rw [show (10000 : Nat) = 9999 + 1 from rfl, run_equalIn_struct w 9999 55 _ _ hs hp]
  simp only [Program.fieldsOf, Tryz.underlying55]
  simp [Op.eqFields, hq, part, go_sem]
theorem ent_neq (w : World) (a b c d : Int) : (binOp .neq 55 (.agg #[.int .i64 a, .int .i64 b, .int .i64 c, .int .i64 d]) (.agg #[.int .i64 a, .int .i64 b, .int .i64 c, .int .i64 d])).run Tryz.prog w = .ok (.bool false) w := by
  rw [run_neq_struct, ent_eq]; rfl
theorem ent_guard (w : World) (x y : Operand) (a b c d : Int) : (eqGuard .neq 55 x y (.agg #[.int .i64 a, .int .i64 b, .int .i64 c, .int .i64 d]) (.agg #[.int .i64 a, .int .i64 b, .int .i64 c, .int .i64 d])).run Tryz.prog w = .ok () w := by
  have h : Tryz.prog.eqGuardType Tryz.prog.depth 55 = false := by kernel_rfl
  simp [eqGuard, h]
end Go.Proofs.YtjnknnakllbaaaaGreat.Gr
