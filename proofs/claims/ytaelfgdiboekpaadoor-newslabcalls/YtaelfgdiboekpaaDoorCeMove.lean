/-
  What Move does: a contract that the claimed proofs use.
-/
import Derived.Test.YtaelfgdiboekpaaDoorCeRows2
namespace Go.Proofs.YtaelfgdiboekpaaDoor.Ce
set_option maxRecDepth 100000
open Go.RowKit

/-- copy as one step of a region that draws its order. -/
theorem step_copy {w : World} {ops : Array Oper} {o : Oper} {a : Act} {K : Act → World → Prop} {Q : Exit → Act → World → Prop} {E : Prop} (hgd : o.guard = none) (d s : Operand)
    (ho : o.op = .call { callee := .builtin .copy, args := #[d, s], argTypes := #[45, 45] })
    (dp sp : Option Addr) (dLen dCap sLen sCap : Nat) (hd : a.eval d = .slice dp dLen dCap) (hs : a.eval s = .slice sp sLen sCap)
    (g off : Nat) (cur cs : List (BitVec 8)) (hg : Row w g cur) (hn : cs.length = Nat.min sLen dLen)
    (hpos : 0 < cs.length → dp = some ⟨g, off, none⟩ ∧ ∃ sb so, sp = some ⟨sb, so, none⟩ ∧ ∀ j, j < cs.length → w.cell? ⟨sb, so + j, none⟩ = some (.int .u8 (y (cs.getD j 0#8))))
    (hfit : off + cs.length ≤ cur.length)
    (h : ∀ w', Hid (Row w' g (splice cur off cs)) → Hid (w.grownBy w' (some g)) → K (a.put o.dst (goInt cs.length)) w') :
    if Region.wanted o (yielded ops a.tmps) = true then Oper.wp Tryd.prog o a w K Q else E := by
  rw [if_pos (by simp [Region.wanted, hgd])]
  obtain ⟨w', hr, h1, h2⟩ := copy_run w o.type dp sp dLen dCap sLen sCap g off cur cs hg hn hpos hfit
  unfold Oper.wp
  simp [execOp, ho, resolve, invoke, builtin, hd, hs, hr, Result.andThen]
  exact h _ h1 h2

theorem i64_in (n : Int) (h0 : 0 ≤ n) (h1 : n ≤ 4611686018427387904) : IntKind.i64.wrap n = n := by rw [IntKind.wrap_i64]; omega
end Go.Proofs.YtaelfgdiboekpaaDoor.Ce
