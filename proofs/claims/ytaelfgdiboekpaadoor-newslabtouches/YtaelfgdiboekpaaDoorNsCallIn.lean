/-
  How a call that comes in is read: a lemma that the claimed proof uses.
-/
import Derived.Test.YtaelfgdiboekpaaDoorNsCallsIn
import Derived.Test.YtaelfgdiboekpaaDoorNsDone
namespace Go.Proofs.YtaelfgdiboekpaaDoor.Ns
set_option maxRecDepth 100000
open Go.ChangeShapes Go.WideShapes Go.ChangeAt Go.RowKit Go.Joins Go.Deep

theorem open_call {H : Type} {enc : TypeId × Value → H} {W : World} {r : Reach} {b0 : Nat} {v : Value} {dd : DataW H} {p : List MemPlace} (hval : Value.okWide Tryd.prog W r b0 55 v) (h : DataW.Trod enc Tryd.prog W 0 (fun _ => true) true 55 v dd p) :
    ∃ X : Cl, v = X.val ∧ In W X.A X.n X.cap X.xs ∧ I64 X.a ∧ Ib W X.B X.m X.mcap X.ys := by
  obtain ⟨cs, rfl, hsz⟩ := okWide_struct Tryd.underlying55 hval
  obtain ⟨fuel, hf⟩ := h
  have ce : Tryd.prog.cellsOf 55 = 4 := by kernel_rfl
  rw [ce] at hsz
  have e : (Value.agg cs).cells.toList = cs.toList := rfl
  rw [e] at hf
  obtain ⟨X, hX, h1, h2, h3⟩ := call_of (by simpa using hsz) hf
  refine ⟨X, ?_, h1, h2, h3⟩
  unfold Cl.val
  congr 1
  exact Array.ext' hX
end Go.Proofs.YtaelfgdiboekpaaDoor.Ns
