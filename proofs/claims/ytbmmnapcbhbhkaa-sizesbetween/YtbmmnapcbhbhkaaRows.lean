/-
  No cell of these rows narrows 'for every input' (looked for: loops, veiled, ifaces, maps, wideKeys, modest, calm, conditions, laid).
  DERIVED. THE GIVEN ROWS OF THIS SEAT. 4 by the template 'for every input the law returns true; each argument reads behind the call as it read before'; 0 by the template 'total and deterministic' (their statements: YtbmmnapcbhbhkaaTotals.lean).
  GIVEN WITH THE SEED: the statements are not yours to turn. If you find one false, say at which input.
  Laid BY PROGRAM, IN A SANDBOX (cutbox-rows.mjs): the forced cells as the released guide's own fill.sh prints them over the translation 79c6367f7dd57944… (all of the seat's roots in one cut). By AI agents, Wed Nov 11 2026. No macro, syntax, notation, axiom, sorry.
-/
import Derived.Test.YtbmmnapcbhbhkaaChecked
import GoSem.Claim
import GoSem.ClaimJoined
import GoSem.ClaimMapViews
import Derived.JoinedTies
import Derived.KernelRfl
namespace Go.Proofs.Ytbmmnapcbhbhkaa
/- THE CELL 'sum', in the pinned program and in every row, IS THE sha256 OF THE DUMP (.gsa) THAT YtbmmnapcbhbhkaaProg.lean LOADS. Nothing in Lean hashes anything: it is a label: what it is worth is what the hold of that sum in a sandbox is worth. -/
noncomputable def Try.pinned : Pinned := { name := "ytbmmnapcbhbhkaa", sum := "79c6367f7dd579442afba906ebf3129e25f1b96fc0bb7e771878eb3aacb86941", checked := Try.checked }
namespace Rows
def none {H : Type} : Left H := { results := [], args := [] }

/-- 'underpinlaw04.SizesRequests': WHATEVER THE INPUT: true; the input reads as it did. -/
def sizesRequestsSpec : ChangeSpec := { name := "sizesRequests", fn := fun _ => fun
  | [d1, d2] => { results := [.lit (.bool true)], args := [d1, d2] }
  | _ => none }
def sizesRequestsRow : OpenClaim := { program := "ytbmmnapcbhbhkaa", sum := "79c6367f7dd579442afba906ebf3129e25f1b96fc0bb7e771878eb3aacb86941", func := "underpin/underpinlaw04.SizesRequests", spec := "sizesRequests", apart := false }
def SizesRequestsSaid : Prop := sizesRequestsRow.holds Try.pinned (OpenSpec.ofChange sizesRequestsSpec)

/-- ITS FALSE NEIGHBOUR: 'it returns false'. Refute it at one input. -/
def sizesRequestsWrong : ChangeSpec := { name := "sizesRequests", fn := fun _ => fun
  | [d1, d2] => { results := [.lit (.bool false)], args := [d1, d2] }
  | _ => none }
def SizesRequestsWrongFalsely : Prop := sizesRequestsRow.holds Try.pinned (OpenSpec.ofChange sizesRequestsWrong)

/-- 'underpinlaw04.SizesRounds': WHATEVER THE INPUT: true; the input reads as it did. -/
def sizesRoundsSpec : ChangeSpec := { name := "sizesRounds", fn := fun _ => fun
  | [d1, d2] => { results := [.lit (.bool true)], args := [d1, d2] }
  | _ => none }
def sizesRoundsRow : OpenClaim := { program := "ytbmmnapcbhbhkaa", sum := "79c6367f7dd579442afba906ebf3129e25f1b96fc0bb7e771878eb3aacb86941", func := "underpin/underpinlaw04.SizesRounds", spec := "sizesRounds", apart := false }
def SizesRoundsSaid : Prop := sizesRoundsRow.holds Try.pinned (OpenSpec.ofChange sizesRoundsSpec)

/-- ITS FALSE NEIGHBOUR: 'it returns false'. Refute it at one input. -/
def sizesRoundsWrong : ChangeSpec := { name := "sizesRounds", fn := fun _ => fun
  | [d1, d2] => { results := [.lit (.bool false)], args := [d1, d2] }
  | _ => none }
def SizesRoundsWrongFalsely : Prop := sizesRoundsRow.holds Try.pinned (OpenSpec.ofChange sizesRoundsWrong)

/-- 'underpinlaw04.SizesBetween': WHATEVER THE INPUT: true; the input reads as it did. -/
def sizesBetweenSpec : ChangeSpec := { name := "sizesBetween", fn := fun _ => fun
  | [d1, d2, d3] => { results := [.lit (.bool true)], args := [d1, d2, d3] }
  | _ => none }
def sizesBetweenRow : OpenClaim := { program := "ytbmmnapcbhbhkaa", sum := "79c6367f7dd579442afba906ebf3129e25f1b96fc0bb7e771878eb3aacb86941", func := "underpin/underpinlaw04.SizesBetween", spec := "sizesBetween", apart := false }
def SizesBetweenSaid : Prop := sizesBetweenRow.holds Try.pinned (OpenSpec.ofChange sizesBetweenSpec)

/-- ITS FALSE NEIGHBOUR: 'it returns false'. Refute it at one input. -/
def sizesBetweenWrong : ChangeSpec := { name := "sizesBetween", fn := fun _ => fun
  | [d1, d2, d3] => { results := [.lit (.bool false)], args := [d1, d2, d3] }
  | _ => none }
def SizesBetweenWrongFalsely : Prop := sizesBetweenRow.holds Try.pinned (OpenSpec.ofChange sizesBetweenWrong)

/-- 'underpinlaw04.SizesPowers': WHATEVER THE INPUT: true; the input reads as it did. -/
def sizesPowersSpec : ChangeSpec := { name := "sizesPowers", fn := fun _ => fun
  | [d] => { results := [.lit (.bool true)], args := [d] }
  | _ => none }
def sizesPowersRow : OpenClaim := { program := "ytbmmnapcbhbhkaa", sum := "79c6367f7dd579442afba906ebf3129e25f1b96fc0bb7e771878eb3aacb86941", func := "underpin/underpinlaw04.SizesPowers", spec := "sizesPowers", apart := false }
def SizesPowersSaid : Prop := sizesPowersRow.holds Try.pinned (OpenSpec.ofChange sizesPowersSpec)

/-- ITS FALSE NEIGHBOUR: 'it returns false'. Refute it at one input. -/
def sizesPowersWrong : ChangeSpec := { name := "sizesPowers", fn := fun _ => fun
  | [d] => { results := [.lit (.bool false)], args := [d] }
  | _ => none }
def SizesPowersWrongFalsely : Prop := sizesPowersRow.holds Try.pinned (OpenSpec.ofChange sizesPowersWrong)

/- THE SECOND FORM. 'bulk': how many values and letters a reading holds, each counted each time it is reached (what is shared counts as often as it is met; a slice's spare places count too). A statement '..UptoSaid' is the law's where the arguments, and the package variables that the reading takes, are together of bulk at most 1048576: NARROWER than '..Said'. Prove '..Said' where nothing that the law and all that it calls make is longer than what came in: it says more and counts as full. Else prove '..UptoSaid'. A law counts once. -/
mutual
def uptoBulk {H : Type} : DataW H → Nat
  | .lit (.string bytes) => bytes.length + 1
  | .lit _ => 1
  | .nil => 1
  | .ptr d => uptoBulk d + 1
  | .slice elems spare => uptoBulkAll elems + uptoBulkAll spare + 1
  | .agg parts => uptoBulkAll parts + 1
  | .iface _ d => uptoBulk d + 1
  | .map entries => uptoBulkEntries entries + 1
  | .held _ => 1
def uptoBulkAll {H : Type} : List (DataW H) → Nat
  | [] => 0
  | d :: r => uptoBulk d + uptoBulkAll r
def uptoBulkEntries {H : Type} : List (Lit × DataW H) → Nat
  | [] => 0
  | x :: r => uptoBulkEntry x + uptoBulkEntries r
def uptoBulkEntry {H : Type} : Lit × DataW H → Nat
  | (.string bytes, d) => bytes.length + uptoBulk d + 1
  | (_, d) => uptoBulk d + 1
 end
def uptoSmall : (H : Type) → List (DataW H) → Bool := fun _ ds => decide (uptoBulkAll ds ≤ 1048576)
def OpenSpec.upto (s : _root_.Go.ChangeSpec) : _root_.Go.OpenSpec := { _root_.Go.OpenSpec.ofChange s with cond := some uptoSmall }

/-- 'underpinlaw04.SizesRequests', WHERE WHAT IT READS IS OF BULK AT MOST 1048576: true; the input reads as it did. -/
def sizesRequestsUptoRow : OpenClaim := { program := "ytbmmnapcbhbhkaa", sum := "79c6367f7dd579442afba906ebf3129e25f1b96fc0bb7e771878eb3aacb86941", func := "underpin/underpinlaw04.SizesRequests", spec := "sizesRequests", apart := false, narrowed := true }
def SizesRequestsUptoSaid : Prop := sizesRequestsUptoRow.holds Try.pinned (OpenSpec.upto sizesRequestsSpec)

/-- 'underpinlaw04.SizesRounds', WHERE WHAT IT READS IS OF BULK AT MOST 1048576: true; the input reads as it did. -/
def sizesRoundsUptoRow : OpenClaim := { program := "ytbmmnapcbhbhkaa", sum := "79c6367f7dd579442afba906ebf3129e25f1b96fc0bb7e771878eb3aacb86941", func := "underpin/underpinlaw04.SizesRounds", spec := "sizesRounds", apart := false, narrowed := true }
def SizesRoundsUptoSaid : Prop := sizesRoundsUptoRow.holds Try.pinned (OpenSpec.upto sizesRoundsSpec)

/-- 'underpinlaw04.SizesBetween', WHERE WHAT IT READS IS OF BULK AT MOST 1048576: true; the input reads as it did. -/
def sizesBetweenUptoRow : OpenClaim := { program := "ytbmmnapcbhbhkaa", sum := "79c6367f7dd579442afba906ebf3129e25f1b96fc0bb7e771878eb3aacb86941", func := "underpin/underpinlaw04.SizesBetween", spec := "sizesBetween", apart := false, narrowed := true }
def SizesBetweenUptoSaid : Prop := sizesBetweenUptoRow.holds Try.pinned (OpenSpec.upto sizesBetweenSpec)

/-- 'underpinlaw04.SizesPowers', WHERE WHAT IT READS IS OF BULK AT MOST 1048576: true; the input reads as it did. -/
def sizesPowersUptoRow : OpenClaim := { program := "ytbmmnapcbhbhkaa", sum := "79c6367f7dd579442afba906ebf3129e25f1b96fc0bb7e771878eb3aacb86941", func := "underpin/underpinlaw04.SizesPowers", spec := "sizesPowers", apart := false, narrowed := true }
def SizesPowersUptoSaid : Prop := sizesPowersUptoRow.holds Try.pinned (OpenSpec.upto sizesPowersSpec)

end Rows
end Go.Proofs.Ytbmmnapcbhbhkaa
