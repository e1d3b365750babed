/-
  No cell of these rows narrows 'for every input' (looked for: loops, veiled, ifaces, maps, wideKeys, modest, calm, conditions, laid).
  DERIVED. THE GIVEN ROWS OF THIS SEAT. 3 by the template 'for every input the law returns true; each argument reads behind the call as it read before'; 0 by the template 'total and deterministic' (their statements: YtadmhocpnbgegaaTotals.lean).
  GIVEN WITH THE SEED: the statements are not yours to turn. If you find one false, say at which input.
  Laid BY PROGRAM, IN A SANDBOX (cutbox-rows.mjs): the forced cells as the released guide's own fill.sh prints them over the translation 74ee3101ddf8075f… (all of the seat's roots in one cut). By AI agents, Wed Nov 11 2026. No macro, syntax, notation, axiom, sorry.
-/
import Derived.Test.YtadmhocpnbgegaaChecked
import GoSem.Claim
import GoSem.ClaimJoined
import GoSem.ClaimMapViews
import Derived.JoinedTies
import Derived.KernelRfl
namespace Go.Proofs.Ytadmhocpnbgegaa
/- THE CELL 'sum', in the pinned program and in every row, IS THE sha256 OF THE DUMP (.gsa) THAT YtadmhocpnbgegaaProg.lean LOADS. Nothing in Lean hashes anything: it is a label: what it is worth is what the hold of that sum in a sandbox is worth. -/
noncomputable def Try.pinned : Pinned := { name := "ytadmhocpnbgegaa", sum := "74ee3101ddf8075f16a0f2fb253b38a6bd4b3e01516a0b16aea7afe4248cc1ae", checked := Try.checked }
namespace Rows
def none {H : Type} : Left H := { results := [], args := [] }

/-- 'underpinlaw10.RadixCalls': WHATEVER THE INPUT: true; the input reads as it did. -/
def radixCallsSpec : ChangeSpec := { name := "radixCalls", fn := fun _ => fun
  | [d1, d2, d3, d4] => { results := [.lit (.bool true)], args := [d1, d2, d3, d4] }
  | _ => none }
def radixCallsRow : OpenClaim := { program := "ytadmhocpnbgegaa", sum := "74ee3101ddf8075f16a0f2fb253b38a6bd4b3e01516a0b16aea7afe4248cc1ae", func := "underpin/underpinlaw10.RadixCalls", spec := "radixCalls", apart := false }
def RadixCallsSaid : Prop := radixCallsRow.holds Try.pinned (OpenSpec.ofChange radixCallsSpec)

/-- ITS FALSE NEIGHBOUR: 'it returns false'. Refute it at one input. -/
def radixCallsWrong : ChangeSpec := { name := "radixCalls", fn := fun _ => fun
  | [d1, d2, d3, d4] => { results := [.lit (.bool false)], args := [d1, d2, d3, d4] }
  | _ => none }
def RadixCallsWrongFalsely : Prop := radixCallsRow.holds Try.pinned (OpenSpec.ofChange radixCallsWrong)

/-- 'underpinlaw10.RadixStamps': WHATEVER THE INPUT: true; the input reads as it did. -/
def radixStampsSpec : ChangeSpec := { name := "radixStamps", fn := fun _ => fun
  | [d1, d2] => { results := [.lit (.bool true)], args := [d1, d2] }
  | _ => none }
def radixStampsRow : OpenClaim := { program := "ytadmhocpnbgegaa", sum := "74ee3101ddf8075f16a0f2fb253b38a6bd4b3e01516a0b16aea7afe4248cc1ae", func := "underpin/underpinlaw10.RadixStamps", spec := "radixStamps", apart := false }
def RadixStampsSaid : Prop := radixStampsRow.holds Try.pinned (OpenSpec.ofChange radixStampsSpec)

/-- ITS FALSE NEIGHBOUR: 'it returns false'. Refute it at one input. -/
def radixStampsWrong : ChangeSpec := { name := "radixStamps", fn := fun _ => fun
  | [d1, d2] => { results := [.lit (.bool false)], args := [d1, d2] }
  | _ => none }
def RadixStampsWrongFalsely : Prop := radixStampsRow.holds Try.pinned (OpenSpec.ofChange radixStampsWrong)

/-- 'underpinlaw10.RadixTold': WHATEVER THE INPUT: true; the input reads as it did. -/
def radixToldSpec : ChangeSpec := { name := "radixTold", fn := fun _ => fun
  | [d1, d2, d3, d4, d5] => { results := [.lit (.bool true)], args := [d1, d2, d3, d4, d5] }
  | _ => none }
def radixToldRow : OpenClaim := { program := "ytadmhocpnbgegaa", sum := "74ee3101ddf8075f16a0f2fb253b38a6bd4b3e01516a0b16aea7afe4248cc1ae", func := "underpin/underpinlaw10.RadixTold", spec := "radixTold", apart := false }
def RadixToldSaid : Prop := radixToldRow.holds Try.pinned (OpenSpec.ofChange radixToldSpec)

/-- ITS FALSE NEIGHBOUR: 'it returns false'. Refute it at one input. -/
def radixToldWrong : ChangeSpec := { name := "radixTold", fn := fun _ => fun
  | [d1, d2, d3, d4, d5] => { results := [.lit (.bool false)], args := [d1, d2, d3, d4, d5] }
  | _ => none }
def RadixToldWrongFalsely : Prop := radixToldRow.holds Try.pinned (OpenSpec.ofChange radixToldWrong)

/- THE SECOND FORM. 'bulk': how many values and letters a reading holds, each counted each time it is reached (what is shared counts as often as it is met; a slice's spare places count too). A statement '..UptoSaid' is the law's where the arguments, and the package variables that the reading takes, are together of bulk at most 1048576: NARROWER than '..Said'. Prove '..Said' where nothing that the law and all that it calls make is longer than what came in: it says more and counts as full. Else prove '..UptoSaid'. A law counts once. -/
mutual
def uptoBulk {H : Type} : DataW H → Nat
  | .lit (.string bytes) => bytes.length + 1
  | .lit _ => 1
  | .nil => 1
  | .ptr d => uptoBulk d + 1
  | .slice elems spare => uptoBulkAll elems + uptoBulkAll spare + 1
  | .agg parts => uptoBulkAll parts + 1
  | .iface _ d => uptoBulk d + 1
  | .map entries => uptoBulkEntries entries + 1
  | .held _ => 1
def uptoBulkAll {H : Type} : List (DataW H) → Nat
  | [] => 0
  | d :: r => uptoBulk d + uptoBulkAll r
def uptoBulkEntries {H : Type} : List (Lit × DataW H) → Nat
  | [] => 0
  | x :: r => uptoBulkEntry x + uptoBulkEntries r
def uptoBulkEntry {H : Type} : Lit × DataW H → Nat
  | (.string bytes, d) => bytes.length + uptoBulk d + 1
  | (_, d) => uptoBulk d + 1
 end
def uptoSmall : (H : Type) → List (DataW H) → Bool := fun _ ds => decide (uptoBulkAll ds ≤ 1048576)
def OpenSpec.upto (s : _root_.Go.ChangeSpec) : _root_.Go.OpenSpec := { _root_.Go.OpenSpec.ofChange s with cond := some uptoSmall }

/-- 'underpinlaw10.RadixCalls', WHERE WHAT IT READS IS OF BULK AT MOST 1048576: true; the input reads as it did. -/
def radixCallsUptoRow : OpenClaim := { program := "ytadmhocpnbgegaa", sum := "74ee3101ddf8075f16a0f2fb253b38a6bd4b3e01516a0b16aea7afe4248cc1ae", func := "underpin/underpinlaw10.RadixCalls", spec := "radixCalls", apart := false, narrowed := true }
def RadixCallsUptoSaid : Prop := radixCallsUptoRow.holds Try.pinned (OpenSpec.upto radixCallsSpec)

/-- 'underpinlaw10.RadixStamps', WHERE WHAT IT READS IS OF BULK AT MOST 1048576: true; the input reads as it did. -/
def radixStampsUptoRow : OpenClaim := { program := "ytadmhocpnbgegaa", sum := "74ee3101ddf8075f16a0f2fb253b38a6bd4b3e01516a0b16aea7afe4248cc1ae", func := "underpin/underpinlaw10.RadixStamps", spec := "radixStamps", apart := false, narrowed := true }
def RadixStampsUptoSaid : Prop := radixStampsUptoRow.holds Try.pinned (OpenSpec.upto radixStampsSpec)

/-- 'underpinlaw10.RadixTold', WHERE WHAT IT READS IS OF BULK AT MOST 1048576: true; the input reads as it did. -/
def radixToldUptoRow : OpenClaim := { program := "ytadmhocpnbgegaa", sum := "74ee3101ddf8075f16a0f2fb253b38a6bd4b3e01516a0b16aea7afe4248cc1ae", func := "underpin/underpinlaw10.RadixTold", spec := "radixTold", apart := false, narrowed := true }
def RadixToldUptoSaid : Prop := radixToldUptoRow.holds Try.pinned (OpenSpec.upto radixToldSpec)

end Rows
end Go.Proofs.Ytadmhocpnbgegaa
