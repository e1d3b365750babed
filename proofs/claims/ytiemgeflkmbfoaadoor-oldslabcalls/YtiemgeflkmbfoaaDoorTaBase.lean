/-
  Plain facts on the classes of the old layout, of which no statement of its own is claimed.
-/
import Derived.Laws.BitsAllLaws
import Derived.Laws.BitsLemmas
namespace Go.Proofs.YtiemgeflkmbfoaaDoor.Ta
set_option maxRecDepth 100000
/-! ### The classes -/
def szs : List Int := [16, 32, 48, 64, 80, 96, 112, 128, 160, 192, 224, 256, 320, 384, 448, 512]
/-- A class's size. -/
def sz (k : Nat) : Int := szs.getD k 0
theorem sz_bd : ∀ k, k < 16 → 16 ≤ sz k ∧ sz k ≤ 512 := by decide +kernel
/-- Is there such a class? -/
def classB (c : Int) : Bool := decide (0 ≤ c ∧ c < 16)
theorem classB_iff {c : Int} : classB c = true ↔ 0 ≤ c ∧ c < 16 := by simp [classB]
theorem classB_not {c : Int} : classB c = false ↔ ¬ (0 ≤ c ∧ c < 16) := by simp only [classB, decide_eq_false_iff_not]
/-- Size and Slots, of any number. -/
def sizeOf' (c : Int) : Int := if 0 ≤ c ∧ c < 16 then sz c.toNat else 0
def slotsOf (c : Int) : Int := if 0 ≤ c ∧ c < 16 then 1024 / sz c.toNat else 0
theorem sizeOf_no {c : Int} (h : classB c = false) : sizeOf' c = 0 := if_neg (classB_not.1 h)
theorem slotsOf_no {c : Int} (h : classB c = false) : slotsOf c = 0 := if_neg (classB_not.1 h)
theorem sizeOf_nat {k : Nat} (h : k < 16) : sizeOf' (k : Int) = sz k := by unfold sizeOf'; rw [if_pos (by omega)]; rfl
theorem slotsOf_nat {k : Nat} (h : k < 16) : slotsOf (k : Int) = 1024 / sz k := by unfold slotsOf; rw [if_pos (by omega)]; rfl
end Go.Proofs.YtiemgeflkmbfoaaDoor.Ta
