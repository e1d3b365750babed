/-
  Plain facts on rows of addresses at which two memories are unlike, of which no statement of its own is claimed.
-/
import Derived.Test.YtaelfgdiboekpaaDoorCeA
namespace Go.Proofs.YtaelfgdiboekpaaDoor.Ce
set_option maxRecDepth 100000

/-- Have two lists the same byte at a place? -/
def likeB (ps bs : List (BitVec 8)) (i : Nat) : Bool := decide (i < ps.length) && decide (i < bs.length) && (ps.getD i 0#8 == bs.getD i 0#8)
theorem likeB_comm (ps bs : List (BitVec 8)) (i : Nat) : likeB ps bs i = likeB bs ps i := by
  unfold likeB
  rw [Bool.and_comm (decide (i < ps.length)), Bool.eq_iff_iff]
  simp only [Bool.and_eq_true, beq_iff_eq]
  exact ⟨fun h => ⟨h.1, h.2.symm⟩, fun h => ⟨h.1, h.2.symm⟩⟩
theorem likeB_self (ps : List (BitVec 8)) (i : Nat) (h : i < ps.length) : likeB ps ps i = true := by simp [likeB, h]
/-- The rows with one more, if there is anything in it. -/
def addL (l : List (Nat × Nat)) (a b : Nat) : List (Nat × Nat) := if a = b then l else l ++ [(a, b - a)]
/-- By the rows between like addresses. -/
def cellsTo (f : Nat → Bool) : Nat → List (Nat × Nat) × Nat
  | 0 => ([], 0)
  | i + 1 => if f i then (addL (cellsTo f i).1 (cellsTo f i).2 i, i + 1) else cellsTo f i
def diffL (f : Nat → Bool) (E : Nat) : List (Nat × Nat) := addL (cellsTo f E).1 (cellsTo f E).2 E
theorem cellsTo_le (f : Nat → Bool) : ∀ i, (cellsTo f i).2 ≤ i
  | 0 => Nat.le_refl _
  | i + 1 => by
    rw [cellsTo]
    have := cellsTo_le f i
    split
    · exact Nat.le_refl _
    · omega
theorem addL_length (l : List (Nat × Nat)) (a b : Nat) : (addL l a b).length ≤ l.length + 1 := by unfold addL; split <;> simp
theorem cellsTo_length (f : Nat → Bool) : ∀ i, (cellsTo f i).1.length ≤ i
  | 0 => Nat.le_refl _
  | i + 1 => by
    rw [cellsTo]
    have h := cellsTo_length f i
    split
    · have := addL_length (cellsTo f i).1 (cellsTo f i).2 i
      show (addL _ _ _).length ≤ _
      omega
    · omega
theorem diffL_length (f : Nat → Bool) (E : Nat) : (diffL f E).length ≤ E + 1 := by
  have h := cellsTo_length f E
  have := addL_length (cellsTo f E).1 (cellsTo f E).2 E
  unfold diffL; omega
theorem cellsTo_congr {f g : Nat → Bool} : ∀ {i : Nat}, (∀ j, j < i → f j = g j) → cellsTo f i = cellsTo g i
  | 0, _ => rfl
  | i + 1, h => by rw [cellsTo, cellsTo, cellsTo_congr (i := i) (fun j hj => h j (by omega)), h i (by omega)]
theorem cellsTo_same {f : Nat → Bool} : ∀ {i : Nat}, (∀ j, j < i → f j = true) → cellsTo f i = ([], i)
  | 0, _ => rfl
  | i + 1, h => by
    rw [cellsTo, cellsTo_same (i := i) (fun j hj => h j (by omega)), if_pos (h i (by omega))]
    simp [addL]
theorem diff_same (ps : List (BitVec 8)) : diffL (likeB ps ps) ps.length = [] := by
  rw [diffL, cellsTo_same (fun j hj => likeB_self ps j hj)]; simp [addL]
theorem diff_comm (ps bs : List (BitVec 8)) (E : Nat) : diffL (likeB ps bs) E = diffL (likeB bs ps) E := by
  rw [diffL, diffL, cellsTo_congr (fun j _ => likeB_comm ps bs j)]
/-- The last row is longer by one. -/
def bump (l : List (Nat × Nat)) : List (Nat × Nat) := l.set (l.length - 1) ((l.getD (l.length - 1) (0, 0)).1, (l.getD (l.length - 1) (0, 0)).2 + 1)
/-- By unlike addresses, one after another. -/
def refTo (f : Nat → Bool) : Nat → List (Nat × Nat) × Bool
  | 0 => ([], false)
  | i + 1 => if f i then ((refTo f i).1, false) else if (refTo f i).2 then (bump (refTo f i).1, true) else ((refTo f i).1 ++ [(i, 1)], true)
theorem bump_last (l : List (Nat × Nat)) (a n : Nat) : bump (l ++ [(a, n)]) = l ++ [(a, n + 1)] := by
  have e : (l ++ [(a, n)]).getD ((l ++ [(a, n)]).length - 1) (0, 0) = (a, n) := by
    simp [List.getD_eq_getElem?_getD]
  unfold bump
  rw [e]
  simp
theorem ref_cells (f : Nat → Bool) : ∀ i, refTo f i = (addL (cellsTo f i).1 (cellsTo f i).2 i, decide ((cellsTo f i).2 < i))
  | 0 => rfl
  | i + 1 => by
    have hle := cellsTo_le f i
    rw [refTo, cellsTo, ref_cells f i]
    by_cases h : f i = true
    · rw [if_pos h, if_pos h]; simp [addL]
    · rw [if_neg h, if_neg h]
      by_cases h2 : (cellsTo f i).2 < i
      · have e1 : (cellsTo f i).2 ≠ i := by omega
        have e2 : (cellsTo f i).2 ≠ i + 1 := by omega
        have e3 : (cellsTo f i).2 < i + 1 := by omega
        simp only [h2, decide_true, if_true, addL, if_neg e1, if_neg e2, bump_last, e3]
        rw [show i + 1 - (cellsTo f i).2 = i - (cellsTo f i).2 + 1 by omega]
      · have e1 : (cellsTo f i).2 = i := by omega
        rw [e1]
        simp [addL]
theorem ref_diff (f : Nat → Bool) (E : Nat) : (refTo f E).1 = diffL f E := by rw [ref_cells]; rfl
theorem ref_pos (f : Nat → Bool) (i : Nat) (h : (refTo f i).2 = true) : 0 < (refTo f i).1.length := by
  rw [ref_cells] at h ⊢
  have : (cellsTo f i).2 < i := by simpa using h
  simp [addL, show (cellsTo f i).2 ≠ i by omega]

end Go.Proofs.YtaelfgdiboekpaaDoor.Ce
