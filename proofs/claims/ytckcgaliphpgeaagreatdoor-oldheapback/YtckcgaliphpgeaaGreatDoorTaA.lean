import Derived.Laws.BitsAllLaws
import Derived.Laws.BitsLemmas
import Derived.Lib.TrailingZeros
import Derived.Lib.BitFns
import Derived.Test.YtckcgaliphpgeaaGreatDoorRows
import Derived.WalkKit
import Derived.WalkSpells
import Derived.WalkLawsBesides
import Derived.Deep.QuietTactic
import Derived.BigQuiet
import Derived.Deep.RegionHeld3
import Derived.Lib.Hide
import Derived.Deep.WholeRow
/-
  Plain facts on powers of 2 and on the classes of the old layout, of which no statement of its own is claimed.
-/
namespace Go.Proofs.YtckcgaliphpgeaaGreatDoor.Ta
set_option maxRecDepth 100000

/-! ### Sizes and powers -/
/-- A number from 0 to 2^40. -/
def sizeB (n : Int) : Bool := decide (0 ≤ n ∧ n ≤ 1099511627776)
theorem sizeB_iff {n : Int} : sizeB n = true ↔ 0 ≤ n ∧ n ≤ 1099511627776 := by simp [sizeB]
theorem sizeB_not {n : Int} : sizeB n = false ↔ ¬ (0 ≤ n ∧ n ≤ 1099511627776) := by simp only [sizeB, decide_eq_false_iff_not]
/-- A power of 2 from 1 to 2^40. -/
def powB (n : Int) : Bool := (List.range 41).any fun k => n == 2 ^ k
theorem powB_iff {n : Int} : powB n = true ↔ ∃ k : Nat, k ≤ 40 ∧ n = 2 ^ k := by
  unfold powB
  rw [List.any_eq_true]
  constructor
  · rintro ⟨k, hk, e⟩; exact ⟨k, by have := List.mem_range.1 hk; omega, by simpa using e⟩
  · rintro ⟨k, hk, e⟩; exact ⟨k, List.mem_range.2 (by omega), by simpa using e⟩
theorem pow_bd {k : Nat} (h : k ≤ 40) : 1 ≤ (2 : Int) ^ k ∧ (2 : Int) ^ k ≤ 1099511627776 := by
  have h1 : 2 ^ k ≤ 2 ^ 40 := Nat.pow_le_pow_right (by decide) h
  have h2 : 0 < 2 ^ k := Nat.two_pow_pos k
  have e : ((2 : Int) ^ k) = ((2 ^ k : Nat) : Int) := by rw [Int.natCast_pow]; rfl
  rw [e]; omega
theorem powB_bd {n : Int} (h : powB n = true) : 1 ≤ n ∧ n ≤ 1099511627776 := by
  obtain ⟨k, hk, rfl⟩ := powB_iff.1 h; exact pow_bd hk

/-! ### The greatest power that a number is a multiple of -/
theorem odd_inj : ∀ (a b m q : Nat), 2 ^ a * (2 * m + 1) = 2 ^ b * (2 * q + 1) → a = b
  | 0, 0, _, _, _ => rfl
  | 0, b + 1, m, q, h => by rw [Nat.pow_succ, Nat.mul_right_comm] at h; omega
  | a + 1, 0, m, q, h => by rw [Nat.pow_succ, Nat.mul_right_comm] at h; omega
  | a + 1, b + 1, m, q, h => by
    rw [Nat.pow_succ, Nat.pow_succ, Nat.mul_right_comm (2 ^ a), Nat.mul_right_comm (2 ^ b)] at h
    rw [odd_inj a b m q (by omega)]
/-- The greatest power of 2 that a number is a multiple of. -/
def gr (N : Nat) : Nat := 2 ^ Lib.ctz 64 N
theorem gr_spec {N : Nat} (h0 : 1 ≤ N) (h1 : N < 2 ^ 64) : ∃ k m, gr N = 2 ^ k ∧ N = 2 ^ k * (2 * m + 1) := by
  obtain ⟨m, hm, _⟩ := Lib.ctzFrom_spec 64 N (by omega) h1
  refine ⟨Lib.ctzFrom 64 N, m, ?_, hm⟩
  unfold gr Lib.ctz; rw [if_neg (by omega)]
theorem gr_of {N k m : Nat} (h1 : N < 2 ^ 64) (h : N = 2 ^ k * (2 * m + 1)) : gr N = 2 ^ k := by
  have h0 : 1 ≤ N := by have := Nat.mul_pos (Nat.two_pow_pos k) (by omega : 0 < 2 * m + 1); omega
  obtain ⟨j, q, e, hN⟩ := gr_spec h0 h1
  rw [e, odd_inj j k q m (by rw [← hN, ← h])]
theorem gr_le {N : Nat} (h0 : 1 ≤ N) (h1 : N < 2 ^ 64) : 1 ≤ gr N ∧ gr N ≤ N := by
  obtain ⟨k, m, e, hN⟩ := gr_spec h0 h1
  have h2 : 0 < 2 ^ k := Nat.two_pow_pos k
  have h3 : 2 ^ k ≤ 2 ^ k * (2 * m + 1) := Nat.le_mul_of_pos_right _ (by omega)
  rw [e]; omega
theorem gr_raw {N : Nat} (h0 : 1 ≤ N) (h1 : N < 9223372036854775808) : bits .and .i64 (N : Int) (-(N : Int)) = (gr N : Int) := by
  show IntKind.i64.wrap ((BitVec.ofInt 64 (N : Int) &&& BitVec.ofInt 64 (-(N : Int))).toNat : Int) = _
  have e1 : (BitVec.ofInt 64 (N : Int)).toNat = N := by rw [BitVec.toNat_ofInt]; omega
  have e2 : (BitVec.ofInt 64 (-(N : Int))).toNat = 2 ^ 64 - N := by rw [BitVec.toNat_ofInt]; omega
  obtain ⟨k, m, e, hN⟩ := gr_spec h0 (by omega)
  have hb := gr_le h0 (by omega)
  have e3 := Lib.and_neg 64 k m (by rw [← hN]; omega)
  rw [← hN, ← e] at e3
  rw [BitVec.toNat_and, e1, e2, e3, IntKind.wrap_i64]
  omega
/-- What Grain tells. -/
def grain (n : Int) : Int := if n < 1 then 0 else (gr n.toNat : Int)
theorem grain_no {n : Int} (h : n < 1) : grain n = 0 := if_pos h
theorem grain_nat {N : Nat} (h : 1 ≤ N) : grain (N : Int) = (gr N : Int) := by
  unfold grain; rw [if_neg (by omega)]; rfl
theorem pow_cast (k : Nat) : ((2 ^ k : Nat) : Int) = (2 : Int) ^ k := by rw [Int.natCast_pow]; rfl
theorem pow_grain {n : Int} (h0 : 1 ≤ n) (h1 : n ≤ 1099511627776) : powB n = (grain n == n) := by
  obtain ⟨N, rfl⟩ := Int.eq_ofNat_of_zero_le (by omega : 0 ≤ n)
  rw [Bool.eq_iff_iff, beq_iff_eq, powB_iff, grain_nat (by omega)]
  obtain ⟨k, m, e, hN⟩ := gr_spec (N := N) (by omega) (by omega)
  constructor
  · rintro ⟨j, hj, h⟩
    have h2 : N = 2 ^ j * (2 * 0 + 1) := by rw [← pow_cast] at h; omega
    rw [gr_of (by omega) h2]; omega
  · intro h
    have h2 : N = 2 ^ k := by rw [← e]; omega
    refine ⟨k, ?_, by rw [← pow_cast, ← h2]⟩
    apply Nat.le_of_not_lt
    intro hk
    have : 2 ^ 41 ≤ 2 ^ k := Nat.pow_le_pow_right (by decide) hk
    omega
theorem pow_out {n : Int} (h : ¬ (1 ≤ n ∧ n ≤ 1099511627776)) : powB n = false := by
  rw [Bool.eq_false_iff]; intro e; exact h (powB_bd e)

/-! ### The classes -/
def szs : List Int := [16, 32, 48, 64, 80, 96, 112, 128, 160, 192, 224, 256, 320, 384, 448, 512]
/-- A class's size. -/
def sz (k : Nat) : Int := szs.getD k 0
theorem sz_bd : ∀ k, k < 16 → 16 ≤ sz k ∧ sz k ≤ 512 := by decide +kernel
/-- Is there such a class? -/
def classB (c : Int) : Bool := decide (0 ≤ c ∧ c < 16)
theorem classB_iff {c : Int} : classB c = true ↔ 0 ≤ c ∧ c < 16 := by simp [classB]
theorem classB_not {c : Int} : classB c = false ↔ ¬ (0 ≤ c ∧ c < 16) := by simp only [classB, decide_eq_false_iff_not]
/-- Size and Slots, of any number. -/
def sizeOf' (c : Int) : Int := if 0 ≤ c ∧ c < 16 then sz c.toNat else 0
def slotsOf (c : Int) : Int := if 0 ≤ c ∧ c < 16 then 1024 / sz c.toNat else 0
theorem sizeOf_no {c : Int} (h : classB c = false) : sizeOf' c = 0 := if_neg (classB_not.1 h)
theorem slotsOf_no {c : Int} (h : classB c = false) : slotsOf c = 0 := if_neg (classB_not.1 h)
theorem sizeOf_nat {k : Nat} (h : k < 16) : sizeOf' (k : Int) = sz k := by unfold sizeOf'; rw [if_pos (by omega)]; rfl
theorem slotsOf_nat {k : Nat} (h : k < 16) : slotsOf (k : Int) = 1024 / sz k := by unfold slotsOf; rw [if_pos (by omega)]; rfl
/-- An alignment: a power of 2 from 1 to 4,096. -/
def alignB (a : Int) : Bool := decide (a ≤ 4096) && powB a
theorem alignB_bd {a : Int} (h : alignB a = true) : 1 ≤ a ∧ a ≤ 4096 := by
  simp only [alignB, Bool.and_eq_true, decide_eq_true_eq] at h
  exact ⟨(powB_bd h.2).1, h.1⟩
theorem alignB_one : alignB 1 = true := by decide +kernel
/-- Does a class hold so many bytes, at multiples of an alignment? -/
def fits (n a : Int) (k : Nat) : Bool := decide (n ≤ sz k) && (sz k % a == 0)
/-- None of the first classes does. -/
def noneTo (n a : Int) (k : Nat) : Prop := ∀ j, j < k → fits n a j = false
theorem noneTo_zero (n a : Int) : noneTo n a 0 := fun j hj => by omega
theorem noneTo_on {n a : Int} {k : Nat} (h : noneTo n a k) (h2 : fits n a k = false) : noneTo n a (k + 1) := fun j hj => by
  by_cases e : j = k
  · subst e; exact h2
  · exact h j (by omega)
/-- The first class that does; -1, if there is none. -/
def seek (n a : Int) : Nat → Nat → Int
  | 0, _ => -1
  | f + 1, k => if fits n a k then (k : Int) else seek n a f (k + 1)
def first (n a : Int) : Int := if 0 ≤ n ∧ n ≤ 512 then seek n a 16 0 else -1
theorem seek_hit {n a : Int} : ∀ {f k i : Nat}, (∀ j, k ≤ j → j < i → fits n a j = false) → k ≤ i → i < k + f → fits n a i = true → seek n a f k = (i : Int)
  | 0, k, i, _, h1, h2, _ => by omega
  | f + 1, k, i, h, h1, h2, h3 => by
    unfold seek
    by_cases e : k = i
    · subst e; rw [if_pos h3]
    · rw [if_neg (by rw [h k (by omega) (by omega)]; simp)]
      exact seek_hit (fun j hj => h j (by omega)) (by omega) (by omega) h3
theorem seek_none {n a : Int} : ∀ {f k : Nat}, (∀ j, k ≤ j → j < k + f → fits n a j = false) → seek n a f k = -1
  | 0, _, _ => rfl
  | f + 1, k, h => by
    unfold seek
    rw [if_neg (by rw [h k (by omega) (by omega)]; simp)]
    exact seek_none fun j hj hl => h j (by omega) (by omega)
theorem first_hit {n a : Int} {k : Nat} (h0 : 0 ≤ n) (h1 : n ≤ 512) (h : noneTo n a k) (hk : k < 16) (hf : fits n a k = true) : first n a = (k : Int) := by
  unfold first; rw [if_pos ⟨h0, h1⟩]
  exact seek_hit (fun j _ hj => h j hj) (by omega) (by omega) hf
theorem first_none {n a : Int} (h : noneTo n a 16) : first n a = -1 := by
  unfold first; split
  · exact seek_none fun j _ hj => h j (by omega)
  · rfl
theorem first_out {n a : Int} (h : ¬ (0 ≤ n ∧ n ≤ 512)) : first n a = -1 := if_neg h
theorem seek_is {n a : Int} : ∀ {f k : Nat}, (seek n a f k = -1 ∧ ∀ j, k ≤ j → j < k + f → fits n a j = false) ∨ ∃ i : Nat, seek n a f k = (i : Int) ∧ k ≤ i ∧ i < k + f ∧ fits n a i = true ∧ ∀ j, k ≤ j → j < i → fits n a j = false
  | 0, k => Or.inl ⟨rfl, fun j h1 h2 => by omega⟩
  | f + 1, k => by
    unfold seek
    cases hf : fits n a k
    · rw [if_neg (by simp)]
      rcases seek_is (n := n) (a := a) (f := f) (k := k + 1) with ⟨h, hn⟩ | ⟨i, h, h1, h2, h3, h4⟩
      · refine Or.inl ⟨h, fun j hj hl => ?_⟩
        by_cases e : j = k
        · subst e; exact hf
        · exact hn j (by omega) (by omega)
      · refine Or.inr ⟨i, h, by omega, by omega, h3, fun j hj hl => ?_⟩
        by_cases e : j = k
        · subst e; exact hf
        · exact h4 j (by omega) hl
    · rw [if_pos rfl]
      exact Or.inr ⟨k, rfl, by omega, by omega, hf, fun j h1 h2 => by omega⟩
/-- What is answered is a class that holds it, and none before does; or none does. -/
theorem first_is (n a : Int) : first n a = -1 ∨ ∃ k : Nat, k < 16 ∧ first n a = (k : Int) ∧ 0 ≤ n ∧ n ≤ 512 ∧ n ≤ sz k ∧ sz k % a = 0 ∧ noneTo n a k := by
  unfold first
  by_cases h : 0 ≤ n ∧ n ≤ 512
  · rw [if_pos h]
    rcases seek_is (n := n) (a := a) (f := 16) (k := 0) with ⟨h, _⟩ | ⟨i, e, _, h2, h3, h4⟩
    · exact Or.inl h
    · simp only [fits, Bool.and_eq_true, decide_eq_true_eq, beq_iff_eq] at h3
      exact Or.inr ⟨i, by omega, e, h.1, h.2, h3.1, h3.2, fun j hj => h4 j (by omega) hj⟩
  · rw [if_neg h]; exact Or.inl rfl
/-- What Aligned answers. -/
def ans (n a : Int) : Int := if alignB a then first n a else -1
theorem ans_no {n a : Int} (h : alignB a = false) : ans n a = -1 := by unfold ans; rw [h]; rfl
theorem ans_yes {n a : Int} (h : alignB a = true) : ans n a = first n a := by unfold ans; rw [h]; rfl
theorem ans_out {n a : Int} (h : ¬ (0 ≤ n ∧ n ≤ 512)) : ans n a = -1 := by unfold ans; rw [first_out h]; split <;> rfl

end Go.Proofs.YtckcgaliphpgeaaGreatDoor.Ta

/-
  What the program's functions do, first part: contracts that the claimed proofs use.
-/
namespace Go.Proofs.YtckcgaliphpgeaaGreatDoor.Ta
set_option maxRecDepth 100000
open Go.RowKit

theorem ret_i {a b : Int} (h : a = b) : Ending.returned (.int .i64 a) = .returned (.int .i64 b) := by rw [h]
theorem ret_b {a b : Bool} (h : a = b) : Ending.returned (.bool a) = .returned (.bool b) := by rw [h]
theorem ret_ib {a b : Int} {c d : Bool} (h : a = b) (h2 : c = d) : Ending.returned (.tuple #[.int .i64 a, .bool c]) = .returned (.tuple #[.int .i64 b, .bool d]) := by rw [h, h2]
theorem ret_ii {a b c d : Int} (h : a = b) (h2 : c = d) : Ending.returned (.tuple #[.int .i64 a, .int .i64 c]) = .returned (.tuple #[.int .i64 b, .int .i64 d]) := by rw [h, h2]

/-- tablea.isClass. -/
theorem isClass_any (c : Int) (w : World) : Calls Tryz.prog 102 #[.int .i64 c] w fun e w' => e = .returned (.bool (classB c)) ∧ w = w' := by
  by_cases h0 : 0 ≤ c
  · go_enter Tryz.func102, Tryz.ntmps102
    go_wp2
    go_ret
    exact ⟨ret_b (by unfold classB; rw [decide_eq_decide]; omega), rfl⟩
  · have hd : decide (0 ≤ c) = false := by simpa using h0
    go_enter Tryz.func102, Tryz.ntmps102
    go_wp2
    go_ret
    exact ⟨ret_b (by symm; rw [classB_not]; omega), rfl⟩

end Go.Proofs.YtckcgaliphpgeaaGreatDoor.Ta

/-
  What the table is, as the walk meets it, and what Size and Slots do: contracts that the claimed proofs use.
-/
namespace Go.Proofs.YtckcgaliphpgeaaGreatDoor.Ta
set_option maxRecDepth 100000
open Go.RowKit

/-! ### The table -/
/-- The table's numbers, as cells. -/
def row : Array Value := (szs.map fun z => Value.int .i64 z).toArray
theorem row_at : ∀ j, j < 16 → row[j]? = some (.int .i64 (sz j)) := by
  intro j hj
  unfold row sz
  rw [List.getElem?_toArray, List.getElem?_map, List.getD_eq_getElem?_getD, List.getElem?_eq_getElem (by exact hj)]; rfl
theorem row_size : row.size = 16 := rfl
/-- The table lies in its block. -/
def Tab (w : World) : Prop := ∃ t fr, w.heap[0]? = some (.cells row t fr)
theorem Tab.lt {w : World} (h : Tab w) : 0 < w.heap.size := by
  obtain ⟨_, _, h⟩ := h; exact (Array.getElem?_eq_some_iff.1 h).1
theorem Tab.cell {w : World} (h : Tab w) (j : Nat) (hj : j < 16) : w.cell? ⟨0, j, none⟩ = some (.int .i64 (sz j)) := by
  obtain ⟨t, fr, h⟩ := h
  rw [cell_of_row w 0 j row t fr h]; exact row_at j hj
theorem Tab.below {w w' : World} (h : Tab w) (hb : Below w.heap.size w w') : Tab w' := by
  have hl := h.lt
  obtain ⟨t, fr, h⟩ := h
  exact ⟨t, fr, (hb.block 0 hl).trans h⟩
theorem row_index (k : Nat) (hk : k < 16) (w : World) : (Instr.index 158 (.agg row) (.int .i64 (k : Int))).run Tryz.prog w = .ok (.int .i64 (sz k)) w := by
  rcases (by omega : k = 0 ∨ k = 1 ∨ k = 2 ∨ k = 3 ∨ k = 4 ∨ k = 5 ∨ k = 6 ∨ k = 7 ∨ k = 8 ∨ k = 9 ∨ k = 10 ∨ k = 11 ∨ k = 12 ∨ k = 13 ∨ k = 14 ∨ k = 15) with rfl | rfl | rfl | rfl | rfl | rfl | rfl | rfl | rfl | rfl | rfl | rfl | rfl | rfl | rfl | rfl <;> kernel_rfl

/-- tablea.Size. -/
theorem size_no (c : Int) (w : World) (h : classB c = false) : Calls Tryz.prog 53 #[.int .i64 c] w fun e w' => e = .returned (.int .i64 (sizeOf' c)) ∧ w = w' := by
  have H := Lib.hid (sizeOf_no h)
  go_enter Tryz.func53, Tryz.ntmps53
  go_wp2_with (go_at_call 102; refine (isClass_any _ _).mono ?_; rintro e w' ⟨rfl, rfl⟩)
  go_ret
  exact ⟨ret_i H.out.symm, rfl⟩
theorem size_yes (k : Nat) (w : World) (hk : k < 16) (hT : Tab w) : Calls Tryz.prog 53 #[.int .i64 (k : Int)] w fun e w' => e = .returned (.int .i64 (sizeOf' (k : Int))) ∧ w = w' := by
  have h : classB (k : Int) = true := classB_iff.2 (by omega)
  have H := Lib.hid (sizeOf_nat hk)
  have hc := hT.cell k hk
  have k1 : (0 : Int) ≤ (k : Int) := by omega
  have k2 : (k : Int) < 16 := by omega
  go_enter Tryz.func53, Tryz.ntmps53
  go_wp2_with (go_at_call 102; refine (isClass_any _ _).mono ?_; rintro e w' ⟨rfl, rfl⟩)
  go_ret
  exact ⟨ret_i H.out.symm, rfl⟩
theorem size_any (c : Int) (w : World) (hT : Tab w) : Calls Tryz.prog 53 #[.int .i64 c] w fun e w' => e = .returned (.int .i64 (sizeOf' c)) ∧ w = w' := by
  cases h : classB c
  · exact size_no c w h
  · obtain ⟨h0, h1⟩ := classB_iff.1 h
    obtain ⟨k, rfl⟩ := Int.eq_ofNat_of_zero_le h0
    exact size_yes k w (by omega) hT

/-- tablea.Slots. -/
theorem slots_no (c : Int) (w : World) (h : classB c = false) : Calls Tryz.prog 180 #[.int .i64 c] w fun e w' => e = .returned (.int .i64 (slotsOf c)) ∧ w = w' := by
  have H := Lib.hid (slotsOf_no h)
  go_enter Tryz.func180, Tryz.ntmps180
  go_wp2_with (go_at_call 102; refine (isClass_any _ _).mono ?_; rintro e w' ⟨rfl, rfl⟩)
  go_ret
  exact ⟨ret_i H.out.symm, rfl⟩
theorem slots_yes (k : Nat) (w : World) (hk : k < 16) (hT : Tab w) : Calls Tryz.prog 180 #[.int .i64 (k : Int)] w fun e w' => e = .returned (.int .i64 (slotsOf (k : Int))) ∧ w = w' := by
  have h : classB (k : Int) = true := classB_iff.2 (by omega)
  have H := Lib.hid (slotsOf_nat hk)
  have hc := hT.cell k hk
  obtain ⟨b0, b1⟩ := sz_bd k hk
  have k1 : (0 : Int) ≤ (k : Int) := by omega
  have k2 : (k : Int) < 16 := by omega
  generalize sz k = s at *
  have z : (s == 0) = false := by simp; omega
  go_enter Tryz.func180, Tryz.ntmps180
  go_wp2_with (go_at_call 102; refine (isClass_any _ _).mono ?_; rintro e w' ⟨rfl, rfl⟩)
  go_ret
  exact ⟨ret_i H.out.symm, rfl⟩
theorem slots_any (c : Int) (w : World) (hT : Tab w) : Calls Tryz.prog 180 #[.int .i64 c] w fun e w' => e = .returned (.int .i64 (slotsOf c)) ∧ w = w' := by
  cases h : classB c
  · exact slots_no c w h
  · obtain ⟨h0, h1⟩ := classB_iff.1 h
    obtain ⟨k, rfl⟩ := Int.eq_ofNat_of_zero_le h0
    exact slots_yes k w (by omega) hT

end Go.Proofs.YtckcgaliphpgeaaGreatDoor.Ta
