import Derived.Laws.BitsAllLaws
import Derived.Laws.BitsLemmas
import Derived.Lib.TrailingZeros
import Derived.Lib.BitFns
import Derived.Test.YtaelfgdiboekpaaDoorRows
import Derived.WalkKit
import Derived.WalkSpells
import Derived.WalkLawsBesides
import Derived.Deep.QuietTactic
import Derived.BigQuiet
import Derived.Deep.RegionHeld3
import Derived.Lib.Hide
import Derived.Deep.WholeRow
/-
  Plain facts on powers of 2 and on the classes of both layouts, of which no statement of its own is claimed.
-/
namespace Go.Proofs.YtaelfgdiboekpaaDoor.Tb
set_option maxRecDepth 100000

/-! ### Sizes and powers -/
/-- A number from 0 to 2^40. -/
def sizeB (n : Int) : Bool := decide (0 ≤ n ∧ n ≤ 1099511627776)
theorem sizeB_iff {n : Int} : sizeB n = true ↔ 0 ≤ n ∧ n ≤ 1099511627776 := by simp [sizeB]
theorem sizeB_not {n : Int} : sizeB n = false ↔ ¬ (0 ≤ n ∧ n ≤ 1099511627776) := by simp only [sizeB, decide_eq_false_iff_not]
/-- A power of 2 from 1 to 2^40. -/
def powB (n : Int) : Bool := (List.range 41).any fun k => n == 2 ^ k
theorem powB_iff {n : Int} : powB n = true ↔ ∃ k : Nat, k ≤ 40 ∧ n = 2 ^ k := by
  unfold powB
  rw [List.any_eq_true]
  constructor
  · rintro ⟨k, hk, e⟩; exact ⟨k, by have := List.mem_range.1 hk; omega, by simpa using e⟩
  · rintro ⟨k, hk, e⟩; exact ⟨k, List.mem_range.2 (by omega), by simpa using e⟩
theorem pow_bd {k : Nat} (h : k ≤ 40) : 1 ≤ (2 : Int) ^ k ∧ (2 : Int) ^ k ≤ 1099511627776 := by
  have h1 : 2 ^ k ≤ 2 ^ 40 := Nat.pow_le_pow_right (by decide) h
  have h2 : 0 < 2 ^ k := Nat.two_pow_pos k
  have e : ((2 : Int) ^ k) = ((2 ^ k : Nat) : Int) := by rw [Int.natCast_pow]; rfl
  rw [e]; omega
theorem powB_bd {n : Int} (h : powB n = true) : 1 ≤ n ∧ n ≤ 1099511627776 := by
  obtain ⟨k, hk, rfl⟩ := powB_iff.1 h; exact pow_bd hk

/-! ### The greatest power that a number is a multiple of -/
theorem odd_inj : ∀ (a b m q : Nat), 2 ^ a * (2 * m + 1) = 2 ^ b * (2 * q + 1) → a = b
  | 0, 0, _, _, _ => rfl
  | 0, b + 1, m, q, h => by rw [Nat.pow_succ, Nat.mul_right_comm] at h; omega
  | a + 1, 0, m, q, h => by rw [Nat.pow_succ, Nat.mul_right_comm] at h; omega
  | a + 1, b + 1, m, q, h => by
    rw [Nat.pow_succ, Nat.pow_succ, Nat.mul_right_comm (2 ^ a), Nat.mul_right_comm (2 ^ b)] at h
    rw [odd_inj a b m q (by omega)]
/-- The greatest power of 2 that a number is a multiple of. -/
def gr (N : Nat) : Nat := 2 ^ Lib.ctz 64 N
theorem gr_spec {N : Nat} (h0 : 1 ≤ N) (h1 : N < 2 ^ 64) : ∃ k m, gr N = 2 ^ k ∧ N = 2 ^ k * (2 * m + 1) := by
  obtain ⟨m, hm, _⟩ := Lib.ctzFrom_spec 64 N (by omega) h1
  refine ⟨Lib.ctzFrom 64 N, m, ?_, hm⟩
  unfold gr Lib.ctz; rw [if_neg (by omega)]
theorem gr_of {N k m : Nat} (h1 : N < 2 ^ 64) (h : N = 2 ^ k * (2 * m + 1)) : gr N = 2 ^ k := by
  have h0 : 1 ≤ N := by have := Nat.mul_pos (Nat.two_pow_pos k) (by omega : 0 < 2 * m + 1); omega
  obtain ⟨j, q, e, hN⟩ := gr_spec h0 h1
  rw [e, odd_inj j k q m (by rw [← hN, ← h])]
theorem gr_le {N : Nat} (h0 : 1 ≤ N) (h1 : N < 2 ^ 64) : 1 ≤ gr N ∧ gr N ≤ N := by
  obtain ⟨k, m, e, hN⟩ := gr_spec h0 h1
  have h2 : 0 < 2 ^ k := Nat.two_pow_pos k
  have h3 : 2 ^ k ≤ 2 ^ k * (2 * m + 1) := Nat.le_mul_of_pos_right _ (by omega)
  rw [e]; omega
theorem gr_raw {N : Nat} (h0 : 1 ≤ N) (h1 : N < 9223372036854775808) : bits .and .i64 (N : Int) (-(N : Int)) = (gr N : Int) := by
  show IntKind.i64.wrap ((BitVec.ofInt 64 (N : Int) &&& BitVec.ofInt 64 (-(N : Int))).toNat : Int) = _
  have e1 : (BitVec.ofInt 64 (N : Int)).toNat = N := by rw [BitVec.toNat_ofInt]; omega
  have e2 : (BitVec.ofInt 64 (-(N : Int))).toNat = 2 ^ 64 - N := by rw [BitVec.toNat_ofInt]; omega
  obtain ⟨k, m, e, hN⟩ := gr_spec h0 (by omega)
  have hb := gr_le h0 (by omega)
  have e3 := Lib.and_neg 64 k m (by rw [← hN]; omega)
  rw [← hN, ← e] at e3
  rw [BitVec.toNat_and, e1, e2, e3, IntKind.wrap_i64]
  omega
/-- What Grain tells. -/
def grain (n : Int) : Int := if n < 1 then 0 else (gr n.toNat : Int)
theorem grain_no {n : Int} (h : n < 1) : grain n = 0 := if_pos h
theorem grain_nat {N : Nat} (h : 1 ≤ N) : grain (N : Int) = (gr N : Int) := by
  unfold grain; rw [if_neg (by omega)]; rfl
theorem pow_cast (k : Nat) : ((2 ^ k : Nat) : Int) = (2 : Int) ^ k := by rw [Int.natCast_pow]; rfl
theorem pow_grain {n : Int} (h0 : 1 ≤ n) (h1 : n ≤ 1099511627776) : powB n = (grain n == n) := by
  obtain ⟨N, rfl⟩ := Int.eq_ofNat_of_zero_le (by omega : 0 ≤ n)
  rw [Bool.eq_iff_iff, beq_iff_eq, powB_iff, grain_nat (by omega)]
  obtain ⟨k, m, e, hN⟩ := gr_spec (N := N) (by omega) (by omega)
  constructor
  · rintro ⟨j, hj, h⟩
    have h2 : N = 2 ^ j * (2 * 0 + 1) := by rw [← pow_cast] at h; omega
    rw [gr_of (by omega) h2]; omega
  · intro h
    have h2 : N = 2 ^ k := by rw [← e]; omega
    refine ⟨k, ?_, by rw [← pow_cast, ← h2]⟩
    apply Nat.le_of_not_lt
    intro hk
    have : 2 ^ 41 ≤ 2 ^ k := Nat.pow_le_pow_right (by decide) hk
    omega
theorem pow_out {n : Int} (h : ¬ (1 ≤ n ∧ n ≤ 1099511627776)) : powB n = false := by
  rw [Bool.eq_false_iff]; intro e; exact h (powB_bd e)

/-! ### The classes -/
/-- A layout's sizes, rising: 0 is the old one, 1 the new one; nothing of another number. -/
def szs (v : Int) : List Int :=
  if v = 0 then [16, 32, 48, 64, 80, 96, 112, 128, 160, 192, 224, 256, 320, 384, 448, 512]
  else if v = 1 then [8, 16, 24, 32, 48, 64, 96, 128, 192, 256, 384, 512] else []
theorem szs_no {v : Int} (h0 : v ≠ 0) (h1 : v ≠ 1) : szs v = [] := by unfold szs; rw [if_neg h0, if_neg h1]
/-- How many classes a layout has. -/
def cnt (v : Int) : Nat := (szs v).length
theorem cnt_0 : cnt 0 = 16 := rfl
theorem cnt_1 : cnt 1 = 12 := rfl
theorem cnt_no {v : Int} (h0 : v ≠ 0) (h1 : v ≠ 1) : cnt v = 0 := by unfold cnt; rw [szs_no h0 h1]; rfl
theorem layout (v : Int) : v = 0 ∨ v = 1 ∨ (v ≠ 0 ∧ v ≠ 1) := by omega
theorem cnt_le (v : Int) : cnt v ≤ 16 := by
  rcases layout v with rfl | rfl | ⟨h0, h1⟩
  · rw [cnt_0]; omega
  · rw [cnt_1]; omega
  · rw [cnt_no h0 h1]; omega
/-- A class's size. -/
def sz (v : Int) (k : Nat) : Int := (szs v).getD k 0
theorem sz_bd0 : ∀ k, k < 16 → 16 ≤ sz 0 k ∧ sz 0 k ≤ 512 := by decide +kernel
theorem sz_bd1 : ∀ k, k < 12 → 8 ≤ sz 1 k ∧ sz 1 k ≤ 512 := by decide +kernel
theorem sz_bd {v : Int} (k : Nat) (h : k < cnt v) : 8 ≤ sz v k ∧ sz v k ≤ 512 := by
  rcases layout v with rfl | rfl | ⟨h0, h1⟩
  · have := sz_bd0 k h; omega
  · exact sz_bd1 k h
  · rw [cnt_no h0 h1] at h; omega
theorem sz_out {v : Int} {k : Nat} (h : cnt v ≤ k) : sz v k = 0 := by
  unfold sz; rw [List.getD_eq_getElem?_getD, List.getElem?_eq_none h]; rfl
/-- Is there such a class of the old layout? -/
def classB (c : Int) : Bool := decide (0 ≤ c ∧ c < 16)
theorem classB_iff {c : Int} : classB c = true ↔ 0 ≤ c ∧ c < 16 := by simp [classB]
theorem classB_not {c : Int} : classB c = false ↔ ¬ (0 ≤ c ∧ c < 16) := by simp only [classB, decide_eq_false_iff_not]
/-- Size and Slots, of any numbers. -/
def sizeOf' (v c : Int) : Int := if 0 ≤ c then sz v c.toNat else 0
def slotsOf (v c : Int) : Int := if sizeOf' v c = 0 then 0 else 1024 / sizeOf' v c
theorem sizeOf_neg {v c : Int} (h : ¬ 0 ≤ c) : sizeOf' v c = 0 := if_neg h
theorem sizeOf_nat (v : Int) (k : Nat) : sizeOf' v (k : Int) = sz v k := by unfold sizeOf'; rw [if_pos (by omega)]; rfl
theorem sizeOf_beyond {v c : Int} (h : (cnt v : Int) ≤ c) : sizeOf' v c = 0 := by
  obtain ⟨k, rfl⟩ := Int.eq_ofNat_of_zero_le (by omega : 0 ≤ c)
  rw [sizeOf_nat, sz_out (by omega)]
theorem sizeOf_no {c : Int} (h : classB c = false) : sizeOf' 0 c = 0 := by
  have := classB_not.1 h
  by_cases h0 : 0 ≤ c
  · exact sizeOf_beyond (by rw [cnt_0]; omega)
  · exact sizeOf_neg h0
theorem sizeOf_none {v c : Int} (h0 : v ≠ 0) (h1 : v ≠ 1) : sizeOf' v c = 0 := by
  by_cases h : 0 ≤ c
  · exact sizeOf_beyond (by rw [cnt_no h0 h1]; omega)
  · exact sizeOf_neg h
theorem sizeOf_bd (v c : Int) : sizeOf' v c = 0 ∨ (∃ k : Nat, k < cnt v ∧ c = (k : Int) ∧ sizeOf' v c = sz v k ∧ 8 ≤ sizeOf' v c ∧ sizeOf' v c ≤ 512) := by
  by_cases h : 0 ≤ c
  · obtain ⟨k, rfl⟩ := Int.eq_ofNat_of_zero_le h
    by_cases hk : k < cnt v
    · refine Or.inr ⟨k, hk, rfl, sizeOf_nat v k, ?_⟩
      rw [sizeOf_nat]; exact sz_bd k hk
    · exact Or.inl (sizeOf_beyond (by omega))
  · exact Or.inl (sizeOf_neg h)
theorem slotsOf_zero {v c : Int} (h : sizeOf' v c = 0) : slotsOf v c = 0 := if_pos h
theorem slotsOf_some {v c : Int} (h : sizeOf' v c ≠ 0) : slotsOf v c = 1024 / sizeOf' v c := if_neg h
/-- An alignment: a power of 2 from 1 to 4,096. -/
def alignB (a : Int) : Bool := decide (a ≤ 4096) && powB a
theorem alignB_bd {a : Int} (h : alignB a = true) : 1 ≤ a ∧ a ≤ 4096 := by
  simp only [alignB, Bool.and_eq_true, decide_eq_true_eq] at h
  exact ⟨(powB_bd h.2).1, h.1⟩
theorem alignB_one : alignB 1 = true := by decide +kernel
/-- Does a class hold so many bytes, at multiples of an alignment? -/
def fits (v n a : Int) (k : Nat) : Bool := decide (n ≤ sz v k) && (sz v k % a == 0)
/-- None of the first classes does. -/
def noneTo (v n a : Int) (k : Nat) : Prop := ∀ j, j < k → fits v n a j = false
theorem noneTo_zero (v n a : Int) : noneTo v n a 0 := fun j hj => by omega
theorem noneTo_on {v n a : Int} {k : Nat} (h : noneTo v n a k) (h2 : fits v n a k = false) : noneTo v n a (k + 1) := fun j hj => by
  by_cases e : j = k
  · subst e; exact h2
  · exact h j (by omega)
/-- The first place from one on at which a test holds; -1, if there is none. -/
def seek (f : Nat → Bool) : Nat → Nat → Int
  | 0, _ => -1
  | m + 1, k => if f k then (k : Int) else seek f m (k + 1)
theorem seek_hit {f : Nat → Bool} : ∀ {m k i : Nat}, (∀ j, k ≤ j → j < i → f j = false) → k ≤ i → i < k + m → f i = true → seek f m k = (i : Int)
  | 0, k, i, _, h1, h2, _ => by omega
  | m + 1, k, i, h, h1, h2, h3 => by
    unfold seek
    by_cases e : k = i
    · subst e; rw [if_pos h3]
    · rw [if_neg (by rw [h k (by omega) (by omega)]; simp)]
      exact seek_hit (fun j hj => h j (by omega)) (by omega) (by omega) h3
theorem seek_none {f : Nat → Bool} : ∀ {m k : Nat}, (∀ j, k ≤ j → j < k + m → f j = false) → seek f m k = -1
  | 0, _, _ => rfl
  | m + 1, k, h => by
    unfold seek
    rw [if_neg (by rw [h k (by omega) (by omega)]; simp)]
    exact seek_none fun j hj hl => h j (by omega) (by omega)
theorem seek_is {f : Nat → Bool} : ∀ {m k : Nat}, (seek f m k = -1 ∧ ∀ j, k ≤ j → j < k + m → f j = false) ∨ ∃ i : Nat, seek f m k = (i : Int) ∧ k ≤ i ∧ i < k + m ∧ f i = true ∧ ∀ j, k ≤ j → j < i → f j = false
  | 0, k => Or.inl ⟨rfl, fun j h1 h2 => by omega⟩
  | m + 1, k => by
    unfold seek
    cases hf : f k
    · rw [if_neg (by simp)]
      rcases seek_is (f := f) (m := m) (k := k + 1) with ⟨h, hn⟩ | ⟨i, h, h1, h2, h3, h4⟩
      · refine Or.inl ⟨h, fun j hj hl => ?_⟩
        by_cases e : j = k
        · subst e; exact hf
        · exact hn j (by omega) (by omega)
      · refine Or.inr ⟨i, h, by omega, by omega, h3, fun j hj hl => ?_⟩
        by_cases e : j = k
        · subst e; exact hf
        · exact h4 j (by omega) hl
    · rw [if_pos rfl]
      exact Or.inr ⟨k, rfl, by omega, by omega, hf, fun j h1 h2 => by omega⟩
/-- The first class that fits; -1, if there is none. -/
def first (v n a : Int) : Int := if 0 ≤ n ∧ n ≤ 512 then seek (fits v n a) (cnt v) 0 else -1
theorem first_hit {v n a : Int} {k : Nat} (h0 : 0 ≤ n) (h1 : n ≤ 512) (h : noneTo v n a k) (hk : k < cnt v) (hf : fits v n a k = true) : first v n a = (k : Int) := by
  unfold first; rw [if_pos ⟨h0, h1⟩]
  exact seek_hit (fun j _ hj => h j hj) (by omega) (by omega) hf
theorem first_none {v n a : Int} (h : noneTo v n a (cnt v)) : first v n a = -1 := by
  unfold first; split
  · exact seek_none fun j _ hj => h j (by omega)
  · rfl
theorem first_out {v n a : Int} (h : ¬ (0 ≤ n ∧ n ≤ 512)) : first v n a = -1 := if_neg h
theorem first_no {v n a : Int} (h0 : v ≠ 0) (h1 : v ≠ 1) : first v n a = -1 := first_none (by rw [cnt_no h0 h1]; exact noneTo_zero v n a)
/-- What is answered is a class that holds it, and none before does; or none does. -/
theorem first_is (v n a : Int) : first v n a = -1 ∨ ∃ k : Nat, k < cnt v ∧ first v n a = (k : Int) ∧ 0 ≤ n ∧ n ≤ 512 ∧ n ≤ sz v k ∧ sz v k % a = 0 ∧ noneTo v n a k := by
  unfold first
  by_cases h : 0 ≤ n ∧ n ≤ 512
  · rw [if_pos h]
    rcases seek_is (f := fits v n a) (m := cnt v) (k := 0) with ⟨h, _⟩ | ⟨i, e, _, h2, h3, h4⟩
    · exact Or.inl h
    · simp only [fits, Bool.and_eq_true, decide_eq_true_eq, beq_iff_eq] at h3
      exact Or.inr ⟨i, by omega, e, h.1, h.2, h3.1, h3.2, fun j hj => h4 j (by omega) hj⟩
  · rw [if_neg h]; exact Or.inl rfl
/-- What Aligned answers. -/
def ans (v n a : Int) : Int := if alignB a then first v n a else -1
theorem ans_no {v n a : Int} (h : alignB a = false) : ans v n a = -1 := by unfold ans; rw [h]; rfl
theorem ans_yes {v n a : Int} (h : alignB a = true) : ans v n a = first v n a := by unfold ans; rw [h]; rfl
theorem ans_out {v n a : Int} (h : ¬ (0 ≤ n ∧ n ≤ 512)) : ans v n a = -1 := by unfold ans; rw [first_out h]; split <;> rfl
theorem ans_none {v n a : Int} (h0 : v ≠ 0) (h1 : v ≠ 1) : ans v n a = -1 := by unfold ans; rw [first_no h0 h1]; split <;> rfl

/-! ### A class of just so many bytes -/
/-- The class of just so many bytes; -1, if there is none. -/
def place (v n : Int) : Int := seek (fun k => sz v k == n) (cnt v) 0
def missTo (v n : Int) (k : Nat) : Prop := ∀ j, j < k → (sz v j == n) = false
theorem missTo_zero (v n : Int) : missTo v n 0 := fun j hj => by omega
theorem missTo_on {v n : Int} {k : Nat} (h : missTo v n k) (h2 : (sz v k == n) = false) : missTo v n (k + 1) := fun j hj => by
  by_cases e : j = k
  · subst e; exact h2
  · exact h j (by omega)
theorem place_hit {v n : Int} {k : Nat} (h : missTo v n k) (hk : k < cnt v) (hf : (sz v k == n) = true) : place v n = (k : Int) :=
  seek_hit (fun j _ hj => h j hj) (by omega) (by omega) hf
theorem place_none {v n : Int} (h : missTo v n (cnt v)) : place v n = -1 := seek_none fun j _ hj => h j (by omega)
theorem place_out {v n : Int} (h : ¬ (0 ≤ n ∧ n ≤ 512)) : place v n = -1 := place_none fun j hj => by
  have := sz_bd j hj
  simp; omega
/-- hasSize, Both and Twin. -/
def hasB (v n : Int) : Bool := decide (0 ≤ first v n 1) && (sizeOf' v (first v n 1) == n)
def bothB (n : Int) : Bool := hasB 0 n && hasB 1 n
def twin (v c : Int) : Int := if bothB (sizeOf' v c) then first (1 - v) (sizeOf' v c) 1 else -1
theorem has_in0 : ∀ n : Nat, n < 513 → hasB 0 (n : Int) = decide (0 ≤ place 0 (n : Int)) := by decide +kernel
theorem has_in1 : ∀ n : Nat, n < 513 → hasB 1 (n : Int) = decide (0 ≤ place 1 (n : Int)) := by decide +kernel
theorem has_out {v n : Int} (h : ¬ (0 ≤ n ∧ n ≤ 512)) : hasB v n = decide (0 ≤ place v n) := by
  unfold hasB; rw [first_out h, place_out h]; rfl
theorem has_0 (n : Int) : hasB 0 n = decide (0 ≤ place 0 n) := by
  by_cases h : 0 ≤ n ∧ n ≤ 512
  · obtain ⟨k, rfl⟩ := Int.eq_ofNat_of_zero_le h.1
    exact has_in0 k (by omega)
  · exact has_out h
theorem has_1 (n : Int) : hasB 1 n = decide (0 ≤ place 1 n) := by
  by_cases h : 0 ≤ n ∧ n ≤ 512
  · obtain ⟨k, rfl⟩ := Int.eq_ofNat_of_zero_le h.1
    exact has_in1 k (by omega)
  · exact has_out h
theorem both_is (n : Int) : bothB n = (decide (0 ≤ place 0 n) && decide (0 ≤ place 1 n)) := by unfold bothB; rw [has_0, has_1]
theorem twin_zero {v c : Int} (h : sizeOf' v c = 0) : twin v c = -1 := by
  unfold twin; rw [h, if_neg (by decide +kernel)]

end Go.Proofs.YtaelfgdiboekpaaDoor.Tb

/-
  What the program's functions do, first part: contracts that the claimed proofs use.
-/
namespace Go.Proofs.YtaelfgdiboekpaaDoor.Tb
set_option maxRecDepth 100000
open Go.RowKit

theorem ret_i {a b : Int} (h : a = b) : Ending.returned (.int .i64 a) = .returned (.int .i64 b) := by rw [h]
theorem ret_b {a b : Bool} (h : a = b) : Ending.returned (.bool a) = .returned (.bool b) := by rw [h]
theorem ret_ib {a b : Int} {c d : Bool} (h : a = b) (h2 : c = d) : Ending.returned (.tuple #[.int .i64 a, .bool c]) = .returned (.tuple #[.int .i64 b, .bool d]) := by rw [h, h2]
theorem ret_ii {a b c d : Int} (h : a = b) (h2 : c = d) : Ending.returned (.tuple #[.int .i64 a, .int .i64 c]) = .returned (.tuple #[.int .i64 b, .int .i64 d]) := by rw [h, h2]

/-- tablea.isClass. -/
theorem isClass_any (c : Int) (w : World) : Calls Tryd.prog 107 #[.int .i64 c] w fun e w' => e = .returned (.bool (classB c)) ∧ w = w' := by
  by_cases h0 : 0 ≤ c
  · go_enter Tryd.func107, Tryd.ntmps107
    go_wp2
    go_ret
    exact ⟨ret_b (by unfold classB; rw [decide_eq_decide]; omega), rfl⟩
  · have hd : decide (0 ≤ c) = false := by simpa using h0
    go_enter Tryd.func107, Tryd.ntmps107
    go_wp2
    go_ret
    exact ⟨ret_b (by symm; rw [classB_not]; omega), rfl⟩

end Go.Proofs.YtaelfgdiboekpaaDoor.Tb

/-
  What the two tables are, as the walk meets them, and what Size and Slots of both layouts do: contracts that the claimed proofs use.
-/
namespace Go.Proofs.YtaelfgdiboekpaaDoor.Tb
set_option maxRecDepth 100000
open Go.RowKit

/-! ### The tables -/
/-- A table's numbers, as cells. -/
def row (v : Int) : Array Value := ((szs v).map fun z => Value.int .i64 z).toArray
theorem row_at (v : Int) (j : Nat) (hj : j < cnt v) : (row v)[j]? = some (.int .i64 (sz v j)) := by
  unfold row sz
  rw [List.getElem?_toArray, List.getElem?_map, List.getD_eq_getElem?_getD, List.getElem?_eq_getElem (by exact hj)]; rfl
/-- The tables lie in their blocks. -/
def Tab (w : World) : Prop := (∃ t fr, w.heap[0]? = some (.cells (row 0) t fr)) ∧ ∃ t fr, w.heap[1]? = some (.cells (row 1) t fr)
theorem Tab.lt {w : World} (h : Tab w) : 1 < w.heap.size := by
  obtain ⟨_, _, _, h⟩ := h; exact (Array.getElem?_eq_some_iff.1 h).1
theorem Tab.old {w : World} (h : Tab w) (j : Nat) (hj : j < 16) : w.cell? ⟨0, j, none⟩ = some (.int .i64 (sz 0 j)) := by
  obtain ⟨⟨t, fr, h⟩, _⟩ := h
  rw [cell_of_row w 0 j (row 0) t fr h]; exact row_at 0 j hj
theorem Tab.new {w : World} (h : Tab w) (j : Nat) (hj : j < 12) : w.cell? ⟨1, j, none⟩ = some (.int .i64 (sz 1 j)) := by
  obtain ⟨_, t, fr, h⟩ := h
  rw [cell_of_row w 1 j (row 1) t fr h]; exact row_at 1 j hj
theorem Tab.below {w w' : World} (h : Tab w) (hb : Below w.heap.size w w') : Tab w' := by
  have hl := h.lt
  obtain ⟨⟨t, fr, h⟩, t2, fr2, h2⟩ := h
  exact ⟨⟨t, fr, (hb.block 0 (by omega)).trans h⟩, t2, fr2, (hb.block 1 hl).trans h2⟩
theorem old_index (k : Nat) (hk : k < 16) (w : World) : (Instr.index 138 (.agg (row 0)) (.int .i64 (k : Int))).run Tryd.prog w = .ok (.int .i64 (sz 0 k)) w := by
  rcases (by omega : k = 0 ∨ k = 1 ∨ k = 2 ∨ k = 3 ∨ k = 4 ∨ k = 5 ∨ k = 6 ∨ k = 7 ∨ k = 8 ∨ k = 9 ∨ k = 10 ∨ k = 11 ∨ k = 12 ∨ k = 13 ∨ k = 14 ∨ k = 15) with rfl | rfl | rfl | rfl | rfl | rfl | rfl | rfl | rfl | rfl | rfl | rfl | rfl | rfl | rfl | rfl <;> kernel_rfl
theorem new_index (k : Nat) (hk : k < 12) (w : World) : (Instr.index 139 (.agg (row 1)) (.int .i64 (k : Int))).run Tryd.prog w = .ok (.int .i64 (sz 1 k)) w := by
  rcases (by omega : k = 0 ∨ k = 1 ∨ k = 2 ∨ k = 3 ∨ k = 4 ∨ k = 5 ∨ k = 6 ∨ k = 7 ∨ k = 8 ∨ k = 9 ∨ k = 10 ∨ k = 11) with rfl | rfl | rfl | rfl | rfl | rfl | rfl | rfl | rfl | rfl | rfl | rfl <;> kernel_rfl

/-! ### Size -/
/-- tablea.Size. -/
theorem asize_no (c : Int) (w : World) (h : classB c = false) : Calls Tryd.prog 98 #[.int .i64 c] w fun e w' => e = .returned (.int .i64 (sizeOf' 0 c)) ∧ w = w' := by
  have H := Lib.hid (sizeOf_no h)
  go_enter Tryd.func98, Tryd.ntmps98
  go_wp2_with (go_at_call 107; refine (isClass_any _ _).mono ?_; rintro e w' ⟨rfl, rfl⟩)
  go_ret
  exact ⟨ret_i H.out.symm, rfl⟩
theorem asize_yes (k : Nat) (w : World) (hk : k < 16) (hT : Tab w) : Calls Tryd.prog 98 #[.int .i64 (k : Int)] w fun e w' => e = .returned (.int .i64 (sizeOf' 0 (k : Int))) ∧ w = w' := by
  have h : classB (k : Int) = true := classB_iff.2 (by omega)
  have H := Lib.hid (sizeOf_nat 0 k)
  have hc := hT.old k hk
  have k1 : (0 : Int) ≤ (k : Int) := by omega
  have k2 : (k : Int) < 16 := by omega
  generalize sz 0 k = s at *
  clear hT
  go_enter Tryd.func98, Tryd.ntmps98
  go_wp2_with (go_at_call 107; refine (isClass_any _ _).mono ?_; rintro e w' ⟨rfl, rfl⟩)
  go_ret
  exact ⟨ret_i H.out.symm, rfl⟩
theorem asize_any (c : Int) (w : World) (hT : Tab w) : Calls Tryd.prog 98 #[.int .i64 c] w fun e w' => e = .returned (.int .i64 (sizeOf' 0 c)) ∧ w = w' := by
  cases h : classB c
  · exact asize_no c w h
  · obtain ⟨h0, h1⟩ := classB_iff.1 h
    obtain ⟨k, rfl⟩ := Int.eq_ofNat_of_zero_le h0
    exact asize_yes k w (by omega) hT

/-- tableb.newSize. -/
theorem bsize_any (c : Int) (w : World) (hT : Tab w) : Calls Tryd.prog 99 #[.int .i64 c] w fun e w' => e = .returned (.int .i64 (sizeOf' 1 c)) ∧ w = w' := by
  by_cases h0 : c < 0
  · have H := Lib.hid (sizeOf_neg (v := 1) (c := c) (by omega))
    clear hT
    go_enter Tryd.func99, Tryd.ntmps99
    go_wp2
    go_ret
    exact ⟨ret_i H.out.symm, rfl⟩
  · obtain ⟨k, rfl⟩ := Int.eq_ofNat_of_zero_le (by omega : 0 ≤ c)
    have k1 : (0 : Int) ≤ (k : Int) := by omega
    by_cases hk : k < 12
    · have H := Lib.hid (sizeOf_nat 1 k)
      have hc := hT.new k hk
      have k2 : (k : Int) < 12 := by omega
      generalize sz 1 k = s at *
      clear hT h0
      go_enter Tryd.func99, Tryd.ntmps99
      go_wp2
      go_ret
      exact ⟨ret_i H.out.symm, rfl⟩
    · have H := Lib.hid (sizeOf_beyond (v := 1) (c := k) (by rw [cnt_1]; omega))
      have k2 : (12 : Int) ≤ (k : Int) := by omega
      clear hT h0
      go_enter Tryd.func99, Tryd.ntmps99
      go_wp2
      go_ret
      exact ⟨ret_i H.out.symm, rfl⟩

/-- tableb.Size. -/
theorem size_any (v c : Int) (w : World) (hT : Tab w) : Calls Tryd.prog 77 #[.int .i64 v, .int .i64 c] w fun e w' => e = .returned (.int .i64 (sizeOf' v c)) ∧ w = w' := by
  rcases layout v with rfl | rfl | ⟨h0, h1⟩
  · have H := Lib.hid (asize_any c w hT)
    clear hT
    go_enter Tryd.func77, Tryd.ntmps77
    go_wp2_with (go_at_call 98; refine H.out.mono ?_; rintro e w' ⟨rfl, rfl⟩)
    go_ret
    exact ⟨rfl, rfl⟩
  · have H := Lib.hid (bsize_any c w hT)
    clear hT
    go_enter Tryd.func77, Tryd.ntmps77
    go_wp2_with (go_at_call 99; refine H.out.mono ?_; rintro e w' ⟨rfl, rfl⟩)
    go_ret
    exact ⟨rfl, rfl⟩
  · have H := Lib.hid (sizeOf_none (c := c) h0 h1)
    have b0 : (v == 0) = false := by simpa using h0
    have b1 : (v == 1) = false := by simpa using h1
    clear hT h0 h1
    go_enter Tryd.func77, Tryd.ntmps77
    go_wp2
    go_ret
    exact ⟨ret_i H.out.symm, rfl⟩

/-! ### Slots -/
/-- tableb.Slots. -/
theorem slots_any (v c : Int) (w : World) (hT : Tab w) : Calls Tryd.prog 76 #[.int .i64 v, .int .i64 c] w fun e w' => e = .returned (.int .i64 (slotsOf v c)) ∧ w = w' := by
  have H := size_any v c w hT
  rcases sizeOf_bd v c with hz | ⟨k, hk, ec, es, h0, h1⟩
  · have HZ := Lib.hid (slotsOf_zero hz)
    rw [hz] at H
    replace H := Lib.hid H
    clear hT hz
    go_enter Tryd.func76, Tryd.ntmps76
    go_wp2_with (go_at_call 77; refine H.out.mono ?_; rintro e w' ⟨rfl, rfl⟩)
    go_ret
    exact ⟨ret_i HZ.out.symm, rfl⟩
  · clear ec es hk
    have HZ := slotsOf_some (v := v) (c := c) (by omega)
    generalize sizeOf' v c = s at *
    have z : (s == 0) = false := by simp; omega
    replace HZ := Lib.hid HZ
    replace H := Lib.hid H
    clear hT
    go_enter Tryd.func76, Tryd.ntmps76
    go_wp2_with (go_at_call 77; refine H.out.mono ?_; rintro e w' ⟨rfl, rfl⟩)
    go_ret
    exact ⟨ret_i HZ.out.symm, rfl⟩

end Go.Proofs.YtaelfgdiboekpaaDoor.Tb
