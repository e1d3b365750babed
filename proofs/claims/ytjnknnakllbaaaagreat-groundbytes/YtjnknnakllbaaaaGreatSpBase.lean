/-
  Plain facts on powers of 2, their logarithms and rounding, of which no statement of its own is claimed.
-/
import Derived.Laws.BitsAllLaws
import Derived.Laws.BitsLemmas
import Derived.Lib.TrailingZeros
import Derived.Lib.BitFns
import Derived.Lib.Mul64
namespace Go.Proofs.YtjnknnakllbaaaaGreat.Sp
set_option maxRecDepth 100000

/-! ### Sizes and powers -/
/-- A number from 0 to 2^40. -/
def sizeB (n : Int) : Bool := decide (0 ≤ n ∧ n ≤ 1099511627776)
theorem sizeB_iff {n : Int} : sizeB n = true ↔ 0 ≤ n ∧ n ≤ 1099511627776 := by simp [sizeB]
theorem sizeB_not {n : Int} : sizeB n = false ↔ ¬ (0 ≤ n ∧ n ≤ 1099511627776) := by simp only [sizeB, decide_eq_false_iff_not]
/-- A power of 2 from 1 to 2^40. -/
def powB (n : Int) : Bool := (List.range 41).any fun k => n == 2 ^ k
theorem powB_iff {n : Int} : powB n = true ↔ ∃ k : Nat, k ≤ 40 ∧ n = 2 ^ k := by
  unfold powB
  rw [List.any_eq_true]
  constructor
  · rintro ⟨k, hk, e⟩; exact ⟨k, by have := List.mem_range.1 hk; omega, by simpa using e⟩
  · rintro ⟨k, hk, e⟩; exact ⟨k, List.mem_range.2 (by omega), by simpa using e⟩
theorem pow_bd {k : Nat} (h : k ≤ 40) : 1 ≤ (2 : Int) ^ k ∧ (2 : Int) ^ k ≤ 1099511627776 := by
  have h1 : 2 ^ k ≤ 2 ^ 40 := Nat.pow_le_pow_right (by decide) h
  have h2 : 0 < 2 ^ k := Nat.two_pow_pos k
  have e : ((2 : Int) ^ k) = ((2 ^ k : Nat) : Int) := by rw [Int.natCast_pow]; rfl
  rw [e]; omega
theorem powB_bd {n : Int} (h : powB n = true) : 1 ≤ n ∧ n ≤ 1099511627776 := by
  obtain ⟨k, hk, rfl⟩ := powB_iff.1 h; exact pow_bd hk

/-! ### The greatest power that a number is a multiple of -/
theorem odd_inj : ∀ (a b m q : Nat), 2 ^ a * (2 * m + 1) = 2 ^ b * (2 * q + 1) → a = b
  | 0, 0, _, _, _ => rfl
  | 0, b + 1, m, q, h => by rw [Nat.pow_succ, Nat.mul_right_comm] at h; omega
  | a + 1, 0, m, q, h => by rw [Nat.pow_succ, Nat.mul_right_comm] at h; omega
  | a + 1, b + 1, m, q, h => by
    rw [Nat.pow_succ, Nat.pow_succ, Nat.mul_right_comm (2 ^ a), Nat.mul_right_comm (2 ^ b)] at h
    rw [odd_inj a b m q (by omega)]
/-- The greatest power of 2 that a number is a multiple of. -/
def gr (N : Nat) : Nat := 2 ^ Lib.ctz 64 N
theorem gr_spec {N : Nat} (h0 : 1 ≤ N) (h1 : N < 2 ^ 64) : ∃ k m, gr N = 2 ^ k ∧ N = 2 ^ k * (2 * m + 1) := by
  obtain ⟨m, hm, _⟩ := Lib.ctzFrom_spec 64 N (by omega) h1
  refine ⟨Lib.ctzFrom 64 N, m, ?_, hm⟩
  unfold gr Lib.ctz; rw [if_neg (by omega)]
theorem gr_of {N k m : Nat} (h1 : N < 2 ^ 64) (h : N = 2 ^ k * (2 * m + 1)) : gr N = 2 ^ k := by
  have h0 : 1 ≤ N := by have := Nat.mul_pos (Nat.two_pow_pos k) (by omega : 0 < 2 * m + 1); omega
  obtain ⟨j, q, e, hN⟩ := gr_spec h0 h1
  rw [e, odd_inj j k q m (by rw [← hN, ← h])]
theorem gr_le {N : Nat} (h0 : 1 ≤ N) (h1 : N < 2 ^ 64) : 1 ≤ gr N ∧ gr N ≤ N := by
  obtain ⟨k, m, e, hN⟩ := gr_spec h0 h1
  have h2 : 0 < 2 ^ k := Nat.two_pow_pos k
  have h3 : 2 ^ k ≤ 2 ^ k * (2 * m + 1) := Nat.le_mul_of_pos_right _ (by omega)
  rw [e]; omega
theorem gr_raw {N : Nat} (h0 : 1 ≤ N) (h1 : N < 9223372036854775808) : bits .and .i64 (N : Int) (-(N : Int)) = (gr N : Int) := by
  show IntKind.i64.wrap ((BitVec.ofInt 64 (N : Int) &&& BitVec.ofInt 64 (-(N : Int))).toNat : Int) = _
  have e1 : (BitVec.ofInt 64 (N : Int)).toNat = N := by rw [BitVec.toNat_ofInt]; omega
  have e2 : (BitVec.ofInt 64 (-(N : Int))).toNat = 2 ^ 64 - N := by rw [BitVec.toNat_ofInt]; omega
  obtain ⟨k, m, e, hN⟩ := gr_spec h0 (by omega)
  have hb := gr_le h0 (by omega)
  have e3 := Lib.and_neg 64 k m (by rw [← hN]; omega)
  rw [← hN, ← e] at e3
  rw [BitVec.toNat_and, e1, e2, e3, IntKind.wrap_i64]
  omega
/-- What Grain tells. -/
def grain (n : Int) : Int := if n < 1 then 0 else (gr n.toNat : Int)
theorem grain_no {n : Int} (h : n < 1) : grain n = 0 := if_pos h
theorem grain_nat {N : Nat} (h : 1 ≤ N) : grain (N : Int) = (gr N : Int) := by
  unfold grain; rw [if_neg (by omega)]; rfl
theorem pow_cast (k : Nat) : ((2 ^ k : Nat) : Int) = (2 : Int) ^ k := by rw [Int.natCast_pow]; rfl
theorem pow_grain {n : Int} (h0 : 1 ≤ n) (h1 : n ≤ 1099511627776) : powB n = (grain n == n) := by
  obtain ⟨N, rfl⟩ := Int.eq_ofNat_of_zero_le (by omega : 0 ≤ n)
  rw [Bool.eq_iff_iff, beq_iff_eq, powB_iff, grain_nat (by omega)]
  obtain ⟨k, m, e, hN⟩ := gr_spec (N := N) (by omega) (by omega)
  constructor
  · rintro ⟨j, hj, h⟩
    have h2 : N = 2 ^ j * (2 * 0 + 1) := by rw [← pow_cast] at h; omega
    rw [gr_of (by omega) h2]; omega
  · intro h
    have h2 : N = 2 ^ k := by rw [← e]; omega
    refine ⟨k, ?_, by rw [← pow_cast, ← h2]⟩
    apply Nat.le_of_not_lt
    intro hk
    have : 2 ^ 41 ≤ 2 ^ k := Nat.pow_le_pow_right (by decide) hk
    omega
theorem pow_out {n : Int} (h : ¬ (1 ≤ n ∧ n ≤ 1099511627776)) : powB n = false := by
  rw [Bool.eq_false_iff]; intro e; exact h (powB_bd e)
theorem pow_of_grain {n : Int} (h0 : 1 ≤ n) (h1 : n ≤ 1099511627776) : powB (grain n) = true := by
  obtain ⟨N, rfl⟩ := Int.eq_ofNat_of_zero_le (by omega : 0 ≤ n)
  obtain ⟨k, m, e, hN⟩ := gr_spec (N := N) (by omega) (by omega)
  have hb := gr_le (N := N) (by omega) (by omega)
  rw [grain_nat (by omega), powB_iff]
  refine ⟨k, ?_, by rw [e, pow_cast]⟩
  apply Nat.le_of_not_lt
  intro hk
  have : 2 ^ 41 ≤ 2 ^ k := Nat.pow_le_pow_right (by decide) hk
  omega
/-- A number is an odd multiple of its grain. -/
theorem grain_odd {n : Int} (h0 : 1 ≤ n) (h1 : n ≤ 9223372036854775807) : ∃ g m : Nat, grain n = g ∧ 1 ≤ g ∧ n = ((g * (2 * m + 1) : Nat) : Int) := by
  obtain ⟨N, rfl⟩ := Int.eq_ofNat_of_zero_le (by omega : 0 ≤ n)
  obtain ⟨k, m, e, hN⟩ := gr_spec (N := N) (by omega) (by omega)
  exact ⟨gr N, m, grain_nat (by omega), (gr_le (by omega) (by omega)).1, by rw [e, ← hN]⟩

/-! ### Logarithms -/
theorem blen_zero : Lib.bitLen 0 = 0 := by decide +kernel
theorem blen_spec : ∀ (f N : Nat), N ≤ f → N < 2 ^ 64 → N < 2 ^ Lib.bitLen N ∧ (N ≠ 0 → 1 ≤ Lib.bitLen N ∧ 2 ^ (Lib.bitLen N - 1) ≤ N)
  | 0, N, h, _ => by
    obtain rfl : N = 0 := by omega
    rw [blen_zero]; simp
  | f + 1, N, h, h1 => by
    by_cases h0 : N = 0
    · subst h0; rw [blen_zero]; simp
    · obtain ⟨a, b⟩ := blen_spec f (N / 2) (by omega) (by omega)
      rw [Lib.bitLen_half N h0 h1, Nat.pow_add, show 1 + Lib.bitLen (N / 2) - 1 = Lib.bitLen (N / 2) by omega]
      refine ⟨by omega, fun _ => ⟨by omega, ?_⟩⟩
      by_cases h2 : N / 2 = 0
      · rw [h2, blen_zero]; simp; omega
      · obtain ⟨c, d⟩ := b h2
        have e : Lib.bitLen (N / 2) = (Lib.bitLen (N / 2) - 1) + 1 := by omega
        rw [e, Nat.pow_succ]; omega
/-- What Log tells. -/
def log (n : Int) : Int := if n < 1 then -1 else (Lib.bitLen n.toNat : Int) - 1
theorem log_no {n : Int} (h : n < 1) : log n = -1 := if_pos h
theorem log_nat {N : Nat} (h : 1 ≤ N) : log (N : Int) = (Lib.bitLen N : Int) - 1 := by
  unfold log; rw [if_neg (by omega)]; rfl
theorem log_spec {n : Int} (h0 : 1 ≤ n) (h1 : n ≤ 9223372036854775807) : ∃ k : Nat, log n = k ∧ k ≤ 63 ∧ (2 : Int) ^ k ≤ n ∧ n < 2 ^ (k + 1) := by
  obtain ⟨N, rfl⟩ := Int.eq_ofNat_of_zero_le (by omega : 0 ≤ n)
  obtain ⟨a, b⟩ := blen_spec N N (Nat.le_refl _) (by omega)
  obtain ⟨c, d⟩ := b (by omega)
  have l := Lib.bitLen_le N 64 (by decide) (by omega)
  refine ⟨Lib.bitLen N - 1, by rw [log_nat (by omega)]; omega, by omega, ?_, ?_⟩
  · rw [← pow_cast]; omega
  · rw [← pow_cast, show Lib.bitLen N - 1 + 1 = Lib.bitLen N by omega]; omega
theorem log_le {n : Int} {k : Nat} (h : (2 : Int) ^ k ≤ n) (hn : n ≤ 1099511627776) : k ≤ 40 := by
  apply Nat.le_of_not_lt
  intro hk
  have h2 : 2 ^ 41 ≤ 2 ^ k := Nat.pow_le_pow_right (by decide) hk
  rw [← pow_cast] at h; omega

/-! ### Rounding -/
def down (n p : Int) : Int := n / p * p
def up (n p : Int) : Int := (n + p - 1) / p * p
theorem down_spec (n : Int) {p : Int} (hp : 1 ≤ p) : down n p ≤ n ∧ n < down n p + p := by
  unfold down
  have h1 := Int.emod_add_mul_ediv n p
  have h2 := Int.emod_nonneg n (by omega : p ≠ 0)
  have h3 := Int.emod_lt_of_pos n (by omega : 0 < p)
  rw [Int.mul_comm] at h1; omega
theorem up_spec (n : Int) {p : Int} (hp : 1 ≤ p) : n ≤ up n p ∧ up n p < n + p := by
  have h := down_spec (n + p - 1) hp
  unfold down at h; unfold up; omega
theorem near {p i j : Int} (hp : 1 ≤ p) (h1 : i * p < j * p + p) (h2 : j * p < i * p + p) : i = j := by
  have a : i < j + 1 := by
    apply Int.lt_of_mul_lt_mul_right (a := p) _ (by omega); rw [Int.add_mul]; omega
  have b : j < i + 1 := by
    apply Int.lt_of_mul_lt_mul_right (a := p) _ (by omega); rw [Int.add_mul]; omega
  omega
theorem up_one {n p a : Int} (hp : 1 ≤ p) (j : Int) (ha : a = j * p) (h1 : n ≤ a) (h2 : a < n + p) : up n p = a := by
  have h := up_spec n hp
  unfold up at h ⊢
  rw [ha] at h1 h2 ⊢
  rw [near hp (i := (n + p - 1) / p) (j := j) (by omega) (by omega)]
theorem down_one {n p a : Int} (hp : 1 ≤ p) (j : Int) (ha : a = j * p) (h1 : a ≤ n) (h2 : n < a + p) : down n p = a := by
  have h := down_spec n hp
  unfold down at h ⊢
  rw [ha] at h1 h2 ⊢
  rw [near hp (i := n / p) (j := j) (by omega) (by omega)]
theorem up_up (n : Int) {p : Int} (hp : 1 ≤ p) : up (up n p) p = up n p := up_one hp _ rfl (by omega) (by omega)
theorem down_down (n : Int) {p : Int} (hp : 1 ≤ p) : down (down n p) p = down n p := down_one hp _ rfl (by omega) (by omega)
theorem up_mono {n m p : Int} (hp : 1 ≤ p) (h : n ≤ m) : up n p ≤ up m p :=
  Int.mul_le_mul_of_nonneg_right (Int.ediv_le_ediv (by omega) (by omega)) (by omega)
theorem up_nonneg {n p : Int} (hp : 1 ≤ p) (h : 0 ≤ n) : 0 ≤ up n p := by have := up_spec n hp; omega
theorem down_nonneg {n p : Int} (hp : 1 ≤ p) (h : 0 ≤ n) : 0 ≤ down n p := Int.mul_nonneg (Int.ediv_nonneg h (by omega)) (by omega)
theorem up_size {n p : Int} (hp : powB p = true) (h : n ≤ 1099511627776) : up n p ≤ 1099511627776 := by
  obtain ⟨k, hk, rfl⟩ := powB_iff.1 hp
  have hb := pow_bd hk
  have e : (1099511627776 : Int) = 2 ^ (40 - k) * 2 ^ k := by rw [← Int.pow_add, show 40 - k + k = 40 by omega]; decide
  have h2 : up 1099511627776 (2 ^ k) = 1099511627776 := up_one hb.1 _ e (by omega) (by omega)
  have := up_mono hb.1 h
  omega
theorem up_down (n : Int) {p : Int} (hp : 1 ≤ p) : up n p - down n p = 0 ∨ up n p - down n p = p := by
  have h1 := up_spec n hp
  have h2 := down_spec n hp
  by_cases h : down n p = n
  · left
    rw [up_one hp (n / p) (a := n) (by unfold down at h; exact h.symm) (by omega) (by omega)]; omega
  · right
    rw [up_one hp (n / p + 1) (a := down n p + p) (by unfold down; rw [Int.add_mul]; omega) (by omega) (by omega)]; omega
theorem up_rem (n : Int) {p : Int} (hp : 1 ≤ p) (h : 0 ≤ n) : (up n p).tmod p = 0 := by
  rw [Int.tmod_eq_emod_of_nonneg (up_nonneg hp h)]; exact Int.mul_emod_left _ _
theorem down_rem (n : Int) {p : Int} (hp : 1 ≤ p) (h : 0 ≤ n) : (down n p).tmod p = 0 := by
  rw [Int.tmod_eq_emod_of_nonneg (down_nonneg hp h)]; exact Int.mul_emod_left _ _
theorem down_tmod {n p : Int} (h : 0 ≤ n) : n - n.tmod p = down n p := by
  rw [Int.tmod_eq_emod_of_nonneg h]
  have := Int.emod_add_mul_ediv n p
  unfold down; rw [Int.mul_comm]; omega
/-- The lowest bits taken away. -/
theorem andNot_raw {N k : Nat} (h : N < 9223372036854775808) (hk : k ≤ 40) : bits .andNot .i64 (N : Int) ((2 : Int) ^ k - 1) = down N (2 ^ k) := by
  have h1 : 2 ^ k ≤ 2 ^ 40 := Nat.pow_le_pow_right (by decide) hk
  have h2 : 0 < 2 ^ k := Nat.two_pow_pos k
  show IntKind.i64.wrap ((BitVec.ofInt 64 (N : Int) &&& ~~~BitVec.ofInt 64 ((2 : Int) ^ k - 1)).toNat : Int) = _
  have e1 : (BitVec.ofInt 64 (N : Int)).toNat = N := by rw [BitVec.toNat_ofInt]; omega
  have e2 : (BitVec.ofInt 64 ((2 : Int) ^ k - 1)).toNat = 2 ^ k - 1 := by rw [BitVec.toNat_ofInt, ← pow_cast]; omega
  have h3 : N / 2 ^ k * 2 ^ k ≤ N := Nat.div_mul_le_self _ _
  rw [BitVec.toNat_and, BitVec.toNat_not, e1, e2, show 2 ^ 64 - 1 - (2 ^ k - 1) = 2 ^ 64 - 2 ^ k by omega, nat_midmask 64 k N (by omega), Nat.mod_eq_of_lt (by omega), IntKind.wrap_i64]
  have e4 : down (N : Int) (2 ^ k) = ((N / 2 ^ k * 2 ^ k : Nat) : Int) := by
    unfold down; rw [← pow_cast, Int.natCast_mul, Int.natCast_ediv]
  rw [e4]; omega

end Go.Proofs.YtjnknnakllbaaaaGreat.Sp
