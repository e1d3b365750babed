import Derived.Laws.BitsAllLaws
import Derived.Laws.BitsLemmas
import Derived.Lib.TrailingZeros
import Derived.Lib.BitFns
import Derived.Lib.Mul64
import Derived.Test.YtckcgaliphpgeaaGreatDoorRows
import Derived.WalkKit
import Derived.WalkSpells
import Derived.WalkLawsBesides
import Derived.Deep.QuietTactic
import Derived.BigQuiet
import Derived.Deep.RegionHeld3
import Derived.Lib.Hide
import Derived.RegionTactic
import Derived.BigRegion
import Derived.Deep.RegionLaw
import Derived.Deep.AppendLies
import Derived.Laws.AppendOwnNone
import Derived.Laws.CopyOwn
import Derived.Deep.OwnRows
import Derived.Lib.Overlaps
/-
  Plain facts on powers of 2, their logarithms and rounding, of which no statement of its own is claimed.
-/
namespace Go.Proofs.YtckcgaliphpgeaaGreatDoor.Sp
set_option maxRecDepth 100000

/-! ### Sizes and powers -/
/-- A number from 0 to 2^40. -/
def sizeB (n : Int) : Bool := decide (0 ≤ n ∧ n ≤ 1099511627776)
theorem sizeB_iff {n : Int} : sizeB n = true ↔ 0 ≤ n ∧ n ≤ 1099511627776 := by simp [sizeB]
theorem sizeB_not {n : Int} : sizeB n = false ↔ ¬ (0 ≤ n ∧ n ≤ 1099511627776) := by simp only [sizeB, decide_eq_false_iff_not]
/-- A power of 2 from 1 to 2^40. -/
def powB (n : Int) : Bool := (List.range 41).any fun k => n == 2 ^ k
theorem powB_iff {n : Int} : powB n = true ↔ ∃ k : Nat, k ≤ 40 ∧ n = 2 ^ k := by
  unfold powB
  rw [List.any_eq_true]
  constructor
  · rintro ⟨k, hk, e⟩; exact ⟨k, by have := List.mem_range.1 hk; omega, by simpa using e⟩
  · rintro ⟨k, hk, e⟩; exact ⟨k, List.mem_range.2 (by omega), by simpa using e⟩
theorem pow_bd {k : Nat} (h : k ≤ 40) : 1 ≤ (2 : Int) ^ k ∧ (2 : Int) ^ k ≤ 1099511627776 := by
  have h1 : 2 ^ k ≤ 2 ^ 40 := Nat.pow_le_pow_right (by decide) h
  have h2 : 0 < 2 ^ k := Nat.two_pow_pos k
  have e : ((2 : Int) ^ k) = ((2 ^ k : Nat) : Int) := by rw [Int.natCast_pow]; rfl
  rw [e]; omega
theorem powB_bd {n : Int} (h : powB n = true) : 1 ≤ n ∧ n ≤ 1099511627776 := by
  obtain ⟨k, hk, rfl⟩ := powB_iff.1 h; exact pow_bd hk

/-! ### The greatest power that a number is a multiple of -/
theorem odd_inj : ∀ (a b m q : Nat), 2 ^ a * (2 * m + 1) = 2 ^ b * (2 * q + 1) → a = b
  | 0, 0, _, _, _ => rfl
  | 0, b + 1, m, q, h => by rw [Nat.pow_succ, Nat.mul_right_comm] at h; omega
  | a + 1, 0, m, q, h => by rw [Nat.pow_succ, Nat.mul_right_comm] at h; omega
  | a + 1, b + 1, m, q, h => by
    rw [Nat.pow_succ, Nat.pow_succ, Nat.mul_right_comm (2 ^ a), Nat.mul_right_comm (2 ^ b)] at h
    rw [odd_inj a b m q (by omega)]
/-- The greatest power of 2 that a number is a multiple of. -/
def gr (N : Nat) : Nat := 2 ^ Lib.ctz 64 N
theorem gr_spec {N : Nat} (h0 : 1 ≤ N) (h1 : N < 2 ^ 64) : ∃ k m, gr N = 2 ^ k ∧ N = 2 ^ k * (2 * m + 1) := by
  obtain ⟨m, hm, _⟩ := Lib.ctzFrom_spec 64 N (by omega) h1
  refine ⟨Lib.ctzFrom 64 N, m, ?_, hm⟩
  unfold gr Lib.ctz; rw [if_neg (by omega)]
theorem gr_of {N k m : Nat} (h1 : N < 2 ^ 64) (h : N = 2 ^ k * (2 * m + 1)) : gr N = 2 ^ k := by
  have h0 : 1 ≤ N := by have := Nat.mul_pos (Nat.two_pow_pos k) (by omega : 0 < 2 * m + 1); omega
  obtain ⟨j, q, e, hN⟩ := gr_spec h0 h1
  rw [e, odd_inj j k q m (by rw [← hN, ← h])]
theorem gr_le {N : Nat} (h0 : 1 ≤ N) (h1 : N < 2 ^ 64) : 1 ≤ gr N ∧ gr N ≤ N := by
  obtain ⟨k, m, e, hN⟩ := gr_spec h0 h1
  have h2 : 0 < 2 ^ k := Nat.two_pow_pos k
  have h3 : 2 ^ k ≤ 2 ^ k * (2 * m + 1) := Nat.le_mul_of_pos_right _ (by omega)
  rw [e]; omega
theorem gr_raw {N : Nat} (h0 : 1 ≤ N) (h1 : N < 9223372036854775808) : bits .and .i64 (N : Int) (-(N : Int)) = (gr N : Int) := by
  show IntKind.i64.wrap ((BitVec.ofInt 64 (N : Int) &&& BitVec.ofInt 64 (-(N : Int))).toNat : Int) = _
  have e1 : (BitVec.ofInt 64 (N : Int)).toNat = N := by rw [BitVec.toNat_ofInt]; omega
  have e2 : (BitVec.ofInt 64 (-(N : Int))).toNat = 2 ^ 64 - N := by rw [BitVec.toNat_ofInt]; omega
  obtain ⟨k, m, e, hN⟩ := gr_spec h0 (by omega)
  have hb := gr_le h0 (by omega)
  have e3 := Lib.and_neg 64 k m (by rw [← hN]; omega)
  rw [← hN, ← e] at e3
  rw [BitVec.toNat_and, e1, e2, e3, IntKind.wrap_i64]
  omega
/-- What Grain tells. -/
def grain (n : Int) : Int := if n < 1 then 0 else (gr n.toNat : Int)
theorem grain_no {n : Int} (h : n < 1) : grain n = 0 := if_pos h
theorem grain_nat {N : Nat} (h : 1 ≤ N) : grain (N : Int) = (gr N : Int) := by
  unfold grain; rw [if_neg (by omega)]; rfl
theorem pow_cast (k : Nat) : ((2 ^ k : Nat) : Int) = (2 : Int) ^ k := by rw [Int.natCast_pow]; rfl
theorem pow_grain {n : Int} (h0 : 1 ≤ n) (h1 : n ≤ 1099511627776) : powB n = (grain n == n) := by
  obtain ⟨N, rfl⟩ := Int.eq_ofNat_of_zero_le (by omega : 0 ≤ n)
  rw [Bool.eq_iff_iff, beq_iff_eq, powB_iff, grain_nat (by omega)]
  obtain ⟨k, m, e, hN⟩ := gr_spec (N := N) (by omega) (by omega)
  constructor
  · rintro ⟨j, hj, h⟩
    have h2 : N = 2 ^ j * (2 * 0 + 1) := by rw [← pow_cast] at h; omega
    rw [gr_of (by omega) h2]; omega
  · intro h
    have h2 : N = 2 ^ k := by rw [← e]; omega
    refine ⟨k, ?_, by rw [← pow_cast, ← h2]⟩
    apply Nat.le_of_not_lt
    intro hk
    have : 2 ^ 41 ≤ 2 ^ k := Nat.pow_le_pow_right (by decide) hk
    omega
theorem pow_out {n : Int} (h : ¬ (1 ≤ n ∧ n ≤ 1099511627776)) : powB n = false := by
  rw [Bool.eq_false_iff]; intro e; exact h (powB_bd e)
theorem pow_of_grain {n : Int} (h0 : 1 ≤ n) (h1 : n ≤ 1099511627776) : powB (grain n) = true := by
  obtain ⟨N, rfl⟩ := Int.eq_ofNat_of_zero_le (by omega : 0 ≤ n)
  obtain ⟨k, m, e, hN⟩ := gr_spec (N := N) (by omega) (by omega)
  have hb := gr_le (N := N) (by omega) (by omega)
  rw [grain_nat (by omega), powB_iff]
  refine ⟨k, ?_, by rw [e, pow_cast]⟩
  apply Nat.le_of_not_lt
  intro hk
  have : 2 ^ 41 ≤ 2 ^ k := Nat.pow_le_pow_right (by decide) hk
  omega
/-- A number is an odd multiple of its grain. -/
theorem grain_odd {n : Int} (h0 : 1 ≤ n) (h1 : n ≤ 9223372036854775807) : ∃ g m : Nat, grain n = g ∧ 1 ≤ g ∧ n = ((g * (2 * m + 1) : Nat) : Int) := by
  obtain ⟨N, rfl⟩ := Int.eq_ofNat_of_zero_le (by omega : 0 ≤ n)
  obtain ⟨k, m, e, hN⟩ := gr_spec (N := N) (by omega) (by omega)
  exact ⟨gr N, m, grain_nat (by omega), (gr_le (by omega) (by omega)).1, by rw [e, ← hN]⟩

/-! ### Logarithms -/
theorem blen_zero : Lib.bitLen 0 = 0 := by decide +kernel
theorem blen_spec : ∀ (f N : Nat), N ≤ f → N < 2 ^ 64 → N < 2 ^ Lib.bitLen N ∧ (N ≠ 0 → 1 ≤ Lib.bitLen N ∧ 2 ^ (Lib.bitLen N - 1) ≤ N)
  | 0, N, h, _ => by
    obtain rfl : N = 0 := by omega
    rw [blen_zero]; simp
  | f + 1, N, h, h1 => by
    by_cases h0 : N = 0
    · subst h0; rw [blen_zero]; simp
    · obtain ⟨a, b⟩ := blen_spec f (N / 2) (by omega) (by omega)
      rw [Lib.bitLen_half N h0 h1, Nat.pow_add, show 1 + Lib.bitLen (N / 2) - 1 = Lib.bitLen (N / 2) by omega]
      refine ⟨by omega, fun _ => ⟨by omega, ?_⟩⟩
      by_cases h2 : N / 2 = 0
      · rw [h2, blen_zero]; simp; omega
      · obtain ⟨c, d⟩ := b h2
        have e : Lib.bitLen (N / 2) = (Lib.bitLen (N / 2) - 1) + 1 := by omega
        rw [e, Nat.pow_succ]; omega
/-- What Log tells. -/
def log (n : Int) : Int := if n < 1 then -1 else (Lib.bitLen n.toNat : Int) - 1
theorem log_no {n : Int} (h : n < 1) : log n = -1 := if_pos h
theorem log_nat {N : Nat} (h : 1 ≤ N) : log (N : Int) = (Lib.bitLen N : Int) - 1 := by
  unfold log; rw [if_neg (by omega)]; rfl
theorem log_spec {n : Int} (h0 : 1 ≤ n) (h1 : n ≤ 9223372036854775807) : ∃ k : Nat, log n = k ∧ k ≤ 63 ∧ (2 : Int) ^ k ≤ n ∧ n < 2 ^ (k + 1) := by
  obtain ⟨N, rfl⟩ := Int.eq_ofNat_of_zero_le (by omega : 0 ≤ n)
  obtain ⟨a, b⟩ := blen_spec N N (Nat.le_refl _) (by omega)
  obtain ⟨c, d⟩ := b (by omega)
  have l := Lib.bitLen_le N 64 (by decide) (by omega)
  refine ⟨Lib.bitLen N - 1, by rw [log_nat (by omega)]; omega, by omega, ?_, ?_⟩
  · rw [← pow_cast]; omega
  · rw [← pow_cast, show Lib.bitLen N - 1 + 1 = Lib.bitLen N by omega]; omega
theorem log_le {n : Int} {k : Nat} (h : (2 : Int) ^ k ≤ n) (hn : n ≤ 1099511627776) : k ≤ 40 := by
  apply Nat.le_of_not_lt
  intro hk
  have h2 : 2 ^ 41 ≤ 2 ^ k := Nat.pow_le_pow_right (by decide) hk
  rw [← pow_cast] at h; omega

/-! ### Rounding -/
def down (n p : Int) : Int := n / p * p
def up (n p : Int) : Int := (n + p - 1) / p * p
theorem down_spec (n : Int) {p : Int} (hp : 1 ≤ p) : down n p ≤ n ∧ n < down n p + p := by
  unfold down
  have h1 := Int.emod_add_mul_ediv n p
  have h2 := Int.emod_nonneg n (by omega : p ≠ 0)
  have h3 := Int.emod_lt_of_pos n (by omega : 0 < p)
  rw [Int.mul_comm] at h1; omega
theorem up_spec (n : Int) {p : Int} (hp : 1 ≤ p) : n ≤ up n p ∧ up n p < n + p := by
  have h := down_spec (n + p - 1) hp
  unfold down at h; unfold up; omega
theorem near {p i j : Int} (hp : 1 ≤ p) (h1 : i * p < j * p + p) (h2 : j * p < i * p + p) : i = j := by
  have a : i < j + 1 := by
    apply Int.lt_of_mul_lt_mul_right (a := p) _ (by omega); rw [Int.add_mul]; omega
  have b : j < i + 1 := by
    apply Int.lt_of_mul_lt_mul_right (a := p) _ (by omega); rw [Int.add_mul]; omega
  omega
theorem up_one {n p a : Int} (hp : 1 ≤ p) (j : Int) (ha : a = j * p) (h1 : n ≤ a) (h2 : a < n + p) : up n p = a := by
  have h := up_spec n hp
  unfold up at h ⊢
  rw [ha] at h1 h2 ⊢
  rw [near hp (i := (n + p - 1) / p) (j := j) (by omega) (by omega)]
theorem down_one {n p a : Int} (hp : 1 ≤ p) (j : Int) (ha : a = j * p) (h1 : a ≤ n) (h2 : n < a + p) : down n p = a := by
  have h := down_spec n hp
  unfold down at h ⊢
  rw [ha] at h1 h2 ⊢
  rw [near hp (i := n / p) (j := j) (by omega) (by omega)]
theorem up_up (n : Int) {p : Int} (hp : 1 ≤ p) : up (up n p) p = up n p := up_one hp _ rfl (by omega) (by omega)
theorem down_down (n : Int) {p : Int} (hp : 1 ≤ p) : down (down n p) p = down n p := down_one hp _ rfl (by omega) (by omega)
theorem up_mono {n m p : Int} (hp : 1 ≤ p) (h : n ≤ m) : up n p ≤ up m p :=
  Int.mul_le_mul_of_nonneg_right (Int.ediv_le_ediv (by omega) (by omega)) (by omega)
theorem up_nonneg {n p : Int} (hp : 1 ≤ p) (h : 0 ≤ n) : 0 ≤ up n p := by have := up_spec n hp; omega
theorem down_nonneg {n p : Int} (hp : 1 ≤ p) (h : 0 ≤ n) : 0 ≤ down n p := Int.mul_nonneg (Int.ediv_nonneg h (by omega)) (by omega)
theorem up_size {n p : Int} (hp : powB p = true) (h : n ≤ 1099511627776) : up n p ≤ 1099511627776 := by
  obtain ⟨k, hk, rfl⟩ := powB_iff.1 hp
  have hb := pow_bd hk
  have e : (1099511627776 : Int) = 2 ^ (40 - k) * 2 ^ k := by rw [← Int.pow_add, show 40 - k + k = 40 by omega]; decide
  have h2 : up 1099511627776 (2 ^ k) = 1099511627776 := up_one hb.1 _ e (by omega) (by omega)
  have := up_mono hb.1 h
  omega
theorem up_down (n : Int) {p : Int} (hp : 1 ≤ p) : up n p - down n p = 0 ∨ up n p - down n p = p := by
  have h1 := up_spec n hp
  have h2 := down_spec n hp
  by_cases h : down n p = n
  · left
    rw [up_one hp (n / p) (a := n) (by unfold down at h; exact h.symm) (by omega) (by omega)]; omega
  · right
    rw [up_one hp (n / p + 1) (a := down n p + p) (by unfold down; rw [Int.add_mul]; omega) (by omega) (by omega)]; omega
theorem up_rem (n : Int) {p : Int} (hp : 1 ≤ p) (h : 0 ≤ n) : (up n p).tmod p = 0 := by
  rw [Int.tmod_eq_emod_of_nonneg (up_nonneg hp h)]; exact Int.mul_emod_left _ _
theorem down_rem (n : Int) {p : Int} (hp : 1 ≤ p) (h : 0 ≤ n) : (down n p).tmod p = 0 := by
  rw [Int.tmod_eq_emod_of_nonneg (down_nonneg hp h)]; exact Int.mul_emod_left _ _
theorem down_tmod {n p : Int} (h : 0 ≤ n) : n - n.tmod p = down n p := by
  rw [Int.tmod_eq_emod_of_nonneg h]
  have := Int.emod_add_mul_ediv n p
  unfold down; rw [Int.mul_comm]; omega
/-- The lowest bits taken away. -/
theorem andNot_raw {N k : Nat} (h : N < 9223372036854775808) (hk : k ≤ 40) : bits .andNot .i64 (N : Int) ((2 : Int) ^ k - 1) = down N (2 ^ k) := by
  have h1 : 2 ^ k ≤ 2 ^ 40 := Nat.pow_le_pow_right (by decide) hk
  have h2 : 0 < 2 ^ k := Nat.two_pow_pos k
  show IntKind.i64.wrap ((BitVec.ofInt 64 (N : Int) &&& ~~~BitVec.ofInt 64 ((2 : Int) ^ k - 1)).toNat : Int) = _
  have e1 : (BitVec.ofInt 64 (N : Int)).toNat = N := by rw [BitVec.toNat_ofInt]; omega
  have e2 : (BitVec.ofInt 64 ((2 : Int) ^ k - 1)).toNat = 2 ^ k - 1 := by rw [BitVec.toNat_ofInt, ← pow_cast]; omega
  have h3 : N / 2 ^ k * 2 ^ k ≤ N := Nat.div_mul_le_self _ _
  rw [BitVec.toNat_and, BitVec.toNat_not, e1, e2, show 2 ^ 64 - 1 - (2 ^ k - 1) = 2 ^ 64 - 2 ^ k by omega, nat_midmask 64 k N (by omega), Nat.mod_eq_of_lt (by omega), IntKind.wrap_i64]
  have e4 : down (N : Int) (2 ^ k) = ((N / 2 ^ k * 2 ^ k : Nat) : Int) := by
    unfold down; rw [← pow_cast, Int.natCast_mul, Int.natCast_ediv]
  rw [e4]; omega

end Go.Proofs.YtckcgaliphpgeaaGreatDoor.Sp

/-
  Runs of pages as plain lists, no program in sight: facts that the claimed proofs use.
-/
namespace Go.Proofs.YtckcgaliphpgeaaGreatDoor.Sp
set_option maxRecDepth 100000

structure Rn where
  p : Int
  n : Int
  t : Bool
deriving DecidableEq
def zr : Rn := ⟨0, 0, false⟩
/-- Has it pages? -/
def ne (r : Rn) : Bool := r.n != 0
def el (L : List Rn) (i : Nat) : Rn := L.getD i zr
theorem el_zero (r : Rn) (L : List Rn) : el (r :: L) 0 = r := rfl
theorem el_succ (r : Rn) (L : List Rn) (i : Nat) : el (r :: L) (i + 1) = el L i := rfl
theorem el_get {L : List Rn} {i : Nat} (h : i < L.length) : L[i]? = some (el L i) := by
  unfold el; rw [List.getD_eq_getElem?_getD, List.getElem?_eq_getElem h]; rfl
theorem el_is {L : List Rn} {i : Nat} {r : Rn} (h : L[i]? = some r) : el L i = r := by
  unfold el; rw [List.getD_eq_getElem?_getD, h]; rfl
theorem el_mem {L : List Rn} {i : Nat} (h : i < L.length) : el L i ∈ L := List.mem_of_getElem? (el_get h)
theorem el_mid (A B : List Rn) (r : Rn) : el (A ++ r :: B) A.length = r := el_is (by simp)
theorem cut_el {L : List Rn} {i : Nat} (h : i < L.length) : L = L.take i ++ el L i :: L.drop (i + 1) := by
  have e : el L i = L[i] := by have := el_get h; rw [List.getElem?_eq_getElem h] at this; exact (Option.some.inj this).symm
  rw [e, ← List.drop_eq_getElem_cons h, List.take_append_drop]
theorem el_of_mem {L : List Rn} {r : Rn} (h : r ∈ L) : ∃ i, i < L.length ∧ el L i = r := by
  obtain ⟨i, hi⟩ := List.mem_iff_getElem?.1 h
  exact ⟨i, (List.getElem?_eq_some_iff.1 hi).1, el_is hi⟩
theorem el_ext {A B : List Rn} (h : A.length = B.length) (he : ∀ i, i < A.length → el A i = el B i) : A = B := by
  apply List.ext_getElem?
  intro i
  by_cases hi : i < A.length
  · rw [el_get hi, el_get (h ▸ hi), he i hi]
  · rw [List.getElem?_eq_none (by omega), List.getElem?_eq_none (by omega)]

/-! ### What lies side by side -/
/-- From a on up to e, without a gap, none empty. -/
def Chain : Int → List Rn → Int → Prop
  | a, [], e => a = e
  | a, r :: L, e => r.p = a ∧ 1 ≤ r.n ∧ Chain (a + r.n) L e
/-- No two free ones side by side; f: the one before is free. -/
def Ap : Bool → List Rn → Prop
  | _, [] => True
  | f, r :: L => (f = true → r.t = true) ∧ Ap (!r.t) L
/-- Is the last one free? -/
def lf (f : Bool) : List Rn → Bool
  | [] => f
  | r :: L => lf (!r.t) L
theorem chain_app : ∀ {A : List Rn} {a e : Int} {B : List Rn}, Chain a (A ++ B) e ↔ ∃ m, Chain a A m ∧ Chain m B e
  | [], a, e, B => by simp [Chain]
  | r :: A, a, e, B => by
    simp only [List.cons_append, Chain, chain_app (A := A)]
    constructor
    · rintro ⟨h1, h2, m, h3, h4⟩; exact ⟨m, ⟨h1, h2, h3⟩, h4⟩
    · rintro ⟨m, ⟨h1, h2, h3⟩, h4⟩; exact ⟨h1, h2, m, h3, h4⟩
theorem ap_app : ∀ {A : List Rn} {f : Bool} {B : List Rn}, Ap f (A ++ B) ↔ Ap f A ∧ Ap (lf f A) B
  | [], f, B => by simp [Ap, lf]
  | r :: A, f, B => by simp only [List.cons_append, Ap, lf, ap_app (A := A), and_assoc]
theorem lf_app : ∀ {A : List Rn} {f : Bool} {B : List Rn}, lf f (A ++ B) = lf (lf f A) B
  | [], _, _ => rfl
  | r :: A, _, _ => by simp only [List.cons_append, lf]; exact lf_app
theorem ap_less {L : List Rn} {f : Bool} (h : Ap f L) : Ap false L := by
  cases L with
  | nil => trivial
  | cons r L => exact ⟨nofun, h.2⟩
theorem chain_len : ∀ {L : List Rn} {a e : Int}, Chain a L e → a + L.length ≤ e
  | [], a, e, h => by simp [Chain] at h; simp; omega
  | r :: L, a, e, h => by have := chain_len h.2.2; have := h.2.1; simp; omega
theorem chain_at : ∀ {L : List Rn} {a e : Int} {i : Nat}, Chain a L e → i < L.length → a ≤ (el L i).p ∧ 1 ≤ (el L i).n ∧ (el L i).p + (el L i).n ≤ e
  | [], _, _, _, _, h => by simp at h
  | r :: L, a, e, 0, h, _ => by
    have := chain_len h.2.2; have := h.1; have := h.2.1
    rw [el_zero]; omega
  | r :: L, a, e, i + 1, h, hi => by
    have := chain_at h.2.2 (i := i) (by simpa using hi); have := h.2.1
    rw [el_succ]; omega
theorem chain_mono : ∀ {L : List Rn} {a e : Int} {i j : Nat}, Chain a L e → i < j → j < L.length → (el L i).p + (el L i).n ≤ (el L j).p
  | [], _, _, _, _, _, _, h => by simp at h
  | r :: L, a, e, i, 0, _, h, _ => by omega
  | r :: L, a, e, 0, j + 1, h, _, hj => by
    have := chain_at h.2.2 (i := j) (by simpa using hj); have := h.1
    rw [el_zero, el_succ]; omega
  | r :: L, a, e, i + 1, j + 1, h, hij, hj => by
    rw [el_succ, el_succ]; exact chain_mono h.2.2 (by omega) (by simpa using hj)
theorem chain_find : ∀ {L : List Rn} {a e x : Int}, Chain a L e → a ≤ x → x < e → ∃ i, i < L.length ∧ (el L i).p ≤ x ∧ x < (el L i).p + (el L i).n
  | [], _, _, _, h, _, _ => by simp [Chain] at h; omega
  | r :: L, a, e, x, h, h1, h2 => by
    by_cases hx : x < a + r.n
    · exact ⟨0, by simp, by rw [el_zero, h.1]; omega⟩
    · obtain ⟨i, hi, h3⟩ := chain_find h.2.2 (x := x) (by omega) h2
      exact ⟨i + 1, by simpa using hi, h3⟩
theorem chain_one {L : List Rn} {a e x : Int} {i j : Nat} (h : Chain a L e) (hi : i < L.length) (hj : j < L.length) (h1 : (el L i).p ≤ x) (h2 : x < (el L i).p + (el L i).n) (h3 : (el L j).p ≤ x) (h4 : x < (el L j).p + (el L j).n) : i = j := by
  rcases Nat.lt_trichotomy i j with hl | hl | hl
  · have := chain_mono h hl hj; omega
  · exact hl
  · have := chain_mono h hl hi; omega
theorem filter_ne : ∀ {L : List Rn} {a e : Int}, Chain a L e → L.filter ne = L
  | [], _, _, _ => rfl
  | r :: L, _, _, h => by
    have : ne r = true := by have := h.2.1; simp [ne]; omega
    rw [List.filter_cons_of_pos this, filter_ne h.2.2]
/-- All pages, once each, no two free runs side by side. -/
structure WF (N : Int) (L : List Rn) : Prop where
  chain : Chain 0 L N
  apart : Ap false L
theorem WF.len {N : Int} {L : List Rn} (h : WF N L) : (L.length : Int) ≤ N := by have := chain_len h.chain; omega
/-- Pages of which none is taken. -/
def newL (N : Int) : List Rn := [⟨0, N, false⟩].filter ne
theorem new_wf {N : Int} (h : 0 ≤ N) : WF N (newL N) := by
  by_cases h0 : N = 0
  · subst h0; exact ⟨rfl, trivial⟩
  · have e : newL N = [⟨0, N, false⟩] := by unfold newL; rw [List.filter_cons_of_pos (by simp [ne, h0])]; rfl
    rw [e]
    exact ⟨⟨rfl, by show 1 ≤ N; omega, by show 0 + N = N; omega⟩, ⟨nofun, trivial⟩⟩

/-! ### Taking -/
def fit (n a : Int) (r : Rn) : Bool := !r.t && decide (n ≤ r.n - (up r.p a - r.p))
/-- Where the best of the first runs stands, or -1. -/
def bst (n a : Int) (L : List Rn) : Nat → Int
  | 0 => -1
  | i + 1 => if fit n a (el L i) = true ∧ (bst n a L i = -1 ∨ (el L i).n < (el L (bst n a L i).toNat).n) then (i : Int) else bst n a L i
theorem bst_is (n a : Int) (L : List Rn) : ∀ i, (bst n a L i = -1 ∧ ∀ j, j < i → fit n a (el L j) = false) ∨ ∃ k : Nat, bst n a L i = k ∧ k < i ∧ fit n a (el L k) = true
  | 0 => .inl ⟨rfl, fun j h => by omega⟩
  | i + 1 => by
    unfold bst
    by_cases hc : fit n a (el L i) = true ∧ (bst n a L i = -1 ∨ (el L i).n < (el L (bst n a L i).toNat).n)
    · rw [if_pos hc]; exact .inr ⟨i, rfl, by omega, hc.1⟩
    · rw [if_neg hc]
      rcases bst_is n a L i with ⟨h1, h2⟩ | ⟨k, h1, h2, h3⟩
      · refine .inl ⟨h1, fun j hj => ?_⟩
        by_cases e : j = i
        · subst e
          cases hf : fit n a (el L j) with
          | false => rfl
          | true => exact absurd ⟨hf, .inl h1⟩ hc
        · exact h2 j (by omega)
      · exact .inr ⟨k, h1, by omega, h3⟩
def askB (n a : Int) : Bool := decide (1 ≤ n) && (decide (a ≤ 4096) && powB a)
/-- Pages from u on are a span. -/
def splL (L : List Rn) (k : Nat) (u n : Int) : List Rn :=
  L.take k ++ ([⟨(el L k).p, u - (el L k).p, false⟩, ⟨u, n, true⟩, ⟨u + n, (el L k).p + (el L k).n - (u + n), false⟩] ++ L.drop (k + 1))
def takeL (L : List Rn) (k : Nat) (u n : Int) : List Rn := (splL L k u n).filter ne
/-- What is taken, as lists. -/
def mid (p m u n : Int) : List Rn := (if u - p = 0 then [] else [⟨p, u - p, false⟩]) ++ (⟨u, n, true⟩ :: (if p + m - (u + n) = 0 then [] else [⟨u + n, p + m - (u + n), false⟩]))
theorem takeL_mid {A B : List Rn} {a m e p u n M : Int} (hA : Chain a A m) (hB : Chain e B M) (r : Rn) (hp : r.p = p) (hn : 1 ≤ n) : takeL (A ++ r :: B) A.length u n = A ++ (mid p r.n u n ++ B) := by
  subst hp
  unfold takeL splL
  rw [el_mid]
  have e1 : (A ++ r :: B).take A.length = A := by simp
  have e2 : (A ++ r :: B).drop (A.length + 1) = B := by rw [List.drop_append]; simp
  rw [e1, e2, List.filter_append, List.filter_append, filter_ne hA, filter_ne hB]
  congr 2
  have h1 : ne ⟨u, n, true⟩ = true := by simp [ne]; omega
  unfold mid
  by_cases c1 : u - r.p = 0
  · rw [List.filter_cons_of_neg (by simp [ne, c1]), List.filter_cons_of_pos h1, if_pos c1]
    by_cases c2 : r.p + r.n - (u + n) = 0
    · rw [List.filter_cons_of_neg (by simp [ne, c2]), if_pos c2]; rfl
    · rw [List.filter_cons_of_pos (by simp [ne, c2]), if_neg c2]; rfl
  · rw [List.filter_cons_of_pos (by simp [ne, c1]), List.filter_cons_of_pos h1, if_neg c1]
    by_cases c2 : r.p + r.n - (u + n) = 0
    · rw [List.filter_cons_of_neg (by simp [ne, c2]), if_pos c2]; rfl
    · rw [List.filter_cons_of_pos (by simp [ne, c2]), if_neg c2]; rfl
theorem mid_chain {p m u n : Int} (h1 : p ≤ u) (hn : 1 ≤ n) (h2 : u + n ≤ p + m) : Chain p (mid p m u n) (p + m) := by
  unfold mid
  by_cases c1 : u - p = 0 <;> by_cases c2 : p + m - (u + n) = 0
  · simp only [if_pos c1, if_pos c2, List.nil_append, Chain]; (repeat' apply And.intro) <;> first | omega | trivial
  · simp only [if_pos c1, if_neg c2, List.nil_append, Chain]; (repeat' apply And.intro) <;> first | omega | trivial
  · simp only [if_neg c1, if_pos c2, List.cons_append, List.nil_append, Chain]; (repeat' apply And.intro) <;> first | omega | trivial
  · simp only [if_neg c1, if_neg c2, List.cons_append, List.nil_append, Chain]; (repeat' apply And.intro) <;> first | omega | trivial
theorem mid_ap {p m u n : Int} {B : List Rn} (h : Ap true B) : Ap false (mid p m u n ++ B) := by
  have h0 := ap_less h
  unfold mid
  by_cases c1 : u - p = 0 <;> by_cases c2 : p + m - (u + n) = 0
  · simp only [if_pos c1, if_pos c2, List.nil_append, List.cons_append, Ap]; exact ⟨nofun, h0⟩
  · simp only [if_pos c1, if_neg c2, List.nil_append, List.cons_append, Ap]; exact ⟨nofun, nofun, h⟩
  · simp only [if_neg c1, if_pos c2, List.cons_append, List.nil_append, Ap]; exact ⟨nofun, fun _ => trivial, h0⟩
  · simp only [if_neg c1, if_neg c2, List.cons_append, List.nil_append, Ap]; exact ⟨nofun, fun _ => trivial, nofun, h⟩
/-- A list, cut at a run. -/
theorem WF.cut {N : Int} {L : List Rn} (h : WF N L) {k : Nat} (hk : k < L.length) : ∃ A B, L = A ++ el L k :: B ∧ A.length = k ∧ Chain 0 A (el L k).p ∧ Chain ((el L k).p + (el L k).n) B N ∧ 1 ≤ (el L k).n ∧ Ap false A ∧ (lf false A = true → (el L k).t = true) ∧ Ap (!(el L k).t) B := by
  have e := cut_el hk
  have hc := h.chain
  have ha := h.apart
  rw [e] at hc ha
  obtain ⟨m, c1, c2⟩ := chain_app.1 hc
  obtain ⟨a1, a2⟩ := ap_app.1 ha
  refine ⟨L.take k, L.drop (k + 1), e, by simp; omega, ?_, ?_, c2.2.1, a1, a2.1, a2.2⟩
  · rw [c2.1]; exact c1
  · have := c2.2.2; rw [c2.1]; exact this
theorem take_wf {N : Int} {L : List Rn} (h : WF N L) {k : Nat} (hk : k < L.length) {u n : Int} (ht : (el L k).t = false) (h1 : (el L k).p ≤ u) (hn : 1 ≤ n) (h2 : u + n ≤ (el L k).p + (el L k).n) : WF N (takeL L k u n) := by
  obtain ⟨A, B, e, hl, c1, c2, c3, a1, a2, a3⟩ := h.cut hk
  generalize el L k = r at *
  subst e hl
  rw [takeL_mid c1 c2 r rfl hn]
  rw [ht] at a2 a3
  have hlf : lf false A = false := by cases hl : lf false A with
    | false => rfl
    | true => cases a2 hl
  exact ⟨chain_app.2 ⟨_, c1, chain_app.2 ⟨_, mid_chain h1 hn h2, c2⟩⟩, ap_app.2 ⟨a1, by rw [hlf]; exact mid_ap a3⟩⟩

/-! ### Giving -/
def joinL (L : List Rn) (f s : Nat) : List Rn := (L.set s ⟨(el L f).p, (el L s).n + (el L f).n, false⟩).set f ⟨(el L f).p, 0, false⟩
/-- Where two neighbours are there and free, the second one has the pages of both. -/
def joinB (L : List Rn) (f s : Nat) : List Rn := if s < L.length ∧ (el L f).t = false ∧ (el L s).t = false then joinL L f s else L
def giveL (L : List Rn) (k : Nat) : List Rn :=
  let L1 := L.set k ⟨(el L k).p, (el L k).n, false⟩
  let L2 := if k = 0 then L1 else joinB L1 (k - 1) k
  (joinB L2 k (k + 1)).filter ne
/-- What is before, without a free run at its end, and that one's pages. -/
def bk (A : List Rn) : List Rn × Int := match A.getLast? with
  | some x => if x.t = false then (A.dropLast, x.n) else (A, 0)
  | none => (A, 0)
def fw : List Rn → List Rn × Int
  | x :: B => if x.t = false then (B, x.n) else (x :: B, 0)
  | [] => ([], 0)
theorem bk_snoc (A : List Rn) (x : Rn) : bk (A ++ [x]) = if x.t = false then (A, x.n) else (A ++ [x], 0) := by
  unfold bk; rw [List.getLast?_concat, List.dropLast_concat]
theorem joinB_fw (A B : List Rn) (r : Rn) (hr : r.t = false) (hn : 1 ≤ r.n) {a e : Int} (hB : Chain a B e) :
    (joinB (A ++ r :: B) A.length (A.length + 1)).filter ne = A.filter ne ++ ⟨r.p, r.n + (fw B).2, false⟩ :: (fw B).1 := by
  obtain ⟨p, n, t⟩ := r
  dsimp only at hr hn
  subst hr
  have hne : ne ⟨p, n, false⟩ = true := by simp [ne]; omega
  cases B with
  | nil =>
    unfold joinB
    rw [if_neg (by simp)]
    rw [List.filter_append, List.filter_cons_of_pos hne]
    simp [fw]
  | cons x B =>
    have hx := hB.2.1
    have hfB := filter_ne hB.2.2
    have e1 : el (A ++ ⟨p, n, false⟩ :: x :: B) A.length = ⟨p, n, false⟩ := el_mid _ _ _
    have e2 : el (A ++ ⟨p, n, false⟩ :: x :: B) (A.length + 1) = x := el_is (by simp)
    unfold joinB
    rw [e1, e2]
    cases hxt : x.t with
    | true =>
      have hnx : ne x = true := by simp [ne]; omega
      rw [if_neg (by simp), List.filter_append, List.filter_cons_of_pos hne, List.filter_cons_of_pos hnx, hfB]
      simp [fw, hxt]
    | false =>
      rw [if_pos ⟨by simp, rfl, rfl⟩]
      unfold joinL
      rw [e1, e2]
      have s1 : (A ++ ⟨p, n, false⟩ :: x :: B).set (A.length + 1) ⟨p, x.n + n, false⟩ = A ++ ⟨p, n, false⟩ :: ⟨p, x.n + n, false⟩ :: B := by
        rw [List.set_append_right _ _ (by omega)]; simp
      have s2 : (A ++ ⟨p, n, false⟩ :: ⟨p, x.n + n, false⟩ :: B).set A.length ⟨p, 0, false⟩ = A ++ ⟨p, 0, false⟩ :: ⟨p, x.n + n, false⟩ :: B := by
        rw [List.set_append_right _ _ (by omega)]; simp
      rw [s1, s2, List.filter_append, List.filter_cons_of_neg (by simp [ne]), List.filter_cons_of_pos (by simp [ne]; omega), hfB]
      simp [fw, hxt, Int.add_comm]
theorem giveL_is (A B : List Rn) (r : Rn) {a m e M : Int} (hA : Chain a A m) (hr : 1 ≤ r.n) (hrp : r.p = m) (hB : Chain e B M) :
    giveL (A ++ r :: B) A.length = (bk A).1 ++ ⟨r.p - (bk A).2, (bk A).2 + r.n + (fw B).2, false⟩ :: (fw B).1 := by
  unfold giveL
  rw [el_mid]
  have s1 : (A ++ r :: B).set A.length ⟨r.p, r.n, false⟩ = A ++ ⟨r.p, r.n, false⟩ :: B := by rw [List.set_append_right _ _ (by omega)]; simp
  dsimp only
  rw [s1]
  rcases List.eq_nil_or_concat A with rfl | ⟨A0, x, rfl⟩
  · have := joinB_fw [] B ⟨r.p, r.n, false⟩ rfl hr hB
    simp only [List.length_nil, List.nil_append, if_true] at this ⊢
    rw [this]
    simp [bk]
  · obtain ⟨m', c1, c2⟩ := chain_app.1 (by simpa using hA : Chain a (A0 ++ [x]) m)
    have hfA := filter_ne c1
    have hx := c2.2.1
    have hxe := c2.2.2
    simp only [Chain] at hxe
    have hxp := c2.1
    simp only [List.concat_eq_append] at *
    rw [if_neg (by simp), bk_snoc]
    have e1 : el (A0 ++ [x] ++ ⟨r.p, r.n, false⟩ :: B) ((A0 ++ [x]).length - 1) = x := el_is (by simp)
    have e2 : el (A0 ++ [x] ++ ⟨r.p, r.n, false⟩ :: B) (A0 ++ [x]).length = ⟨r.p, r.n, false⟩ := el_mid _ _ _
    cases hxt : x.t with
    | true =>
      have : joinB (A0 ++ [x] ++ ⟨r.p, r.n, false⟩ :: B) ((A0 ++ [x]).length - 1) (A0 ++ [x]).length = A0 ++ [x] ++ ⟨r.p, r.n, false⟩ :: B := by
        unfold joinB
        rw [e1, hxt, if_neg (by simp)]
      rw [this, joinB_fw (A0 ++ [x]) B ⟨r.p, r.n, false⟩ rfl hr hB, List.filter_append, hfA, List.filter_cons_of_pos (by simp [ne]; omega)]
      simp
    | false =>
      have s2 : joinB (A0 ++ [x] ++ ⟨r.p, r.n, false⟩ :: B) ((A0 ++ [x]).length - 1) (A0 ++ [x]).length = (A0 ++ [⟨x.p, 0, false⟩]) ++ ⟨x.p, r.n + x.n, false⟩ :: B := by
        unfold joinB
        rw [e1, e2, if_pos ⟨by simp, hxt, rfl⟩]
        unfold joinL
        rw [e1, e2]
        rw [List.set_append_right _ _ (by omega)]
        simp
      have hl : (A0 ++ [x]).length = (A0 ++ [(⟨x.p, 0, false⟩ : Rn)]).length := by simp
      rw [s2, hl, joinB_fw (A0 ++ [(⟨x.p, 0, false⟩ : Rn)]) B ⟨x.p, r.n + x.n, false⟩ rfl (by show 1 ≤ r.n + x.n; omega) hB, List.filter_append, hfA, List.filter_cons_of_neg (by simp [ne])]
      simp only [if_pos, List.filter_nil, List.append_nil]
      congr 3
      · omega
      · omega
theorem bk_wf {A : List Rn} {a m : Int} (hA : Chain a A m) (hap : Ap false A) : Chain a (bk A).1 (m - (bk A).2) ∧ Ap false (bk A).1 ∧ lf false (bk A).1 = false ∧ 0 ≤ (bk A).2 := by
  rcases List.eq_nil_or_concat A with rfl | ⟨A0, x, rfl⟩
  · refine ⟨?_, trivial, rfl, Int.le_refl _⟩
    simp only [Chain] at hA
    show a = m - 0
    omega
  · simp only [List.concat_eq_append] at *
    obtain ⟨m', c1, c2⟩ := chain_app.1 hA
    obtain ⟨a1, a2⟩ := ap_app.1 hap
    have c3 : m' + x.n = m := c2.2.2
    have c4 := c2.2.1
    rw [bk_snoc]
    cases hx : x.t with
    | false =>
      refine ⟨?_, a1, ?_, by show 0 ≤ x.n; omega⟩
      · show Chain a A0 (m - x.n)
        rw [show m - x.n = m' by omega]; exact c1
      · cases hl : lf false A0 with
        | false => exact hl
        | true => have := a2.1 hl; rw [hx] at this; cases this
    | true =>
      refine ⟨by simpa using hA, by simpa using hap, ?_, Int.le_refl _⟩
      simp only [Bool.true_eq_false, if_false]
      rw [lf_app]; simp [lf, hx]
theorem fw_wf {B : List Rn} {e M : Int} (hB : Chain e B M) (hap : Ap false B) : Chain (e + (fw B).2) (fw B).1 M ∧ Ap true (fw B).1 ∧ 0 ≤ (fw B).2 := by
  cases B with
  | nil => refine ⟨?_, trivial, Int.le_refl _⟩; simp only [fw, Chain] at hB ⊢; omega
  | cons x B =>
    have h1 := hB.1
    have h2 := hB.2.1
    have h3 := hB.2.2
    cases hx : x.t with
    | false =>
      have e1 : fw (x :: B) = (B, x.n) := by simp [fw, hx]
      rw [e1]
      refine ⟨h3, ?_, by show 0 ≤ x.n; omega⟩
      have := hap.2; rwa [hx] at this
    | true =>
      have e1 : fw (x :: B) = (x :: B, 0) := by simp [fw, hx]
      rw [e1]
      exact ⟨by show Chain (e + 0) _ _; rw [Int.add_zero]; exact hB, ⟨fun _ => hx, hap.2⟩, Int.le_refl _⟩
theorem give_wf {N : Int} {L : List Rn} (h : WF N L) {k : Nat} (hk : k < L.length) (ht : (el L k).t = true) : WF N (giveL L k) := by
  obtain ⟨A, B, e, hl, c1, c2, c3, a1, a2, a3⟩ := h.cut hk
  generalize el L k = r at *
  subst e hl
  rw [giveL_is A B r c1 c3 rfl c2]
  rw [ht] at a3
  obtain ⟨b1, b2, b3, b4⟩ := bk_wf c1 a1
  obtain ⟨f1, f2, f3⟩ := fw_wf c2 a3
  refine ⟨chain_app.2 ⟨_, b1, rfl, by show 1 ≤ (bk A).2 + r.n + (fw B).2; omega, ?_⟩, ap_app.2 ⟨b2, ?_, ?_⟩⟩
  · have : r.p - (bk A).2 + ((bk A).2 + r.n + (fw B).2) = r.p + r.n + (fw B).2 := by omega
    show Chain (r.p - (bk A).2 + ((bk A).2 + r.n + (fw B).2)) _ _
    rw [this]; exact f1
  · rw [b3]; intro h; cases h
  · exact f2
end Go.Proofs.YtckcgaliphpgeaaGreatDoor.Sp

/-
  What the program's functions do, first part: contracts that the claimed proofs use.
-/
namespace Go.Proofs.YtckcgaliphpgeaaGreatDoor.Sp
set_option maxRecDepth 100000
open Go.RowKit

theorem ret_i {a b : Int} (h : a = b) : Ending.returned (.int .i64 a) = .returned (.int .i64 b) := by rw [h]
theorem ret_b {a b : Bool} (h : a = b) : Ending.returned (.bool a) = .returned (.bool b) := by rw [h]
theorem ret_ii {a b c d : Int} (h : a = b) (h2 : c = d) : Ending.returned (.tuple #[.int .i64 a, .int .i64 c]) = .returned (.tuple #[.int .i64 b, .int .i64 d]) := by rw [h, h2]

/-- sizes.isSize. -/
theorem isSize_any (n : Int) (w : World) : Calls Tryz.prog 182 #[.int .i64 n] w fun e w' => e = .returned (.bool (sizeB n)) ∧ w = w' := by
  by_cases h0 : 0 ≤ n
  · go_enter Tryz.func182, Tryz.ntmps182
    go_wp2
    go_ret
    exact ⟨ret_b (by unfold sizeB; rw [decide_eq_decide]; omega), rfl⟩
  · have hd : decide (0 ≤ n) = false := by simpa using h0
    go_enter Tryz.func182, Tryz.ntmps182
    go_wp2
    go_ret
    exact ⟨ret_b (by symm; rw [sizeB_not]; omega), rfl⟩

/-- sizes.Grain. -/
theorem grain_any (n : Int) (w : World) (hn : n ≤ 9223372036854775807) : Calls Tryz.prog 183 #[.int .i64 n] w fun e w' => e = .returned (.int .i64 (grain n)) ∧ w = w' := by
  by_cases h0 : n < 1
  · go_enter Tryz.func183, Tryz.ntmps183
    go_wp2
    go_ret
    exact ⟨ret_i (grain_no h0).symm, rfl⟩
  · obtain ⟨N, rfl⟩ := Int.eq_ofNat_of_zero_le (by omega : 0 ≤ n)
    go_enter Tryz.func183, Tryz.ntmps183
    go_wp2
    go_ret
    exact ⟨ret_i (by rw [gr_raw (by omega) (by omega), grain_nat (by omega)]), rfl⟩

/-- sizes.Power. -/
theorem power_any (n : Int) (w : World) : Calls Tryz.prog 159 #[.int .i64 n] w fun e w' => e = .returned (.bool (powB n)) ∧ w = w' := by
  by_cases hs : 0 ≤ n ∧ n ≤ 1099511627776
  · obtain ⟨h0, h1⟩ := hs
    have hs : sizeB n = true := sizeB_iff.2 ⟨h0, h1⟩
    by_cases hz : n = 0
    · subst hz
      go_enter Tryz.func159, Tryz.ntmps159
      go_wp2_with (go_at_call 182; refine (isSize_any _ _).mono ?_; rintro e w' ⟨rfl, rfl⟩)
      go_ret
      exact ⟨ret_b (pow_out (by omega)).symm, rfl⟩
    · have hz' : (n != 0) = true := by simpa using hz
      have P := Lib.hid (pow_grain (n := n) (by omega) h1)
      have hg := Lib.hid (fun w => grain_any n w (by omega))
      go_enter Tryz.func159, Tryz.ntmps159
      go_wp2_with (first | (go_at_call 182; refine (isSize_any _ _).mono ?_; rintro e w' ⟨rfl, rfl⟩) | (go_at_call 183; refine (hg.out _).mono ?_; rintro e w' ⟨rfl, rfl⟩))
      go_ret
      exact ⟨ret_b P.out.symm, rfl⟩
  · have h1 : sizeB n = false := sizeB_not.2 hs
    have P := Lib.hid (pow_out (n := n) (by omega))
    go_enter Tryz.func159, Tryz.ntmps159
    go_wp2_with (go_at_call 182; refine (isSize_any _ _).mono ?_; rintro e w' ⟨rfl, rfl⟩)
    go_ret
    exact ⟨ret_b P.out.symm, rfl⟩

/-- sizes.multipleUpTo. -/
theorem multiple_any (n p : Int) (w : World) (h0 : 0 ≤ n) (h1 : n ≤ 9223372036854775807) (hp : powB p = true) : Calls Tryz.prog 185 #[.int .i64 n, .int .i64 p] w fun e w' => e = .returned (.int .i64 (down n p)) ∧ w = w' := by
  have hb := powB_bd hp
  have P := Lib.hid hp
  clear hp
  go_enter Tryz.func185, Tryz.ntmps185
  go_wp2
  go_ret
  refine ⟨ret_i ?_, rfl⟩
  obtain ⟨k, hk, rfl⟩ := powB_iff.1 P.out
  obtain ⟨N, rfl⟩ := Int.eq_ofNat_of_zero_le h0
  exact andNot_raw (by omega) hk

/-- sizes.Of. -/
theorem of_yes (n : Int) (w : World) (h0 : 0 ≤ n) (h1 : n ≤ 1099511627776) : Calls Tryz.prog 184 #[.int .u64 n] w fun e w' => e = .returned (.tuple #[.int .i64 n, .int .i64 0]) ∧ w = w' := by
  go_enter Tryz.func184, Tryz.ntmps184
  go_wp2
  go_ret2
  exact ⟨rfl, rfl⟩
theorem of_no (n : Int) (w : World) (h1 : 1099511627776 < n) : Calls Tryz.prog 184 #[.int .u64 n] w fun e w' => e = .returned (.tuple #[.int .i64 0, .int .i64 14]) ∧ w = w' := by
  go_enter Tryz.func184, Tryz.ntmps184
  go_wp2
  go_ret2
  exact ⟨rfl, rfl⟩

/-- sizes.Up. -/
theorem up_yes (n p : Int) (w : World) (hn : sizeB n = true) (hp : powB p = true) : Calls Tryz.prog 161 #[.int .i64 n, .int .i64 p] w fun e w' => e = .returned (.tuple #[.int .i64 (up n p), .int .i64 0]) ∧ w = w' := by
  obtain ⟨h0, h1⟩ := sizeB_iff.1 hn
  obtain ⟨p0, p1⟩ := powB_bd hp
  have M := Lib.hid (fun w => multiple_any (n + p - 1) p w (by omega) (by omega) hp)
  have u0 := up_nonneg p0 h0
  have u1 := up_size hp h1
  have U : up n p = down (n + p - 1) p := rfl
  generalize up n p = a at *
  rw [← U] at M
  clear U
  go_enter Tryz.func161, Tryz.ntmps161
  go_wp2_with (first | (go_at_call 182; refine (isSize_any _ _).mono ?_; rintro e w' ⟨rfl, rfl⟩) | (go_at_call 159; refine (power_any _ _).mono ?_; rintro e w' ⟨rfl, rfl⟩) | (go_at_call 185; refine (M.out _).mono ?_; rintro e w' ⟨rfl, rfl⟩) | (go_at_call 184; refine (of_yes _ _ u0 u1).mono ?_; rintro e w' ⟨rfl, rfl⟩))
  go_ret2
  exact ⟨rfl, rfl⟩
theorem up_no (n p : Int) (w : World) (h : sizeB n = false ∨ powB p = false) : Calls Tryz.prog 161 #[.int .i64 n, .int .i64 p] w fun e w' => e = .returned (.tuple #[.int .i64 0, .int .i64 11]) ∧ w = w' := by
  cases hn : sizeB n
  · go_enter Tryz.func161, Tryz.ntmps161
    go_wp2_with (first | (go_at_call 182; refine (isSize_any _ _).mono ?_; rintro e w' ⟨rfl, rfl⟩) | (go_at_call 159; refine (power_any _ _).mono ?_; rintro e w' ⟨rfl, rfl⟩))
    go_ret2
    exact ⟨rfl, rfl⟩
  · have hp : powB p = false := by rcases h with h | h <;> simp_all
    clear h
    go_enter Tryz.func161, Tryz.ntmps161
    go_wp2_with (first | (go_at_call 182; refine (isSize_any _ _).mono ?_; rintro e w' ⟨rfl, rfl⟩) | (go_at_call 159; refine (power_any _ _).mono ?_; rintro e w' ⟨rfl, rfl⟩))
    go_ret2
    exact ⟨rfl, rfl⟩

end Go.Proofs.YtckcgaliphpgeaaGreatDoor.Sp

/-
  What runs of pages are, as the walk meets them: a row of cells, three to a run; laws on it that the claimed proofs use.
-/
namespace Go.Proofs.YtckcgaliphpgeaaGreatDoor.Sp
set_option maxRecDepth 100000
open Go.RowKit

/-! ### Worlds -/
theorem up_trans {w W w2 : World} (h : Below w.heap.size w W) (h2 : Below W.heap.size W w2) : Below w.heap.size w w2 := h.trans (h2.mono h.size)
theorem up_alloc {w W : World} (h : Below w.heap.size w W) (o : Obj) : Below w.heap.size w (W.alloc o) := h.alloc h.size o
theorem up_drew {w W : World} (h : Below w.heap.size w W) : ∀ k, Below w.heap.size w (W.drewN k)
  | 0 => h
  | k + 1 => (up_drew h k).drew
theorem i64_in (n : Int) (h0 : -1 ≤ n) (h1 : n ≤ 4611686018427387904) : IntKind.i64.wrap n = n := by rw [IntKind.wrap_i64]; omega
theorem drewN_heap (w : World) : ∀ j, (w.drewN j).heap = w.heap
  | 0 => rfl
  | j + 1 => drewN_heap w j
def Drawn (w wr : World) : Prop := ∃ j, wr = w.drewN j
theorem Drawn.refl (w : World) : Drawn w w := ⟨0, rfl⟩
theorem Drawn.on {w wr : World} (h : Drawn w wr) (n : Nat) : Drawn w (wr.drewN n) := by
  obtain ⟨j, rfl⟩ := h; exact ⟨j + n, by rw [World.drewN_drewN]⟩
theorem Drawn.trans {w wr w2 : World} (h : Drawn w wr) (h2 : Drawn wr w2) : Drawn w w2 := by obtain ⟨j, rfl⟩ := h2; exact h.on j
theorem Drawn.below {w wr : World} (h : Drawn w wr) : Below w.heap.size w wr := by
  obtain ⟨j, rfl⟩ := h; exact up_drew (Below.refl _ w) j
theorem Drawn.heap {w wr : World} (h : Drawn w wr) : wr.heap = w.heap := by
  obtain ⟨j, rfl⟩ := h; exact drewN_heap w j
theorem Drawn.cell {w wr : World} (h : Drawn w wr) {p : Addr} {v : Value} (hc : w.cell? p = some v) : wr.cell? p = some v :=
  (h.below.cell (World.block_lt_of_cell? w p hc)).trans hc
theorem grown_refl (w : World) (r : Option Nat) : w.grownBy w r := ⟨rfl, rfl, rfl, Nat.le_refl _, fun _ _ _ => rfl⟩
theorem grown_below {w w' : World} {r : Option Nat} (h : Below w.heap.size w w') : w.grownBy w' r := ⟨h.os, h.tape, h.output, h.size, fun k hk _ => h.block k hk⟩
theorem grown_trans {a b c : World} {r : Option Nat} (h : a.grownBy b r) (k : b.grownBy c r) : a.grownBy c r :=
  ⟨k.os.trans h.os, k.tape.trans h.tape, k.output.trans h.output, Nat.le_trans h.size k.size, fun i hi hr => (k.block i (Nat.lt_of_lt_of_le hi h.size) hr).trans (h.block i hi hr)⟩
theorem grown_none {a b : World} (h : a.grownBy b none) : Below a.heap.size a b := ⟨h.os, h.tape, h.output, h.size, fun k hk => h.block k hk (by simp)⟩
/-- What is new stays free: a block that there was not. -/
theorem grown_new {a b c : World} {g : Nat} (h : Below a.heap.size a b) (k : b.grownBy c (some g)) (hg : a.heap.size ≤ g) : Below a.heap.size a c :=
  ⟨k.os.trans h.os, k.tape.trans h.tape, k.output.trans h.output, Nat.le_trans h.size k.size, fun i hi => (k.block i (Nat.lt_of_lt_of_le hi h.size) (by simp; omega)).trans (h.block i hi)⟩
/-- Of the blocks that there were, q and g alone may have changed. -/
structure Fr (q g : Nat) (w w' : World) : Prop where
  os : w'.os = w.os
  tape : w'.tape = w.tape
  output : w'.output = w.output
  size : w.heap.size ≤ w'.heap.size
  block : ∀ k, k < w.heap.size → k ≠ q → k ≠ g → w'.heap[k]? = w.heap[k]?
theorem Fr.refl (q g : Nat) (w : World) : Fr q g w w := ⟨rfl, rfl, rfl, Nat.le_refl _, fun _ _ _ _ => rfl⟩
theorem Fr.of {q g : Nat} {a b : World} (h : Below a.heap.size a b) : Fr q g a b := ⟨h.os, h.tape, h.output, h.size, fun k hk _ _ => h.block k hk⟩
theorem Fr.ofg {q g : Nat} {a b : World} (h : a.grownBy b (some g)) : Fr q g a b := ⟨h.os, h.tape, h.output, h.size, fun k hk _ h2 => h.block k hk (by simpa using h2)⟩
theorem Fr.ofq {q g : Nat} {a b : World} (h : a.grownBy b (some q)) : Fr q g a b := ⟨h.os, h.tape, h.output, h.size, fun k hk h1 _ => h.block k hk (by simpa using h1)⟩
theorem Fr.trans {q g g' : Nat} {a b c : World} (h : Fr q g a b) (k : Fr q g' b c) (hg : g' = g ∨ a.heap.size ≤ g') : Fr q g a c :=
  ⟨k.os.trans h.os, k.tape.trans h.tape, k.output.trans h.output, Nat.le_trans h.size k.size, fun i hi h1 h2 => (k.block i (Nat.lt_of_lt_of_le hi h.size) h1 (by omega)).trans (h.block i hi h1 h2)⟩
theorem Fr.below {q g B : Nat} {a b : World} (h : Fr q g a b) (h1 : B ≤ q) (h2 : B ≤ g) (hB : B ≤ a.heap.size) : Below B a b :=
  ⟨h.os, h.tape, h.output, h.size, fun k hk => h.block k (by omega) (by omega) (by omega)⟩

/-! ### Rows of cells -/
def Blk (w : World) (g : Nat) (vs : List Value) (t : TypeId) : Prop := w.heap[g]? = some (.cells vs.toArray t (0, 0))
theorem Blk.cell {w : World} {g i : Nat} {vs : List Value} {t : TypeId} (h : Blk w g vs t) : w.cell? ⟨g, i, none⟩ = vs[i]? := by
  rw [cell_of_row w g i _ t (0, 0) h]; simp
theorem Blk.frozen {w : World} {g : Nat} {vs : List Value} {t : TypeId} (h : Blk w g vs t) (i : Nat) : w.frozen? ⟨g, i, none⟩ = false := frozen_of_row w g i _ t h
theorem Blk.lt {w : World} {g : Nat} {vs : List Value} {t : TypeId} (h : Blk w g vs t) : g < w.heap.size := (Array.getElem?_eq_some_iff.1 h).1
theorem Blk.of {w w' : World} {g : Nat} {vs : List Value} {t : TypeId} (h : Blk w g vs t) (e : w'.heap[g]? = w.heap[g]?) : Blk w' g vs t := e.trans h
theorem Blk.set {w : World} {g i : Nat} {vs : List Value} {t : TypeId} (h : Blk w g vs t) (v : Value) : Blk (w.setCell ⟨g, i, none⟩ v) g (vs.set i v) t := by
  have := heap_setCell_same w g i _ t v h
  unfold Blk
  rw [this]
  simp
theorem grown_set (w : World) (g i : Nat) (v : Value) : w.grownBy (w.setCell ⟨g, i, none⟩ v) (some g) :=
  ⟨rfl, rfl, rfl, by simp [World.setCell], fun k _ hr => Below.heap_setCell _ _ _ _ (fun e => hr (by simpa using e))⟩
def rc (r : Rn) : List Value := [.int .i64 r.p, .int .i64 r.n, .bool r.t]
def rcs (L : List Rn) : List Value := L.flatMap rc
theorem rcs_cons (r : Rn) (L : List Rn) : rcs (r :: L) = rc r ++ rcs L := List.flatMap_cons
theorem rcs_app (A B : List Rn) : rcs (A ++ B) = rcs A ++ rcs B := List.flatMap_append
theorem rcs_length : ∀ (L : List Rn), (rcs L).length = L.length * 3
  | [] => rfl
  | r :: L => by rw [rcs_cons, List.length_append, rcs_length L]; simp [rc]; omega
theorem rcs_one (L : List Rn) : ∀ v ∈ rcs L, v.oneCell' = true := by
  intro v hv
  obtain ⟨r, _, hr⟩ := List.mem_flatMap.1 hv
  simp only [rc, List.mem_cons, List.not_mem_nil, or_false] at hr
  rcases hr with rfl | rfl | rfl <;> rfl
theorem rcs_get : ∀ {L : List Rn} {i : Nat} (k : Nat), i < L.length → k < 3 → (rcs L)[i * 3 + k]? = (rc (el L i))[k]?
  | [], _, _, h, _ => by simp at h
  | r :: L, 0, k, _, hk => by
    rw [rcs_cons, List.getElem?_append_left (by simp [rc]; omega), el_zero]; simp
  | r :: L, i + 1, k, h, hk => by
    rw [rcs_cons, List.getElem?_append_right (by simp [rc]; omega), el_succ, ← rcs_get k (by simpa using h) hk]
    congr 1; simp [rc]; omega
theorem rcs_take : ∀ (L : List Rn) (i : Nat), i ≤ L.length → (rcs L).take (i * 3) = rcs (L.take i)
  | L, 0, _ => by simp [rcs]
  | [], i + 1, h => by simp at h
  | r :: L, i + 1, h => by
    have e : (i + 1) * 3 = (rc r).length + i * 3 := by simp [rc]; omega
    rw [rcs_cons, List.take_succ_cons, rcs_cons, ← rcs_take L i (by simpa using h), e, List.take_length_add_append]
theorem rcs_drop : ∀ (L : List Rn) (i : Nat), i ≤ L.length → (rcs L).drop (i * 3) = rcs (L.drop i)
  | L, 0, _ => by simp
  | [], i + 1, h => by simp at h
  | r :: L, i + 1, h => by
    have e : (i + 1) * 3 = (rc r).length + i * 3 := by simp [rc]; omega
    rw [rcs_cons, List.drop_succ_cons, ← rcs_drop L i (by simpa using h), e, List.drop_length_add_append]
theorem rcs_set : ∀ {L : List Rn} {i : Nat} (k : Nat) (r : Rn) (v : Value), i < L.length → k < 3 → rc r = (rc (el L i)).set k v → rcs (L.set i r) = (rcs L).set (i * 3 + k) v
  | [], _, _, _, _, h, _, _ => by simp at h
  | x :: L, 0, k, r, v, _, hk, hr => by
    rw [List.set_cons_zero, rcs_cons, rcs_cons, hr, el_zero, List.set_append_left _ _ (by simp [rc]; omega)]; simp
  | x :: L, i + 1, k, r, v, h, hk, hr => by
    rw [List.set_cons_succ, rcs_cons, rcs_cons, rcs_set k r v (by simpa using h) hk (by rw [el_succ] at hr; exact hr), List.set_append_right _ _ (by simp [rc]; omega)]
    congr 2; simp [rc]; omega
/-- A row of runs, with room for cap of them. -/
def Rw (w : World) (g cap : Nat) (L : List Rn) : Prop :=
  ∃ cur : List Value, Blk w g cur 108 ∧ cur.length = cap * 3 ∧ L.length ≤ cap ∧ cap ≤ maxLen ∧ cur.take (L.length * 3) = rcs L
theorem Rw.lt {w : World} {g cap : Nat} {L : List Rn} (h : Rw w g cap L) : g < w.heap.size := by obtain ⟨_, hb, _⟩ := h; exact hb.lt
theorem Rw.of {w w' : World} {g cap : Nat} {L : List Rn} (h : Rw w g cap L) (e : w'.heap[g]? = w.heap[g]?) : Rw w' g cap L := by
  obtain ⟨cur, hb, h2⟩ := h; exact ⟨cur, hb.of e, h2⟩
theorem Rw.below {w w' : World} {g cap : Nat} {L : List Rn} (h : Rw w g cap L) (hb : Below w.heap.size w w') : Rw w' g cap L := h.of (hb.block _ h.lt)
theorem Rw.fit {w : World} {g cap : Nat} {L : List Rn} (h : Rw w g cap L) : L.length ≤ cap ∧ cap ≤ 9223372036854775807 := by
  obtain ⟨_, _, _, h1, h2, _⟩ := h; simp only [maxLen] at h2; exact ⟨h1, by omega⟩
theorem Rw.get {w : World} {g cap : Nat} {L : List Rn} (h : Rw w g cap L) {i k : Nat} (hi : i < L.length) (hk : k < 3) : w.cell? ⟨g, i * 3 + k, none⟩ = (rc (el L i))[k]? := by
  obtain ⟨cur, hb, h1, h2, h3, h4⟩ := h
  rw [hb.cell, ← rcs_get k hi hk, ← h4, List.getElem?_take, if_pos (by omega)]
theorem Rw.cells {w : World} {g cap : Nat} {L : List Rn} (h : Rw w g cap L) {i : Nat} (hi : i < L.length) :
    w.cell? ⟨g, i * 3, none⟩ = some (.int .i64 (el L i).p) ∧ w.cell? ⟨g, i * 3 + 1, none⟩ = some (.int .i64 (el L i).n) ∧ w.cell? ⟨g, i * 3 + 2, none⟩ = some (.bool (el L i).t) :=
  ⟨h.get hi (k := 0) (by omega), h.get hi (k := 1) (by omega), h.get hi (k := 2) (by omega)⟩
theorem Rw.frozen {w : World} {g cap : Nat} {L : List Rn} (h : Rw w g cap L) (i : Nat) : w.frozen? ⟨g, i, none⟩ = false := by
  obtain ⟨_, hb, _⟩ := h; exact hb.frozen i
theorem Rw.set {w : World} {g cap : Nat} {L : List Rn} (h : Rw w g cap L) {i k : Nat} (hi : i < L.length) (hk : k < 3) (r : Rn) (v : Value) (hr : rc r = (rc (el L i)).set k v) : Rw (w.setCell ⟨g, i * 3 + k, none⟩ v) g cap (L.set i r) := by
  obtain ⟨cur, hb, h1, h2, h3, h4⟩ := h
  refine ⟨_, hb.set v, by simpa using h1, by simpa using h2, h3, ?_⟩
  rw [List.length_set, rcs_set k r v hi hk hr, ← h4, List.take_set]
theorem Rw.owns {w : World} {g cap : Nat} {L : List Rn} (h : Rw w g cap L) {i : Nat} (hi : i ≤ L.length) : w.ownsRow g 108 3 (.slice (some ⟨g, 0, none⟩) i cap) i (rcs (L.take i)) := by
  obtain ⟨cur, hb, h1, h2, h3, h4⟩ := h
  refine ⟨by rw [rcs_length]; simp; omega, .inr ⟨g, cap, cur.toArray, rfl, Nat.le_refl _, hb, by omega, h3, by simpa using h1, ?_⟩⟩
  rw [← rcs_take L i hi, ← h4, List.take_take, Nat.min_eq_left (by omega)]
theorem Rw.owned {w : World} {b g cap n : Nat} {L : List Rn} (h : w.ownsRow b 108 3 (.slice (some ⟨g, 0, none⟩) n cap) n (rcs L)) (hn : L.length = n) : Rw w g cap L ∧ b ≤ g := by
  rcases h.2 with ⟨h', _⟩ | ⟨g', cap', cur, h', hb, hh, h1, h2, h3, h4⟩
  · simp at h'
  · simp only [Value.slice.injEq, Option.some.injEq, Addr.mk.injEq, and_true, true_and] at h'
    obtain ⟨rfl, rfl⟩ := h'
    exact ⟨⟨cur.toList, by unfold Blk; simpa using hh, by simpa using h3, by omega, h2, by rw [hn]; exact h4⟩, hb⟩

/-! ### Rows that are copied, cleared, made longer -/
theorem run_info : (Tryz.prog.info? 108).map (fun i => (i.zero, i.size, i.bytes)) = some (some (.agg #[.int .i64 0, .int .i64 0, .bool false]), 3, 24) := by kernel_rfl
theorem int_info : (Tryz.prog.info? 3).map (fun i => (i.zero, i.size, i.bytes)) = some (some (.int .i64 0), 1, 8) := by kernel_rfl
theorem info_parts {t : TypeId} {z : Value} {s b : Nat} (h : (Tryz.prog.info? t).map (fun i => (i.zero, i.size, i.bytes)) = some (some z, s, b)) : ∃ i, Tryz.prog.info? t = some i ∧ i.zero = some z ∧ i.size = s ∧ i.bytes = b := by
  obtain ⟨i, hi, hp⟩ := Option.map_eq_some_iff.1 h
  simp only [Prod.mk.injEq] at hp
  exact ⟨i, hi, hp.1, hp.2.1, hp.2.2⟩
theorem run_copy3 (w : World) (ty : TypeId) (g o dLen dCap : Nat) (a : Addr) (sLen sCap m : Nat) (cur cs : List Value) (hg : Blk w g cur 108) (hm : Nat.min sLen dLen = m) (hn : cs.length = m * 3)
    (hsrc : ∀ j v, cs[j]? = some v → w.cell? (a.add j) = some v) (hfit : o + cs.length ≤ cur.length) (h1 : ∀ v ∈ cs, v.oneCell' = true) :
    ∃ w', (Builtin.copy_ #[163, 163] ty #[.slice (some ⟨g, o, none⟩) dLen dCap, .slice (some a) sLen sCap]).run Tryz.prog w = .ok (goInt m) w' ∧ Blk w' g (splice cur o cs) 108 ∧ w.grownBy w' (some g) := by
  obtain ⟨i, hi, _, hs, _⟩ := info_parts run_info
  have hl := run_loadCells_list (P := Tryz.prog) w a cs hsrc
  have hst := run_storeCells_at Tryz.prog g o 108 cs 0 cur.toArray w hg (by simpa using hfit) h1
  have hst' : (storeCells ⟨g, o, none⟩ cs).run Tryz.prog w = .ok () (w.setRow g (splice cur o cs).toArray) := by rw [hst]; simp [splice]
  rw [hn] at hl
  refine ⟨w.setRow g (splice cur o cs).toArray, by simp [Builtin.copy_, run_underlying Tryz.underlying163, Builtin.lenOf, Builtin.firstCells, sizeOf, typeInfo, hi, hs, hm, hl, hst'], ?_, ⟨rfl, rfl, rfl, by simp [World.setRow], fun k _ hk => setRow_other w g k _ (fun e => hk (by simp [e]))⟩⟩
  exact setRow_heap w g cur.toArray (splice cur o cs).toArray 108 (0, 0) hg
theorem zero3 (n : Nat) : (Builtin.zeroCells (Value.cells (.agg #[.int .i64 0, .int .i64 0, .bool false])) n).toList.length = n * 3 ∧ ∀ v ∈ (Builtin.zeroCells (Value.cells (.agg #[.int .i64 0, .int .i64 0, .bool false])) n).toList, v.oneCell' = true := by
  refine ⟨by rw [Array.length_toList, size_zeroCells]; rfl, fun v hv => ?_⟩
  have hv : v ∈ Builtin.zeroCells (Value.cells (.agg #[.int .i64 0, .int .i64 0, .bool false])) n := by simpa using hv
  unfold Builtin.zeroCells at hv
  obtain ⟨i, _, rfl⟩ := Array.mem_map.1 hv
  have h3 : i % 3 = 0 ∨ i % 3 = 1 ∨ i % 3 = 2 := by omega
  show Value.oneCell' (#[Value.int .i64 0, .int .i64 0, .bool false][i % 3]!) = true
  rcases h3 with h | h | h <;> rw [h] <;> rfl
theorem run_clear3 (w : World) (ty : TypeId) (g o n c : Nat) (cur : List Value) (hg : Blk w g cur 108) (hn : 0 < n) (hfit : o + n * 3 ≤ cur.length) :
    ∃ w' cur', (Builtin.clear_ #[163] ty #[.slice (some ⟨g, o, none⟩) n c]).run Tryz.prog w = .ok (.tuple #[]) w' ∧ Blk w' g cur' 108 ∧ cur'.length = cur.length ∧ cur'.take o = cur.take o ∧ w.grownBy w' (some g) := by
  obtain ⟨i, hi, hz, hs, _⟩ := info_parts run_info
  obtain ⟨hl, h1⟩ := zero3 n
  generalize hzs : (Builtin.zeroCells (Value.cells (.agg #[.int .i64 0, .int .i64 0, .bool false])) n).toList = zs at hl h1
  have hst := run_storeCells_at Tryz.prog g o 108 zs 0 cur.toArray w hg (by simp; omega) h1
  obtain ⟨m, rfl⟩ : ∃ m, n = m + 1 := ⟨n - 1, by omega⟩
  have hst' : (storeCells ⟨g, o, none⟩ zs).run Tryz.prog w = .ok () (w.setRow g (splice cur o zs).toArray) := by rw [hst]; simp [splice]
  refine ⟨w.setRow g (splice cur o zs).toArray, splice cur o zs, by simp [Builtin.clear_, run_underlying Tryz.underlying163, zeroValue, typeInfo, hi, hz, hzs, hst'], setRow_heap w g cur.toArray _ 108 (0, 0) hg, length_splice _ _ _ (by omega), ?_, ⟨rfl, rfl, rfl, by simp [World.setRow], fun k _ hk => setRow_other w g k _ (fun e => hk (by simp [e]))⟩⟩
  unfold splice
  rw [List.take_append_of_le_length (by simp; omega), List.take_take, Nat.min_self]
theorem run_zeros3 (w : World) (ty : TypeId) (g sLen sCap n cap : Nat) (L : List Rn) (hr : Rw w g cap L) (hs : sLen ≤ L.length) (hlen : sLen + n ≤ 1048576) (h0 : 0 < n) (hg : sCap < sLen + n) :
    ∃ g' cap' w' cur', (Builtin.append_ #[163, 3] ty #[.slice (some ⟨g, 0, none⟩) sLen sCap, .int .i64 (n : Int)]).run Tryz.prog w = .ok (.slice (some ⟨g', 0, none⟩) (sLen + n) cap') w' ∧
      Blk w' g' cur' 108 ∧ g' = w.heap.size ∧ cur'.length = cap' * 3 ∧ sLen + n ≤ cap' ∧ cap' ≤ maxLen ∧ cur'.take (sLen * 3) = rcs (L.take sLen) ∧ Below w.heap.size w w' := by
  obtain ⟨i, hi, hz, hsz, hb⟩ := info_parts run_info
  have hcells : ∀ j v, (rcs (L.take sLen))[j]? = some v → w.drew.cell? ((⟨g, 0, none⟩ : Addr).add j) = some v := fun j v hv => (hr.owns hs).cells (g := g) rfl j v hv
  have hfo := run_firstCells_some (P := Tryz.prog) w.drew i.size sLen ⟨g, 0, none⟩ sLen sCap (rcs (L.take sLen)) (by rw [rcs_length, hsz]; simp; omega) hcells
  have hn : ¬ (sLen + n ≤ sCap) := by omega
  have h63' : ¬ (9223372036854775807 < ((sLen : Int) + (n : Int))) := by omega
  have h48' : ¬ (281474976710656 < Builtin.nextslicecap (sLen + n) sCap * i.bytes) := by
    have := growslice_fits (old := sCap) (need := sLen + n) (bytes := i.bytes) (by omega) (by rw [hb]; omega)
    omega
  have hw : IntKind.i64.wrap (n : Int) = n := i64_in _ (by omega) (by omega)
  have hbig : ¬ (281474976710656 < (n : Int) * (i.bytes : Int)) := by rw [hb]; omega
  have hai : ∀ w, (asIntOf (.int .i64 (n : Int))).run Tryz.prog w = .ok (.i64, (n : Int)) w := fun _ => rfl
  have hnz : ¬ (n * i.size = 0) := by rw [hsz]; omega
  have hneg : ¬ ((n : Int) < 0) := by omega
  have hge := grownCap_ge w (sLen + n) sCap 108
  have hcm := grownCap_le_maxLen w (sLen + n) sCap 108 (by simp only [maxLen]; omega)
  obtain ⟨z1, _⟩ := zero3 n
  obtain ⟨z2, _⟩ := zero3 (grownCap w (sLen + n) sCap 108 - (sLen + n))
  have hrun : (Builtin.append_ #[163, 3] ty #[.slice (some ⟨g, 0, none⟩) sLen sCap, .int .i64 (n : Int)]).run Tryz.prog w = .ok (.slice (some ⟨w.heap.size, 0, none⟩) (sLen + n) (grownCap w (sLen + n) sCap 108))
      (w.drew.alloc (.cells (rcs (L.take sLen) ++ (Builtin.zeroCells (Value.cells (.agg #[.int .i64 0, .int .i64 0, .bool false])) n).toList ++ (Builtin.zeroCells (Value.cells (.agg #[.int .i64 0, .int .i64 0, .bool false])) (grownCap w (sLen + n) sCap 108 - (sLen + n))).toList).toArray 108)) := by
    simp [Builtin.append_, run_underlying Tryz.underlying163, run_underlying Tryz.underlying3, sizeOf, typeInfo, zeroValue, hi, hz, Builtin.lenOf, hn, h63', h48', Question.forced, hfo, newRow, grownCap, asInt, hai, hnz, hneg, hw, hbig]
    congr 2
    apply Array.ext'
    simp
  refine ⟨w.heap.size, _, _, _, hrun, heap_alloc_new _ _, rfl, ?_, hge, hcm, ?_, (Below.refl _ w).drew.alloc (Nat.le_refl _) _⟩
  · rw [List.length_append, List.length_append, z1, z2, rcs_length]; simp; omega
  · rw [List.append_assoc, List.take_append_of_le_length (by rw [rcs_length]; simp; omega), List.take_of_length_le (by rw [rcs_length]; simp; omega)]
/-! ### Runs of pages -/
/-- The struct at q names the row at g, which is these runs. -/
def Sp (w : World) (q g : Nat) (L : List Rn) : Prop := ∃ cap, Blk w q [.slice (some ⟨g, 0, none⟩) L.length cap] 165 ∧ Rw w g cap L ∧ q ≠ g
theorem Sp.lt {w : World} {q g : Nat} {L : List Rn} (h : Sp w q g L) : q < w.heap.size ∧ g < w.heap.size := by obtain ⟨_, h1, h2, _⟩ := h; exact ⟨h1.lt, h2.lt⟩
theorem Sp.ne {w : World} {q g : Nat} {L : List Rn} (h : Sp w q g L) : q ≠ g := by obtain ⟨_, _, _, h3⟩ := h; exact h3
theorem Sp.of {w w' : World} {q g : Nat} {L : List Rn} (h : Sp w q g L) (e1 : w'.heap[q]? = w.heap[q]?) (e2 : w'.heap[g]? = w.heap[g]?) : Sp w' q g L := by
  obtain ⟨c, h1, h2, h3⟩ := h; exact ⟨c, h1.of e1, h2.of e2, h3⟩
theorem Sp.below {w w' : World} {q g : Nat} {L : List Rn} (h : Sp w q g L) (hb : Below w.heap.size w w') : Sp w' q g L := h.of (hb.block _ h.lt.1) (hb.block _ h.lt.2)
/-- What is left behind a call that changes them. -/
def Became (q g : Nat) (L' : List Rn) (w w' : World) : Prop := ∃ g', Sp w' q g' L' ∧ Fr q g w w' ∧ (g' = g ∨ w.heap.size ≤ g')
theorem ret_i' {a b : Int} (h : a = b) : Ending.returned (.int .i64 a) = .returned (.int .i64 b) := by rw [h]
end Go.Proofs.YtckcgaliphpgeaaGreatDoor.Sp

/-
  How empty runs are left out: contracts that the claimed proofs use.
-/
namespace Go.Proofs.YtckcgaliphpgeaaGreatDoor.Sp
set_option maxRecDepth 100000
open Go.RowKit

theorem empty_any (p n : Int) (t : Bool) (w : World) : Calls Tryz.prog 157 #[.agg #[.int .i64 p, .int .i64 n, .bool t]] w fun e w' => e = .returned (.bool (n == 0)) ∧ Below w.heap.size w w' := by
  go_enter Tryz.func157, Tryz.ntmps157
  go_wp2
  go_ret
  exact ⟨rfl, up_alloc (Below.refl _ w) _⟩
/-- The first empty one, or -1. -/
theorem first_empty {w : World} {g cap n : Nat} {L : List Rn} (hr : Rw w g cap L) (hn : L.length = n) (hl : n ≤ 8192) :
    Calls Tryz.prog 181 #[.slice (some ⟨g, 0, none⟩) n cap, .func (.func 157) #[] #[]] w fun e w' => Below w.heap.size w w' ∧
      ((e = .returned (.int .i64 (-1)) ∧ ∀ j, j < n → ne (el L j) = true) ∨ ∃ k : Nat, k < n ∧ e = .returned (.int .i64 k) ∧ ne (el L k) = false ∧ ∀ j, j < k → ne (el L j) = true) := by
  have HR := Lib.hid hr
  have HN := Lib.hid hn
  clear hr hn
  go_enter Tryz.func181, Tryz.ntmps181
  go_wp2
  go_loopw [8] (fun i wr => ∃ k : Nat, k ≤ n ∧ i = .int .i64 k ∧ (∀ j, j < k → ne (el L j) = true) ∧ Below w.heap.size w wr) (fun i _ => n - (intOf i).toNat)
  case atStart => exact ⟨0, by omega, rfl, fun j hj => by omega, Below.refl _ _⟩
  case round =>
    obtain ⟨k, hk, rfl, hall, hbel⟩ := hrel
    have HA := Lib.hid hall
    have HB := Lib.hid hbel
    clear hall hbel
    by_cases hlt : k < n
    · obtain ⟨c0, c1, c2⟩ := (HR.out.below HB.out).cells (i := k) (by rw [HN.out]; exact hlt)
      obtain ⟨x, hx⟩ : ∃ x, el L k = x := ⟨_, rfl⟩
      rw [hx] at c0 c1 c2
      have HX := Lib.hid hx
      obtain ⟨p, m, t⟩ := x
      dsimp only at c0 c1 c2
      have k1 : (0 : Int) ≤ (k : Int) := by omega
      have k2 : (k : Int) < (n : Int) := by omega
      clear hx
      by_cases hm : m = 0
      · subst hm
        go_wp2_with (go_at_call 157; refine (empty_any p 0 t _).mono ?_; rintro e w2 ⟨rfl, hb2⟩)
        go_ret
        exact ⟨up_trans HB.out hb2, .inr ⟨k, hlt, rfl, by rw [HX.out]; rfl, HA.out⟩⟩
      · have hd : (m == 0) = false := by simpa using hm
        have HM := Lib.hid hm
        clear hm
        go_wp2_with (go_at_call 157; refine (empty_any p m t _).mono ?_; rintro e w2 ⟨rfl, hb2⟩)
        go_roundw
        case rel =>
          refine ⟨k + 1, by omega, by go_num, fun j hj => ?_, up_trans HB.out hb2⟩
          by_cases ej : j = k
          · rw [ej, HX.out]; simp [ne]; exact HM.out
          · exact HA.out j (by omega)
        case measure => simp [intOf]; omega
    · obtain rfl : k = n := by omega
      go_wp2
      go_ret
      exact ⟨HB.out, .inl ⟨rfl, HA.out⟩⟩
theorem filter_all {L : List Rn} (h : ∀ j, j < L.length → ne (el L j) = true) : L.filter ne = L := by
  rw [List.filter_eq_self]
  intro r hr
  obtain ⟨i, hi, rfl⟩ := el_of_mem hr
  exact h i hi
theorem take_one {L : List Rn} {j : Nat} (h : j < L.length) : L.take (j + 1) = L.take j ++ [el L j] := by
  rw [List.take_succ_eq_append_getElem h]
  congr 2
  have := el_get h
  rw [List.getElem?_eq_getElem h] at this
  exact Option.some.inj this
/-- What stands in the row when the first j runs have been looked at: those that stay, and behind them what was. -/
structure Mv (n : Nat) (L : List Rn) (i j : Nat) (M : List Rn) : Prop where
  len : M.length = n
  hd : M.take i = (L.take j).filter ne
  lt : i < j
  tl : ∀ m, j ≤ m → el M m = el L m
theorem el_set {M : List Rn} {i m : Nat} (r : Rn) (h : m ≠ i) : el (M.set i r) m = el M m := by
  unfold el; rw [List.getD_eq_getElem?_getD, List.getD_eq_getElem?_getD, List.getElem?_set_ne (fun e => h e.symm)]
theorem Mv.put {n i j : Nat} {L M : List Rn} (h : Mv n L i j M) (hl : L.length = n) (hj : j < n) (hn : ne (el L j) = true) : Mv n L (i + 1) (j + 1) (M.set i (el L j)) := by
  have hlt := h.lt
  refine ⟨by rw [List.length_set]; exact h.len, ?_, by omega, fun m hm => by rw [el_set _ (by omega)]; exact h.tl m (by omega)⟩
  have hi : i < M.length := by rw [h.len]; omega
  rw [take_one (by omega : j < L.length), List.filter_append, List.filter_cons_of_pos hn, ← h.hd, List.take_succ_eq_append_getElem (by simpa using hi), List.take_set_of_le (Nat.le_refl _)]
  simp
theorem Mv.skip {n i j : Nat} {L M : List Rn} (h : Mv n L i j M) (hl : L.length = n) (hj : j < n) (hn : ne (el L j) = false) : Mv n L i (j + 1) M := by
  have hlt := h.lt
  refine ⟨h.len, ?_, by omega, fun m hm => h.tl m (by omega)⟩
  rw [take_one (by omega : j < L.length), List.filter_append, List.filter_cons_of_neg (by rw [hn]; simp), ← h.hd]; simp
theorem Mv.start {n k : Nat} {L : List Rn} (hl : L.length = n) (hk : k < n) (he : ne (el L k) = false) (ha : ∀ j, j < k → ne (el L j) = true) : Mv n L k (k + 1) L := by
  refine ⟨hl, ?_, by omega, fun m _ => rfl⟩
  rw [take_one (by omega : k < L.length), List.filter_append, List.filter_cons_of_neg (by rw [he]; simp)]
  have : (L.take k).filter ne = L.take k := by
    rw [List.filter_eq_self]
    intro r hr
    obtain ⟨i, hi, rfl⟩ := el_of_mem hr
    have hi' : i < k := by simp at hi; omega
    have e : el (L.take k) i = el L i := by
      unfold el; rw [List.getD_eq_getElem?_getD, List.getD_eq_getElem?_getD, List.getElem?_take, if_pos hi']
    rw [e]; exact ha i hi'
  rw [this]; simp
theorem Mv.final {n i : Nat} {L M : List Rn} (h : Mv n L i n M) (hl : L.length = n) : M.take i = L.filter ne ∧ (L.filter ne).length = i := by
  have e : L.take n = L := List.take_of_length_le (by omega)
  have := h.hd
  rw [e] at this
  refine ⟨this, ?_⟩
  rw [← this, List.length_take, h.len]
  have := h.lt; omega
theorem el_same {M : List Rn} {i : Nat} (r : Rn) (h : i < M.length) : el (M.set i r) i = r := el_is (by simp [h])
theorem Rw.put {w : World} {g cap : Nat} {L : List Rn} (h : Rw w g cap L) {i : Nat} (hi : i < L.length) (p m : Int) (t : Bool) :
    Rw (((w.setCell ⟨g, i * 3, none⟩ (.int .i64 p)).setCell ⟨g, i * 3 + 1, none⟩ (.int .i64 m)).setCell ⟨g, i * 3 + 2, none⟩ (.bool t)) g cap (L.set i ⟨p, m, t⟩) := by
  have h0 := h.set hi (k := 0) (by omega) ⟨p, (el L i).n, (el L i).t⟩ (.int .i64 p) rfl
  have h1 := h0.set (i := i) (by simpa using hi) (k := 1) (by omega) ⟨p, m, (el L i).t⟩ (.int .i64 m) (by rw [el_same _ hi]; rfl)
  rw [List.set_set] at h1
  have h2 := h1.set (i := i) (by simpa using hi) (k := 2) (by omega) ⟨p, m, t⟩ (.bool t) (by rw [el_same _ hi]; rfl)
  rw [List.set_set] at h2
  exact h2
theorem box3 {W w2 : World} {a b c : Value} {t : TypeId} (h : Below (W.alloc (.cells #[a, b, c] t)).heap.size (W.alloc (.cells #[a, b, c] t)) w2) :
    w2.cell? ⟨W.heap.size, 0, none⟩ = some a ∧ w2.cell? ⟨W.heap.size, 1, none⟩ = some b ∧ w2.cell? ⟨W.heap.size, 2, none⟩ = some c ∧ Below W.heap.size W w2 := by
  have hB : Blk (W.alloc (.cells #[a, b, c] t)) W.heap.size [a, b, c] t := heap_alloc_new W _
  have h2 := hB.of (h.block _ hB.lt)
  exact ⟨h2.cell, h2.cell, h2.cell, up_trans (up_alloc (Below.refl _ W) _) h⟩
set_option maxHeartbeats 1000000 in
theorem del_any {w : World} {g cap n : Nat} {L : List Rn} (hr : Rw w g cap L) (hn : L.length = n) (hl : n ≤ 8192) :
    Calls Tryz.prog 156 #[.slice (some ⟨g, 0, none⟩) n cap, .func (.func 157) #[] #[]] w fun e w' =>
      e = .returned (.slice (some ⟨g, 0, none⟩) (L.filter ne).length cap) ∧ Rw w' g cap (L.filter ne) ∧ w.grownBy w' (some g) := by
  have HR := Lib.hid hr
  have HN := Lib.hid hn
  have hcap := hr.fit
  rw [hn] at hcap
  have HF := Lib.hid (first_empty hr hn hl)
  clear hr hn
  go_enter Tryz.func156, Tryz.ntmps156
  go_wp2_with fail
  refine HF.out.mono ?_
  rintro e w1 ⟨B1, h⟩
  rcases h with ⟨rfl, hall⟩ | ⟨k, hk, rfl, he, ha⟩
  · have e1 := filter_all (L := L) (by rw [HN.out]; exact hall)
    have HB := Lib.hid B1
    clear hall B1
    go_wp2
    go_ret
    rw [e1, HN.out]
    exact ⟨rfl, HR.out.below HB.out, grown_below HB.out⟩
  · have HM := Lib.hid (Mv.start HN.out hk he ha)
    have HB := Lib.hid B1
    have hk0 : ((k : Int) == -1) = false := by simp
    clear he ha B1
    go_wp2_with fail
    go_loopw [5, 6] (fun i j wr => ∃ (i' j' : Nat) (M : List Rn), j' ≤ n ∧ i = .int .i64 i' ∧ j = .int .i64 j' ∧ Mv n L i' j' M ∧ Rw wr g cap M ∧ w.grownBy wr (some g)) (fun _ j _ => n - (intOf j).toNat)
    case atStart => exact ⟨k, k + 1, L, by omega, rfl, by go_num, HM.out, HR.out.below HB.out, grown_below HB.out⟩
    case round =>
      obtain ⟨i, j, M, hj, rfl, rfl, hm, hrw, hgr⟩ := hrel
      have hij := hm.lt
      have HM := Lib.hid hm
      have HRW := Lib.hid hrw
      have HG := Lib.hid hgr
      clear hm hrw hgr HB
      by_cases hlt : j < n
      · obtain ⟨c0, c1, c2⟩ := HRW.out.cells (i := j) (by rw [HM.out.len]; exact hlt)
        obtain ⟨d0, d1, d2⟩ := HRW.out.cells (i := i) (by rw [HM.out.len]; omega)
        have f0 := HRW.out.frozen (i * 3)
        have f1 := HRW.out.frozen (i * 3 + 1)
        have f2 := HRW.out.frozen (i * 3 + 2)
        have hgl := HRW.out.lt
        obtain ⟨x, hx⟩ : ∃ x, el L j = x := ⟨_, rfl⟩
        rw [HM.out.tl j (Nat.le_refl _), hx] at c0 c1 c2
        have HX := Lib.hid hx
        obtain ⟨p, m, t⟩ := x
        dsimp only at c0 c1 c2
        have k1 : (0 : Int) ≤ (j : Int) := by omega
        have k2 : (j : Int) < (n : Int) := by omega
        have k3 : (i : Int) < (n : Int) := by omega
        clear hx
        by_cases hmz : m = 0
        · subst hmz
          go_wp2_with (go_at_call 157; refine (empty_any p 0 t _).mono ?_; rintro e w2 ⟨rfl, hb2⟩)
          go_roundw
          case rel =>
            have hb3 := (box3 hb2).2.2.2
            exact ⟨i, j + 1, M, by omega, rfl, by go_num, HM.out.skip HN.out hlt (by rw [HX.out]; rfl), HRW.out.below hb3, grown_trans HG.out (grown_below hb3)⟩
          case measure => simp [intOf]; omega
        · have hd : (m == 0) = false := by simpa using hmz
          go_wp2_with fail
          refine (empty_any p m t _).mono ?_; rintro e w2 ⟨rfl, hb2⟩
          obtain ⟨b0, b1, b2, hb3⟩ := box3 hb2
          have HB3 := Lib.hid hb3
          have R2 := Lib.hid (HRW.out.below hb3)
          have g0 := R2.out.frozen (i * 3)
          have g1 := R2.out.frozen (i * 3 + 1)
          have g2 := R2.out.frozen (i * 3 + 2)
          obtain ⟨e0, e1, e2⟩ := R2.out.cells (i := i) (by rw [HM.out.len]; omega)
          have hne : wr.heap.size ≠ g := by omega
          have hir : (0 : Int) ≤ (i : Int) := by omega
          clear hb2 hb3 c0 c1 c2 d0 d1 d2 f0 f1 f2 hmz
          go_wp2
          refine ⟨⟨i + 1, j + 1, M.set i ⟨p, m, t⟩, by omega, by go_num, by go_num, ?_, R2.out.put (by rw [HM.out.len]; omega) p m t, ?_⟩, by simp [intOf]; omega⟩
          · have hnj : ne (el L j) = true := by rw [HX.out]; simp only [ne, bne, hd]; rfl
            have := HM.out.put HN.out hlt hnj
            rwa [HX.out] at this
          · exact grown_trans (grown_trans (grown_trans (grown_trans HG.out (grown_below HB3.out)) (grown_set _ _ _ _)) (grown_set _ _ _ _)) (grown_set _ _ _ _)
      · obtain rfl : j = n := by omega
        go_wp2_with fail
        obtain ⟨cur, hcb, hcl, hc1, hc2, hct⟩ := HRW.out
        obtain ⟨w3, cur', hrun, hb', hl', ht', hg'⟩ := run_clear3 wr 0 g (i * 3) (j - i) (cap - i) cur hcb (by omega) (by rw [hcl]; omega)
        rw [hrun]
        have HG3 := Lib.hid (grown_trans HG.out hg')
        obtain ⟨hm1, hm2⟩ := HM.out.final HN.out
        have HR3 : Hid (Rw w3 g cap (L.filter ne)) := by
          refine ⟨cur', hb', by rw [hl', hcl], by rw [hm2]; omega, hc2, ?_⟩
          rw [hm2, ht']
          have : cur.take (i * 3) = (cur.take (M.length * 3)).take (i * 3) := by rw [List.take_take, Nat.min_eq_left (by rw [HM.out.len]; omega)]
          rw [this, hct, rcs_take M i (by rw [HM.out.len]; omega), hm1]
        have HM2 := Lib.hid hm2
        clear hrun hb' hl' ht' hg' hcb hcl hc1 hc2 hct hm1 hm2
        go_wp2
        go_ret
        exact ⟨by rw [HM2.out]; rfl, HR3.out, HG3.out⟩
end Go.Proofs.YtckcgaliphpgeaaGreatDoor.Sp

/-
  What New, Runs, index and Find do: contracts that the claimed proofs use.
-/
namespace Go.Proofs.YtckcgaliphpgeaaGreatDoor.Sp
set_option maxRecDepth 100000
open Go.RowKit

/-- leaveOutEmpty. -/
theorem leave_any {w : World} {q g : Nat} {L : List Rn} (h : Sp w q g L) (hl : L.length ≤ 8192) :
    Calls Tryz.prog 117 #[.pointer (some ⟨q, 0, none⟩)] w fun e w' => e = .returned (.tuple #[]) ∧ Sp w' q g (L.filter ne) ∧ Fr q g w w' := by
  obtain ⟨cap, hq, hr, hne⟩ := h
  have c0 : w.cell? ⟨q, 0, none⟩ = some (.slice (some ⟨g, 0, none⟩) L.length cap) := hq.cell
  have HQ := Lib.hid hq
  have HD := Lib.hid (del_any hr rfl hl)
  have HNE := Lib.hid hne
  clear hq hr hne
  generalize L.length = n at c0 HQ HD hl
  generalize L.filter ne = L' at HD ⊢
  go_enter Tryz.func117, Tryz.ntmps117
  go_wp2_with fail
  refine HD.out.mono ?_
  rintro e w1 ⟨rfl, r1, g1⟩
  have Q1 := Lib.hid (HQ.out.of (g1.block q HQ.out.lt (by simpa using HNE.out)))
  have c1 : w1.cell? ⟨q, 0, none⟩ = some (.slice (some ⟨g, 0, none⟩) n cap) := Q1.out.cell
  have f1 : w1.frozen? ⟨q, 0, none⟩ = false := Q1.out.frozen 0
  have R1 := Lib.hid r1
  have G1 := Lib.hid g1
  clear r1 g1 c0 HD
  go_wp2
  go_end0
  refine ⟨rfl, ⟨cap, Q1.out.set _, R1.out.of (Below.heap_setCell _ _ _ _ (fun e => HNE.out e.symm)), HNE.out⟩, ?_⟩
  exact (Fr.ofg G1.out).trans (Fr.ofq (grown_set _ _ _ _)) (.inl rfl)
/-- New. -/
theorem new_no (N : Int) (w : World) (h : N < 0 ∨ 4096 < N) : Calls Tryz.prog 71 #[.int .i64 N] w fun e w' => e = .returned (.tuple #[.pointer none, .int .i64 11]) ∧ w = w' := by
  by_cases h0 : N < 0
  · have hd : decide (N < 0) = true := by simpa using h0
    go_enter Tryz.func71, Tryz.ntmps71
    go_wp2
    go_ret2
    exact ⟨rfl, rfl⟩
  · have hd : decide (N < 0) = false := by simpa using h0
    have hd2 : decide (4096 < N) = true := by simp; omega
    go_enter Tryz.func71, Tryz.ntmps71
    go_wp2
    go_ret2
    exact ⟨rfl, rfl⟩
theorem new_yes (N : Int) (w : World) (h0 : 0 ≤ N) (h1 : N ≤ 4096) :
    Calls Tryz.prog 71 #[.int .i64 N] w fun e w' => ∃ q g, e = .returned (.tuple #[.pointer (some ⟨q, 0, none⟩), .int .i64 0]) ∧ Sp w' q g (newL N) ∧ w.heap.size ≤ q ∧ w.heap.size ≤ g ∧ Below w.heap.size w w' := by
  have hd : decide (N < 0) = false := by simp; omega
  have hd2 : decide (4096 < N) = false := by simp; omega
  go_enter Tryz.func71, Tryz.ntmps71
  go_wp2_with fail
  have hs : Sp ((w.alloc (.cells #[.int .i64 0, .int .i64 N, .bool false] 108)).alloc (.cells #[.slice (some ⟨w.heap.size, 0, none⟩) 1 1] 165)) (w.heap.size + 1) w.heap.size [⟨0, N, false⟩] := by
    have h1 : Blk (w.alloc (.cells #[.int .i64 0, .int .i64 N, .bool false] 108)) w.heap.size [.int .i64 0, .int .i64 N, .bool false] 108 := heap_alloc_new w _
    have hq := heap_alloc_new (w.alloc (.cells #[.int .i64 0, .int .i64 N, .bool false] 108)) (.cells #[.slice (some ⟨w.heap.size, 0, none⟩) 1 1] 165)
    rw [World.size_alloc] at hq
    exact ⟨1, hq, ⟨_, h1.of (heap_alloc_old _ _ h1.lt), rfl, Nat.le_refl _, by simp [maxLen], rfl⟩, by omega⟩
  have hb : Below w.heap.size w ((w.alloc (.cells #[.int .i64 0, .int .i64 N, .bool false] 108)).alloc (.cells #[.slice (some ⟨w.heap.size, 0, none⟩) 1 1] 165)) := up_alloc (up_alloc (Below.refl _ w) _) _
  have HB := Lib.hid hb
  refine (leave_any hs (by simp)).mono ?_
  rintro e w1 ⟨rfl, s1, f1⟩
  have S1 := Lib.hid s1
  have HB1 := Lib.hid (HB.out.trans (f1.below (B := w.heap.size) (by omega) (by omega) hb.size))
  clear s1 f1 hs hb
  go_wp2
  go_ret2
  exact ⟨_, _, rfl, S1.out, by omega, by omega, HB1.out⟩
/-- slices.Clone, and Runs. -/
theorem slice_nil (ad : Addr) (n c : Nat) (W : World) : (binOp BinOp.eql 163 (.slice (some ad) n c) (.slice none 0 0)).run Tryz.prog W = .ok (.bool false) W := rfl
theorem own_empty (w : World) : (w.alloc (.cells #[] 108)).ownsRow w.heap.size 108 3 (.slice (some ⟨w.heap.size, 0, none⟩) 0 0) 0 [] :=
  ⟨rfl, .inr ⟨w.heap.size, 0, #[], rfl, Nat.le_refl _, heap_alloc_new w _, Nat.le_refl _, by decide, rfl, rfl⟩⟩
theorem own_base {w : World} {base : Nat} {e : TypeId} {size : Nat} {v : Value} {n : Nat} {xs : List Value} (h : w.ownsRow base e size v n xs) : ∀ g, v.ownBlock = some g → base ≤ g := by
  intro g hg
  rcases h.2 with ⟨rfl, _⟩ | ⟨g', cap, cur, rfl, hb, _⟩
  · simp [Value.ownBlock] at hg
  · simp [Value.ownBlock] at hg; omega
/-- What is left behind a call that answers runs of its own. -/
def GaveR (L : List Rn) (w : World) (e : Ending) (w' : World) : Prop := ∃ g cap, e = .returned (.slice (some ⟨g, 0, none⟩) L.length cap) ∧ Rw w' g cap L ∧ w.heap.size ≤ g ∧ Below w.heap.size w w'
theorem Rw.news {w : World} {g cap : Nat} {L : List Rn} (h : Rw w g cap L) : ∀ j v, (rcs L)[j]? = some v → w.cell? ((⟨g, 0, none⟩ : Addr).add j) = some v := by
  have := (h.owns (Nat.le_refl _)).cells (g := g) rfl
  rwa [List.take_of_length_le (Nat.le_refl _)] at this
/-! ### Where a page's run stands -/
theorem ends_any {w : World} {q g cap n bp bs : Nat} {L : List Rn} (x : Int) {k : Nat} (hb : w.cell? ⟨bp, 0, none⟩ = some (.int .i64 x)) (hs : w.cell? ⟨bs, 0, none⟩ = some (.pointer (some ⟨q, 0, none⟩)))
    (hq : w.cell? ⟨q, 0, none⟩ = some (.slice (some ⟨g, 0, none⟩) n cap)) (hr : Rw w g cap L) (hn : L.length = n) (hk : k < n) (h0 : 0 ≤ (el L k).p ∧ (el L k).p ≤ 4096 ∧ 0 ≤ (el L k).n ∧ (el L k).n ≤ 4096) :
    Calls Tryz.prog 149 #[.int .i64 (k : Int), .pointer (some ⟨bp, 0, none⟩), .pointer (some ⟨bs, 0, none⟩)] w fun e w' => e = .returned (.bool (decide (x < (el L k).p + (el L k).n))) ∧ Drawn w w' := by
  obtain ⟨c0, c1, c2⟩ := hr.cells (i := k) (by omega)
  generalize el L k = r at h0 c0 c1 c2 ⊢
  obtain ⟨p, m, t⟩ := r
  dsimp only at h0 c0 c1 ⊢
  have hwr := i64_in (p + m) (by omega) (by omega)
  have k1 : (0 : Int) ≤ (k : Int) := by omega
  have k2 : (k : Int) < (n : Int) := by omega
  clear hr hn
  go_enter Tryz.func149, Tryz.ntmps149
  go_wp2_with fail
  go_quiet (fail)
  go_wp2
  go_ret
  exact ⟨rfl, (Drawn.refl _).on _⟩
/-- Of runs with these ends the first one behind a page. -/
structure Ends (L : List Rn) (x : Int) (J n : Nat) : Prop where
  le : J ≤ n
  lo : ∀ k, k < J → (el L k).p + (el L k).n ≤ x
  hi : ∀ k, J ≤ k → k < n → x < (el L k).p + (el L k).n
set_option maxHeartbeats 1000000 in
theorem search_any {w : World} {q g cap n bp bs : Nat} {L : List Rn} {x : Int} {J : Nat} (hb : w.cell? ⟨bp, 0, none⟩ = some (.int .i64 x)) (hs : w.cell? ⟨bs, 0, none⟩ = some (.pointer (some ⟨q, 0, none⟩)))
    (hq : w.cell? ⟨q, 0, none⟩ = some (.slice (some ⟨g, 0, none⟩) n cap)) (hr : Rw w g cap L) (hn : L.length = n) (hl : n ≤ 8192) (hE : ∀ k, k < n → 0 ≤ (el L k).p ∧ (el L k).p ≤ 4096 ∧ 0 ≤ (el L k).n ∧ (el L k).n ≤ 4096) (hJ : Ends L x J n) :
    Calls Tryz.prog 148 #[.int .i64 (n : Int), .func (.func 149) #[] #[.pointer (some ⟨bp, 0, none⟩), .pointer (some ⟨bs, 0, none⟩)]] w fun e w' => e = .returned (.int .i64 (J : Int)) ∧ Drawn w w' := by
  have HC : Hid (∀ (W : World) (k : Nat), Drawn w W → k < n → Calls Tryz.prog 149 #[.int .i64 (k : Int), .pointer (some ⟨bp, 0, none⟩), .pointer (some ⟨bs, 0, none⟩)] W fun e w' => e = .returned (.bool (decide (x < (el L k).p + (el L k).n))) ∧ Drawn W w') :=
    fun W k hW hk => ends_any x (hW.cell hb) (hW.cell hs) (hW.cell hq) (hr.below hW.below) hn hk (hE k hk)
  have HJ := Lib.hid hJ
  have hJn := hJ.le
  clear hb hs hq hr hn hE hJ
  go_enter Tryz.func148, Tryz.ntmps148
  go_wp2
  go_loopw [5, 6] (fun i j wr => ∃ i' j' : Nat, i = .int .i64 i' ∧ j = .int .i64 j' ∧ i' ≤ J ∧ J ≤ j' ∧ j' ≤ n ∧ Drawn w wr) (fun i j _ => (intOf j).toNat - (intOf i).toNat)
  case atStart => exact ⟨0, n, rfl, rfl, by omega, hJn, by omega, Drawn.refl _⟩
  case round =>
    obtain ⟨i, j, rfl, rfl, h1, h2, h3, hd⟩ := hrel
    have HD := Lib.hid hd
    clear hd
    by_cases hlt : i < j
    · obtain ⟨m, hm⟩ : ∃ m, (i + j) / 2 = m := ⟨_, rfl⟩
      have e1 : ((i : Int) + (j : Int)) / 2 = (m : Int) := by omega
      have HCm := Lib.hid (fun W hW => HC.out W m hW (by omega))
      have hmi : i ≤ m := by omega
      have hmj : m < j := by omega
      have k2 : (i : Int) < (j : Int) := by omega
      clear hm
      by_cases hx : m < J
      · have hdx : decide (x < (el L m).p + (el L m).n) = false := by have := HJ.out.lo m hx; simp; omega
        rw [hdx] at HCm
        clear hdx
        go_wp2_with fail
        refine (HCm.out _ HD.out).mono ?_
        rintro e w2 ⟨rfl, d2⟩
        have HD2 := Lib.hid (HD.out.trans d2)
        clear d2 HCm
        go_wp2
        go_roundw
        case rel => exact ⟨m + 1, j, by go_num, rfl, by omega, by omega, by omega, HD2.out⟩
        case measure => simp [intOf]; omega
      · have hdx : decide (x < (el L m).p + (el L m).n) = true := by have := HJ.out.hi m (by omega) (by omega); simp; omega
        rw [hdx] at HCm
        clear hdx
        go_wp2_with fail
        refine (HCm.out _ HD.out).mono ?_
        rintro e w2 ⟨rfl, d2⟩
        have HD2 := Lib.hid (HD.out.trans d2)
        clear d2 HCm
        go_wp2
        go_roundw
        case rel => exact ⟨i, m, rfl, rfl, by omega, by omega, by omega, HD2.out⟩
        case measure => simp [intOf]; omega
    · obtain rfl : i = J := by omega
      obtain rfl : i = j := by omega
      go_wp2
      go_ret
      exact ⟨rfl, HD.out⟩
theorem make_func (fn : Fn) (first cap : Array Value) (w : World) : (Instr.makeFunc fn first cap).run Tryz.prog w = .ok (.func fn first cap) w := rfl
/-- The bounds of runs that lie side by side. -/
theorem WF.bds {N : Int} {L : List Rn} (h : WF N L) (hN : N ≤ 4096) {k : Nat} (hk : k < L.length) : 0 ≤ (el L k).p ∧ (el L k).p ≤ 4096 ∧ 0 ≤ (el L k).n ∧ (el L k).n ≤ 4096 := by
  have := chain_at h.chain hk; omega
theorem Ends.len {L : List Rn} {x : Int} {J n : Nat} (h : Ends L x J n) : J ≤ n := h.le
theorem index_w {w : World} {q g J : Nat} {N x : Int} {L : List Rn} (h : Sp w q g L) (hw : WF N L) (hN : N ≤ 4096) (hJ : Ends L x J L.length) (b : Bool) (hb : b = decide (0 ≤ x ∧ J < L.length)) :
    Calls Tryz.prog 112 #[.pointer (some ⟨q, 0, none⟩), .int .i64 x] w fun e w' => e = .returned (.int .i64 (if b then (J : Int) else -1)) ∧ Below w.heap.size w w' := by
  obtain ⟨cap, hq, hr, hne⟩ := h
  have hlen := hw.len
  have HB : Below w.heap.size w ((w.alloc (.cells #[.pointer (some ⟨q, 0, none⟩)] 87)).alloc (.cells #[.int .i64 x] 3)) := up_alloc (up_alloc (Below.refl _ w) _) _
  have q2 := hq.of (HB.block _ hq.lt)
  have b1 : Blk (w.alloc (.cells #[.pointer (some ⟨q, 0, none⟩)] 87)) w.heap.size [.pointer (some ⟨q, 0, none⟩)] 87 := heap_alloc_new w _
  have b2 : Blk ((w.alloc (.cells #[.pointer (some ⟨q, 0, none⟩)] 87)).alloc (.cells #[.int .i64 x] 3)) w.heap.size [.pointer (some ⟨q, 0, none⟩)] 87 := b1.of (heap_alloc_old _ _ b1.lt)
  have b3 : Blk ((w.alloc (.cells #[.pointer (some ⟨q, 0, none⟩)] 87)).alloc (.cells #[.int .i64 x] 3)) (w.heap.size + 1) [.int .i64 x] 3 := by
    have := heap_alloc_new (w.alloc (.cells #[.pointer (some ⟨q, 0, none⟩)] 87)) (.cells #[.int .i64 x] 3)
    rwa [World.size_alloc] at this
  generalize hW : (w.alloc (.cells #[.pointer (some ⟨q, 0, none⟩)] 87)).alloc (.cells #[.int .i64 x] 3) = W at HB q2 b2 b3
  have HS := Lib.hid (search_any (w := W) (bp := w.heap.size + 1) (bs := w.heap.size) b3.cell b2.cell q2.cell (hr.below HB) rfl (by omega) (fun k hk => hw.bds hN hk) hJ)
  have HBB := Lib.hid HB
  have hJl := hJ.le
  have d0 : ∀ W2, Drawn W W2 → W2.cell? ⟨w.heap.size + 1, 0, none⟩ = some (.int .i64 x) := fun W2 hd => hd.cell b3.cell
  have d1 : ∀ W2, Drawn W W2 → W2.cell? ⟨w.heap.size, 0, none⟩ = some (.pointer (some ⟨q, 0, none⟩)) := fun W2 hd => hd.cell b2.cell
  have d2 : ∀ W2, Drawn W W2 → W2.cell? ⟨q, 0, none⟩ = some (.slice (some ⟨g, 0, none⟩) L.length cap) := fun W2 hd => hd.cell q2.cell
  have D0 := Lib.hid d0
  have D1 := Lib.hid d1
  have D2 := Lib.hid d2
  have e2 : w.cell? ⟨q, 0, none⟩ = some (.slice (some ⟨g, 0, none⟩) L.length cap) := hq.cell
  have hql := hq.lt
  have hqn : q ≠ w.heap.size := by omega
  have hqn2 : q ≠ w.heap.size + 1 := by omega
  subst hW
  clear hq hr hne hw HB q2 b1 b2 b3 d0 d1 d2 hJ hN
  obtain ⟨n, hn⟩ : ∃ n, L.length = n := ⟨_, rfl⟩
  rw [hn] at hb HS hJl hlen D2 e2
  clear hn
  have hmf := make_func
  go_enter Tryz.func112, Tryz.ntmps112
  go_wp2_with fail
  refine HS.out.mono ?_
  rintro e w2 ⟨rfl, dr⟩
  have f0 := D0.out w2 dr
  have f1 := D1.out w2 dr
  have f2 := D2.out w2 dr
  have HB2 := Lib.hid (up_trans HBB.out dr.below)
  clear HS D0 D1 D2 dr e2
  by_cases hx : x < 0
  · have e : b = false := by rw [hb]; simp; omega
    have hd : decide (x < 0) = true := by simpa using hx
    subst e
    clear hb
    go_wp2
    go_ret
    exact ⟨rfl, HB2.out⟩
  · have hd : decide (x < 0) = false := by simpa using hx
    by_cases hj : J < n
    · have e : b = true := by rw [hb]; simp; omega
      have hdj : ((J : Int) == (n : Int)) = false := by simp; omega
      subst e
      clear hb
      go_wp2
      go_ret
      exact ⟨rfl, HB2.out⟩
    · have e : b = false := by rw [hb]; simp; omega
      have hdj : ((J : Int) == (n : Int)) = true := by simp; omega
      subst e
      clear hb
      go_wp2
      go_ret
      exact ⟨rfl, HB2.out⟩
theorem index_yes {w : World} {q g k : Nat} {N x : Int} {L : List Rn} (h : Sp w q g L) (hw : WF N L) (hN : N ≤ 4096) (hk : k < L.length) (h1 : (el L k).p ≤ x) (h2 : x < (el L k).p + (el L k).n) :
    Calls Tryz.prog 112 #[.pointer (some ⟨q, 0, none⟩), .int .i64 x] w fun e w' => e = .returned (.int .i64 (k : Int)) ∧ Below w.heap.size w w' := by
  have hb := hw.bds hN hk
  refine index_w h hw hN (J := k) ⟨by omega, fun j hj => ?_, fun j hj hl => ?_⟩ true (by symm; simp; omega)
  · have := chain_mono hw.chain hj hk; omega
  · rcases Nat.eq_or_lt_of_le hj with rfl | hj
    · exact h2
    · have := chain_mono hw.chain hj hl; have := hw.bds hN hl; omega
theorem index_no {w : World} {q g : Nat} {N x : Int} {L : List Rn} (h : Sp w q g L) (hw : WF N L) (hN : N ≤ 4096) (hx : x < 0 ∨ N ≤ x) :
    Calls Tryz.prog 112 #[.pointer (some ⟨q, 0, none⟩), .int .i64 x] w fun e w' => e = .returned (.int .i64 (-1)) ∧ Below w.heap.size w w' := by
  by_cases h0 : x < 0
  · exact index_w h hw hN (J := 0) ⟨by omega, fun j hj => by omega, fun j _ hl => by have := hw.bds hN hl; omega⟩ false (by symm; simp; omega)
  · exact index_w h hw hN (J := L.length) ⟨by omega, fun j hj => by have := chain_at hw.chain hj; omega, fun j _ hl => by omega⟩ false (by symm; simp)
theorem results_run {tmps : Array Value} {B : Nat} {a b c : Value} {z : Bool} {w : World} (ht : tmps.getD 4 undef = .pointer (some ⟨B, 0, none⟩)) (h5 : tmps.getD 5 undef = .bool z) (hg : Blk w B [a, b, c] 108) :
    (results Tryz.f64 tmps).run Tryz.prog w = .ok (.tuple #[.agg #[a, b, c], .bool z]) w := by
  have ht' : tmps[4]?.getD undef = .pointer (some ⟨B, 0, none⟩) := by simpa using ht
  have h5' : tmps[5]?.getD undef = .bool z := by simpa using h5
  obtain ⟨i, hi, _, hs, _⟩ := info_parts run_info
  simp [results, ht', h5', asAddr, run_loadVar_row w B 108 108 #[a, b, c] (0, 0) _ hg Tryz.underlying108 rfl (by rw [hi]; simp [hs])]
/-- Find. -/
theorem find_yes {w : World} {q g k : Nat} {N x : Int} {L : List Rn} (h : Sp w q g L) (hw : WF N L) (hN : N ≤ 4096) (hk : k < L.length) (h1 : (el L k).p ≤ x) (h2 : x < (el L k).p + (el L k).n) :
    Calls Tryz.prog 64 #[.pointer (some ⟨q, 0, none⟩), .int .i64 x] w fun e w' => e = .returned (.tuple #[.agg #[.int .i64 (el L k).p, .int .i64 (el L k).n, .bool (el L k).t], .bool true]) ∧ Below w.heap.size w w' := by
  have hA := up_alloc (Below.refl _ w) (.cells #[.int .i64 0, .int .i64 0, .bool false] 108)
  have HI := Lib.hid (index_yes (h.below hA) hw hN hk h1 h2)
  have HA := Lib.hid hA
  have HS := Lib.hid h
  have hb := hw.len
  have HK := Lib.hid hk
  obtain ⟨r, hr⟩ : ∃ r, el L k = r := ⟨_, rfl⟩
  have HR := Lib.hid hr
  rw [hr]
  obtain ⟨p, m, t⟩ := r
  dsimp only
  clear hr
  have hb0 : (((k : Nat) : Int) == -1) = false := by simp
  clear h hA hw h1 h2
  go_enter Tryz.func64, Tryz.ntmps64
  go_wp2_with fail
  refine HI.out.mono ?_
  rintro e w1 ⟨rfl, b1⟩
  obtain ⟨z0, z1, z2, b2⟩ := box3 b1
  obtain ⟨cap, hq, hr, hne⟩ := HS.out.below b2
  have c0 : w1.cell? ⟨q, 0, none⟩ = some (.slice (some ⟨g, 0, none⟩) L.length cap) := hq.cell
  obtain ⟨r0, r1, r2⟩ := hr.cells HK.out
  rw [HR.out] at r0 r1 r2
  dsimp only at r0 r1 r2
  have hz : Blk w1 w.heap.size [.int .i64 0, .int .i64 0, .bool false] 108 := by
    have hB : Blk (w.alloc (.cells #[.int .i64 0, .int .i64 0, .bool false] 108)) w.heap.size [.int .i64 0, .int .i64 0, .bool false] 108 := heap_alloc_new w _
    exact hB.of (b1.block _ hB.lt)
  have g0 := hz.frozen 0
  have g1 := hz.frozen 1
  have g2 := hz.frozen 2
  have hk' : (k : Int) < (L.length : Int) := by omega
  have HZ := Lib.hid hz
  have HB2 := Lib.hid b2
  clear hz hq hr hne b1 b2 HI
  go_wp2
  refine bodyPost_ret (results_run rfl rfl (((HZ.out.set _).set _).set _)) rfl ?_
  exact ⟨rfl, ((HB2.out.setCell (p := ⟨w.heap.size, 0, none⟩) (Nat.le_refl _) _).setCell (p := ⟨w.heap.size, 1, none⟩) (Nat.le_refl _) _).setCell (p := ⟨w.heap.size, 2, none⟩) (Nat.le_refl _) _⟩
theorem find_no {w : World} {q g : Nat} {N x : Int} {L : List Rn} (h : Sp w q g L) (hw : WF N L) (hN : N ≤ 4096) (hx : x < 0 ∨ N ≤ x) :
    Calls Tryz.prog 64 #[.pointer (some ⟨q, 0, none⟩), .int .i64 x] w fun e w' => e = .returned (.tuple #[.agg #[.int .i64 0, .int .i64 0, .bool false], .bool false]) ∧ Below w.heap.size w w' := by
  have hA := up_alloc (Below.refl _ w) (.cells #[.int .i64 0, .int .i64 0, .bool false] 108)
  have HI := Lib.hid (index_no (h.below hA) hw hN hx)
  clear h hA hw hx
  go_enter Tryz.func64, Tryz.ntmps64
  go_wp2_with fail
  refine HI.out.mono ?_
  rintro e w1 ⟨rfl, b1⟩
  obtain ⟨z0, z1, z2, b2⟩ := box3 b1
  have hz : Blk w1 w.heap.size [.int .i64 0, .int .i64 0, .bool false] 108 := by
    have hB : Blk (w.alloc (.cells #[.int .i64 0, .int .i64 0, .bool false] 108)) w.heap.size [.int .i64 0, .int .i64 0, .bool false] 108 := heap_alloc_new w _
    exact hB.of (b1.block _ hB.lt)
  have g0 := hz.frozen 0
  have g1 := hz.frozen 1
  have g2 := hz.frozen 2
  have HZ := Lib.hid hz
  have HB2 := Lib.hid b2
  clear hz b1 b2 HI
  go_wp2
  refine bodyPost_ret (results_run rfl rfl (((HZ.out.set _).set _).set _)) rfl ?_
  exact ⟨rfl, ((HB2.out.setCell (p := ⟨w.heap.size, 0, none⟩) (Nat.le_refl _) _).setCell (p := ⟨w.heap.size, 1, none⟩) (Nat.le_refl _) _).setCell (p := ⟨w.heap.size, 2, none⟩) (Nat.le_refl _) _⟩
end Go.Proofs.YtckcgaliphpgeaaGreatDoor.Sp
