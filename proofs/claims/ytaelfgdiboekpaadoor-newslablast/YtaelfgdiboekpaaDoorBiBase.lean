/-
  Plain facts on words and rows of bits, of which no statement of its own is claimed: words as bit vectors, the places of set bits, how many there are.
-/
import Derived.Laws.BitsAllLaws
import Derived.Laws.BitsLemmas
import Derived.Laws.CopyOwn
import Derived.Lib.TrailingZeros
namespace Go.Proofs.YtaelfgdiboekpaaDoor.Bi
set_option maxRecDepth 100000

/-- A word as the number that it is. -/
def u (x : BitVec 64) : Int := (x.toNat : Int)
theorem u_inj {a b : BitVec 64} (h : u a = u b) : a = b := by
  unfold u at h; exact BitVec.eq_of_toNat_eq (by omega)
theorem u_beq (a b : BitVec 64) : (u a == u b) = (a == b) := by
  rw [Bool.eq_iff_iff]; simp only [beq_iff_eq]; exact ⟨u_inj, fun h => by rw [h]⟩
theorem u_bne (a b : BitVec 64) : (u a != u b) = (a != b) := by rw [bne, bne, u_beq]
theorem u_of (n : Int) (h0 : 0 ≤ n) (h1 : n < 18446744073709551616) : ∃ x : BitVec 64, n = u x :=
  ⟨BitVec.ofNat 64 n.toNat, by unfold u; rw [BitVec.toNat_ofNat, Nat.mod_eq_of_lt (by omega)]; omega⟩
theorem and_u (a b : BitVec 64) : bits .and .u64 (u a) (u b) = u (a &&& b) := by
  unfold u; rw [u64_and_nat _ _ a.isLt b.isLt, BitVec.toNat_and]
theorem or_u (a b : BitVec 64) : bits .or .u64 (u a) (u b) = u (a ||| b) := by
  unfold u; rw [u64_or_nat _ _ a.isLt b.isLt, BitVec.toNat_or]
theorem shl_u (x : BitVec 64) (n : Nat) : IntKind.u64.wrap (u x * 2 ^ n) = u (x <<< n) := by
  unfold u; rw [IntKind.wrap_u64, BitVec.toNat_shiftLeft, Nat.shiftLeft_eq]
  have : ((x.toNat : Int) * 2 ^ n) = ((x.toNat * 2 ^ n : Nat) : Int) := by rw [Int.natCast_mul, Int.natCast_pow]; rfl
  rw [this]; omega
theorem shr_u (x : BitVec 64) (n : Nat) : u x / 2 ^ n = u (x >>> n) := by
  unfold u; rw [BitVec.toNat_ushiftRight, Nat.shiftRight_eq_div_pow]
  have : ((2 : Int) ^ n) = ((2 ^ n : Nat) : Int) := by rw [Int.natCast_pow]; rfl
  rw [this, Int.natCast_ediv]
theorem mul_u (a b : BitVec 64) : IntKind.u64.wrap (u a * u b) = u (a * b) := by
  unfold u; rw [IntKind.wrap_u64, BitVec.toNat_mul, ← Int.natCast_mul]; omega
theorem add_u (a b : BitVec 64) : IntKind.u64.wrap (u a + u b) = u (a + b) := by
  unfold u; rw [IntKind.wrap_u64, BitVec.toNat_add]; omega
theorem sub_u (a b : BitVec 64) : IntKind.u64.wrap (u a - u b) = u (a - b) := by
  unfold u; rw [IntKind.wrap_u64, BitVec.toNat_sub]; have := a.isLt; have := b.isLt; omega


/-! ### The places of set bits -/
def on (b : Nat → Bool) (n : Nat) : List Nat := (List.range n).filter b
theorem on_zero (b : Nat → Bool) : on b 0 = [] := rfl
theorem on_succ (b : Nat → Bool) (n : Nat) : on b (n + 1) = on b n ++ if b n then [n] else [] := by
  unfold on; rw [List.range_succ, List.filter_append]; congr 1; cases h : b n <;> simp [h]
theorem on_add (b : Nat → Bool) (n m : Nat) : on b (n + m) = on b n ++ (on (fun j => b (n + j)) m).map (n + ·) := by
  induction m with
  | zero => simp [on]
  | succ m ih =>
    rw [← Nat.add_assoc, on_succ, ih, on_succ, List.map_append, List.append_assoc]
    congr 2
    cases b (n + m) <;> simp
theorem on_congr {b c : Nat → Bool} : ∀ {n : Nat}, (∀ j, j < n → b j = c j) → on b n = on c n
  | 0, _ => rfl
  | n + 1, h => by rw [on_succ, on_succ, on_congr (fun j hj => h j (by omega)), h n (by omega)]
theorem on_none {b : Nat → Bool} : ∀ {n : Nat}, (∀ j, j < n → b j = false) → on b n = []
  | 0, _ => rfl
  | n + 1, h => by rw [on_succ, on_none (fun j hj => h j (by omega)), h n (by omega)]; rfl
theorem mem_on {b : Nat → Bool} {n k : Nat} : k ∈ on b n ↔ k < n ∧ b k = true := by simp [on]
theorem on_split (b : Nat → Bool) (k : Nat) (h0 : ∀ j, j < k → b j = false) (h1 : b k = true) : ∀ d, on b (k + 1 + d) = k :: on (fun j => b j && j != k) (k + 1 + d)
  | 0 => by
    rw [Nat.add_zero, on_succ, on_none h0, h1, on_none]
    · rfl
    · intro j hj
      by_cases e : j = k
      · subst e; simp
      · rw [h0 j (by omega)]; rfl
  | d + 1 => by
    rw [← Nat.add_assoc, on_succ, on_split b k h0 h1 d, on_succ _ (k + 1 + d)]
    have e : (k + 1 + d != k) = true := by simp; omega
    rw [e, Bool.and_true]; rfl
theorem on_length_le (b : Nat → Bool) (n : Nat) : (on b n).length ≤ n := by
  have := List.length_filter_le b (List.range n); simpa [on] using this
/-- Bits that none is set beyond. -/
theorem on_more {b : Nat → Bool} {n m : Nat} (hm : n ≤ m) (h : ∀ j, n ≤ j → b j = false) : on b m = on b n := by
  obtain ⟨d, rfl⟩ : ∃ d, m = n + d := ⟨m - n, by omega⟩
  rw [on_add, on_none (fun j _ => h (n + j) (by omega))]; simp

/-- The set bits of a word. -/
def sw (x : BitVec 64) : List Nat := on x.getLsbD 64
theorem sw_zero : sw 0#64 = [] := on_none (fun j _ => by simp)
theorem low_bit (x : BitVec 64) (hx : x ≠ 0#64) : ∃ m, x.toNat = 2 ^ (Lib.ctz 64 x.toNat + 1) * m + 2 ^ Lib.ctz 64 x.toNat ∧ Lib.ctz 64 x.toNat < 64 := by
  have h0 : x.toNat ≠ 0 := fun e => hx (BitVec.eq_of_toNat_eq (by simpa using e))
  obtain ⟨m, hm, hk⟩ := Lib.ctzFrom_spec 64 x.toNat (by omega) x.isLt
  have e : Lib.ctz 64 x.toNat = Lib.ctzFrom 64 x.toNat := by simp [Lib.ctz, h0]
  rw [e]
  refine ⟨m, ?_, hk⟩
  have e2 : 2 ^ (Lib.ctzFrom 64 x.toNat + 1) * m + 2 ^ Lib.ctzFrom 64 x.toNat = 2 ^ Lib.ctzFrom 64 x.toNat * (2 * m + 1) := by
    rw [Nat.pow_succ, Nat.mul_add, Nat.mul_assoc, Nat.mul_one]
  rw [e2]; exact hm
theorem bit_at (x : BitVec 64) (k m j : Nat) (h : x.toNat = 2 ^ (k + 1) * m + 2 ^ k) : x.getLsbD j = if j < k + 1 then decide (k = j) else m.testBit (j - (k + 1)) := by
  rw [BitVec.getLsbD, h, Nat.testBit_two_pow_mul_add _ (Nat.pow_lt_pow_right (by decide) (by omega)), Nat.testBit_two_pow]
theorem low_is (x : BitVec 64) (hx : x ≠ 0#64) : x.getLsbD (Lib.ctz 64 x.toNat) = true ∧ ∀ j, j < Lib.ctz 64 x.toNat → x.getLsbD j = false := by
  obtain ⟨m, hm, hk⟩ := low_bit x hx
  refine ⟨?_, fun j hj => ?_⟩
  · rw [bit_at x _ m _ hm, if_pos (by omega)]; simp
  · rw [bit_at x _ m _ hm, if_pos (by omega)]; simp; omega
theorem drop_bit (x : BitVec 64) (hx : x ≠ 0#64) (j : Nat) : (x &&& (x - 1#64)).getLsbD j = (x.getLsbD j && j != Lib.ctz 64 x.toNat) := by
  obtain ⟨m, hm, hk⟩ := low_bit x hx
  generalize Lib.ctz 64 x.toNat = k at hm hk ⊢
  have hp : 0 < 2 ^ k := Nat.two_pow_pos k
  have e : (x - 1#64).toNat = 2 ^ (k + 1) * m + (2 ^ k - 1) := by
    rw [BitVec.toNat_sub]
    have := x.isLt
    have e1 : (1#64).toNat = 1 := rfl
    rw [e1, hm]
    omega
  have hlt : 2 ^ k - 1 < 2 ^ (k + 1) := by rw [Nat.pow_succ]; omega
  rw [BitVec.getLsbD_and, bit_at x k m j hm]
  have e2 : (x - 1#64).getLsbD j = if j < k + 1 then decide (j < k) else m.testBit (j - (k + 1)) := by
    rw [BitVec.getLsbD, e, Nat.testBit_two_pow_mul_add _ hlt, Nat.testBit_two_pow_sub_one]
  rw [e2]
  by_cases h1 : j < k + 1
  · rw [if_pos h1, if_pos h1]
    by_cases h2 : j = k
    · subst h2; simp
    · have : ¬ k = j := fun e => h2 e.symm
      simp [this]
  · rw [if_neg h1, if_neg h1]
    have : (j != k) = true := by simp; omega
    rw [this]; simp
/-- The lowest set bit, and the others. -/
theorem sw_cons (x : BitVec 64) (hx : x ≠ 0#64) : sw x = Lib.ctz 64 x.toNat :: sw (x &&& (x - 1#64)) := by
  obtain ⟨m, hm, hk⟩ := low_bit x hx
  obtain ⟨h1, h0⟩ := low_is x hx
  obtain ⟨d, hd⟩ : ∃ d, 64 = Lib.ctz 64 x.toNat + 1 + d := ⟨63 - Lib.ctz 64 x.toNat, by omega⟩
  have a := on_split x.getLsbD _ h0 h1 d
  rw [← hd] at a
  unfold sw
  rw [a]
  congr 1
  exact on_congr (fun j _ => (drop_bit x hx j).symm)
theorem sw_ne (x : BitVec 64) (h : sw x ≠ []) : x ≠ 0#64 := fun e => h (by rw [e, sw_zero])
theorem sw_nil {x : BitVec 64} (h : sw x = []) : x = 0#64 := by
  apply Classical.byContradiction
  intro hx
  rw [sw_cons x hx] at h
  cases h
end Go.Proofs.YtaelfgdiboekpaaDoor.Bi
