import Derived.Laws.BitsAllLaws
import Derived.Laws.BitsLemmas
import Derived.Laws.CopyOwn
import Derived.Lib.TrailingZeros
import Derived.Test.YtaelfgdiboekpaaDoorRows
import Derived.WalkKit
import Derived.WalkSpells
import Derived.WalkLawsBesides
import Derived.Deep.QuietTactic
import Derived.BigQuiet
import Derived.Deep.RegionHeld3
import Derived.Deep.RegionLaw
import Derived.Deep.AppendLies
import Derived.Laws.AppendOwnNone
import Derived.Deep.OwnRows
import Derived.Lib.Hide
import Derived.Laws.Bits128
/-
  Plain facts on words and rows of bits, of which no statement of its own is claimed: words as bit vectors, the places of set bits, how many there are.
-/
namespace Go.Proofs.YtaelfgdiboekpaaDoor.Bi
set_option maxRecDepth 100000

/-- A word as the number that it is. -/
def u (x : BitVec 64) : Int := (x.toNat : Int)
theorem u_inj {a b : BitVec 64} (h : u a = u b) : a = b := by
  unfold u at h; exact BitVec.eq_of_toNat_eq (by omega)
theorem u_beq (a b : BitVec 64) : (u a == u b) = (a == b) := by
  rw [Bool.eq_iff_iff]; simp only [beq_iff_eq]; exact ⟨u_inj, fun h => by rw [h]⟩
theorem u_bne (a b : BitVec 64) : (u a != u b) = (a != b) := by rw [bne, bne, u_beq]
theorem u_of (n : Int) (h0 : 0 ≤ n) (h1 : n < 18446744073709551616) : ∃ x : BitVec 64, n = u x :=
  ⟨BitVec.ofNat 64 n.toNat, by unfold u; rw [BitVec.toNat_ofNat, Nat.mod_eq_of_lt (by omega)]; omega⟩
theorem and_u (a b : BitVec 64) : bits .and .u64 (u a) (u b) = u (a &&& b) := by
  unfold u; rw [u64_and_nat _ _ a.isLt b.isLt, BitVec.toNat_and]
theorem or_u (a b : BitVec 64) : bits .or .u64 (u a) (u b) = u (a ||| b) := by
  unfold u; rw [u64_or_nat _ _ a.isLt b.isLt, BitVec.toNat_or]
theorem shl_u (x : BitVec 64) (n : Nat) : IntKind.u64.wrap (u x * 2 ^ n) = u (x <<< n) := by
  unfold u; rw [IntKind.wrap_u64, BitVec.toNat_shiftLeft, Nat.shiftLeft_eq]
  have : ((x.toNat : Int) * 2 ^ n) = ((x.toNat * 2 ^ n : Nat) : Int) := by rw [Int.natCast_mul, Int.natCast_pow]; rfl
  rw [this]; omega
theorem shr_u (x : BitVec 64) (n : Nat) : u x / 2 ^ n = u (x >>> n) := by
  unfold u; rw [BitVec.toNat_ushiftRight, Nat.shiftRight_eq_div_pow]
  have : ((2 : Int) ^ n) = ((2 ^ n : Nat) : Int) := by rw [Int.natCast_pow]; rfl
  rw [this, Int.natCast_ediv]
theorem mul_u (a b : BitVec 64) : IntKind.u64.wrap (u a * u b) = u (a * b) := by
  unfold u; rw [IntKind.wrap_u64, BitVec.toNat_mul, ← Int.natCast_mul]; omega
theorem add_u (a b : BitVec 64) : IntKind.u64.wrap (u a + u b) = u (a + b) := by
  unfold u; rw [IntKind.wrap_u64, BitVec.toNat_add]; omega
theorem sub_u (a b : BitVec 64) : IntKind.u64.wrap (u a - u b) = u (a - b) := by
  unfold u; rw [IntKind.wrap_u64, BitVec.toNat_sub]; have := a.isLt; have := b.isLt; omega


/-! ### The places of set bits -/
def on (b : Nat → Bool) (n : Nat) : List Nat := (List.range n).filter b
theorem on_zero (b : Nat → Bool) : on b 0 = [] := rfl
theorem on_succ (b : Nat → Bool) (n : Nat) : on b (n + 1) = on b n ++ if b n then [n] else [] := by
  unfold on; rw [List.range_succ, List.filter_append]; congr 1; cases h : b n <;> simp [h]
theorem on_add (b : Nat → Bool) (n m : Nat) : on b (n + m) = on b n ++ (on (fun j => b (n + j)) m).map (n + ·) := by
  induction m with
  | zero => simp [on]
  | succ m ih =>
    rw [← Nat.add_assoc, on_succ, ih, on_succ, List.map_append, List.append_assoc]
    congr 2
    cases b (n + m) <;> simp
theorem on_congr {b c : Nat → Bool} : ∀ {n : Nat}, (∀ j, j < n → b j = c j) → on b n = on c n
  | 0, _ => rfl
  | n + 1, h => by rw [on_succ, on_succ, on_congr (fun j hj => h j (by omega)), h n (by omega)]
theorem on_none {b : Nat → Bool} : ∀ {n : Nat}, (∀ j, j < n → b j = false) → on b n = []
  | 0, _ => rfl
  | n + 1, h => by rw [on_succ, on_none (fun j hj => h j (by omega)), h n (by omega)]; rfl
theorem mem_on {b : Nat → Bool} {n k : Nat} : k ∈ on b n ↔ k < n ∧ b k = true := by simp [on]
theorem on_split (b : Nat → Bool) (k : Nat) (h0 : ∀ j, j < k → b j = false) (h1 : b k = true) : ∀ d, on b (k + 1 + d) = k :: on (fun j => b j && j != k) (k + 1 + d)
  | 0 => by
    rw [Nat.add_zero, on_succ, on_none h0, h1, on_none]
    · rfl
    · intro j hj
      by_cases e : j = k
      · subst e; simp
      · rw [h0 j (by omega)]; rfl
  | d + 1 => by
    rw [← Nat.add_assoc, on_succ, on_split b k h0 h1 d, on_succ _ (k + 1 + d)]
    have e : (k + 1 + d != k) = true := by simp; omega
    rw [e, Bool.and_true]; rfl
theorem on_length_le (b : Nat → Bool) (n : Nat) : (on b n).length ≤ n := by
  have := List.length_filter_le b (List.range n); simpa [on] using this
/-- Bits that none is set beyond. -/
theorem on_more {b : Nat → Bool} {n m : Nat} (hm : n ≤ m) (h : ∀ j, n ≤ j → b j = false) : on b m = on b n := by
  obtain ⟨d, rfl⟩ : ∃ d, m = n + d := ⟨m - n, by omega⟩
  rw [on_add, on_none (fun j _ => h (n + j) (by omega))]; simp

/-- The set bits of a word. -/
def sw (x : BitVec 64) : List Nat := on x.getLsbD 64
theorem sw_zero : sw 0#64 = [] := on_none (fun j _ => by simp)
theorem low_bit (x : BitVec 64) (hx : x ≠ 0#64) : ∃ m, x.toNat = 2 ^ (Lib.ctz 64 x.toNat + 1) * m + 2 ^ Lib.ctz 64 x.toNat ∧ Lib.ctz 64 x.toNat < 64 := by
  have h0 : x.toNat ≠ 0 := fun e => hx (BitVec.eq_of_toNat_eq (by simpa using e))
  obtain ⟨m, hm, hk⟩ := Lib.ctzFrom_spec 64 x.toNat (by omega) x.isLt
  have e : Lib.ctz 64 x.toNat = Lib.ctzFrom 64 x.toNat := by simp [Lib.ctz, h0]
  rw [e]
  refine ⟨m, ?_, hk⟩
  have e2 : 2 ^ (Lib.ctzFrom 64 x.toNat + 1) * m + 2 ^ Lib.ctzFrom 64 x.toNat = 2 ^ Lib.ctzFrom 64 x.toNat * (2 * m + 1) := by
    rw [Nat.pow_succ, Nat.mul_add, Nat.mul_assoc, Nat.mul_one]
  rw [e2]; exact hm
theorem bit_at (x : BitVec 64) (k m j : Nat) (h : x.toNat = 2 ^ (k + 1) * m + 2 ^ k) : x.getLsbD j = if j < k + 1 then decide (k = j) else m.testBit (j - (k + 1)) := by
  rw [BitVec.getLsbD, h, Nat.testBit_two_pow_mul_add _ (Nat.pow_lt_pow_right (by decide) (by omega)), Nat.testBit_two_pow]
theorem low_is (x : BitVec 64) (hx : x ≠ 0#64) : x.getLsbD (Lib.ctz 64 x.toNat) = true ∧ ∀ j, j < Lib.ctz 64 x.toNat → x.getLsbD j = false := by
  obtain ⟨m, hm, hk⟩ := low_bit x hx
  refine ⟨?_, fun j hj => ?_⟩
  · rw [bit_at x _ m _ hm, if_pos (by omega)]; simp
  · rw [bit_at x _ m _ hm, if_pos (by omega)]; simp; omega
theorem drop_bit (x : BitVec 64) (hx : x ≠ 0#64) (j : Nat) : (x &&& (x - 1#64)).getLsbD j = (x.getLsbD j && j != Lib.ctz 64 x.toNat) := by
  obtain ⟨m, hm, hk⟩ := low_bit x hx
  generalize Lib.ctz 64 x.toNat = k at hm hk ⊢
  have hp : 0 < 2 ^ k := Nat.two_pow_pos k
  have e : (x - 1#64).toNat = 2 ^ (k + 1) * m + (2 ^ k - 1) := by
    rw [BitVec.toNat_sub]
    have := x.isLt
    have e1 : (1#64).toNat = 1 := rfl
    rw [e1, hm]
    omega
  have hlt : 2 ^ k - 1 < 2 ^ (k + 1) := by rw [Nat.pow_succ]; omega
  rw [BitVec.getLsbD_and, bit_at x k m j hm]
  have e2 : (x - 1#64).getLsbD j = if j < k + 1 then decide (j < k) else m.testBit (j - (k + 1)) := by
    rw [BitVec.getLsbD, e, Nat.testBit_two_pow_mul_add _ hlt, Nat.testBit_two_pow_sub_one]
  rw [e2]
  by_cases h1 : j < k + 1
  · rw [if_pos h1, if_pos h1]
    by_cases h2 : j = k
    · subst h2; simp
    · have : ¬ k = j := fun e => h2 e.symm
      simp [this]
  · rw [if_neg h1, if_neg h1]
    have : (j != k) = true := by simp; omega
    rw [this]; simp
/-- The lowest set bit, and the others. -/
theorem sw_cons (x : BitVec 64) (hx : x ≠ 0#64) : sw x = Lib.ctz 64 x.toNat :: sw (x &&& (x - 1#64)) := by
  obtain ⟨m, hm, hk⟩ := low_bit x hx
  obtain ⟨h1, h0⟩ := low_is x hx
  obtain ⟨d, hd⟩ : ∃ d, 64 = Lib.ctz 64 x.toNat + 1 + d := ⟨63 - Lib.ctz 64 x.toNat, by omega⟩
  have a := on_split x.getLsbD _ h0 h1 d
  rw [← hd] at a
  unfold sw
  rw [a]
  congr 1
  exact on_congr (fun j _ => (drop_bit x hx j).symm)
theorem sw_ne (x : BitVec 64) (h : sw x ≠ []) : x ≠ 0#64 := fun e => h (by rw [e, sw_zero])
theorem sw_nil {x : BitVec 64} (h : sw x = []) : x = 0#64 := by
  apply Classical.byContradiction
  intro hx
  rw [sw_cons x hx] at h
  cases h
end Go.Proofs.YtaelfgdiboekpaaDoor.Bi

/-
  How many bits of a word are set, reckoned as the library does it: a plain fact that the claimed proofs use.
-/
namespace Go.Proofs.YtaelfgdiboekpaaDoor.Bi
set_option maxRecDepth 100000

def dig (g : Nat → Nat) : Nat → Nat → Nat
  | 0, _ => 0
  | k + 1, x => g (x % 256) + 256 * dig g k (x / 256)
def sm (g : Nat → Nat) : Nat → Nat → Nat
  | 0, _ => 0
  | k + 1, x => g (x % 256) + sm g k (x / 256)
def mk (c : Nat) : Nat → Nat
  | 0 => 0
  | k + 1 => c + 256 * mk c k
theorem and_split (a b : Nat) : a &&& b = ((a % 256) &&& (b % 256)) + 256 * ((a / 256) &&& (b / 256)) := by
  have h1 : (a &&& b) % 2 ^ 8 = (a % 2 ^ 8) &&& (b % 2 ^ 8) := Nat.and_mod_two_pow
  have h2 : (a &&& b) / 2 ^ 8 = (a / 2 ^ 8) &&& (b / 2 ^ 8) := Nat.and_div_two_pow
  have h3 : (2 : Nat) ^ 8 = 256 := rfl
  rw [h3] at h1 h2
  rw [← h1, ← h2]
  omega
theorem mk_parts (c k : Nat) (h : c < 256) : mk c (k + 1) % 256 = c ∧ mk c (k + 1) / 256 = mk c k := by
  rw [mk]; omega
theorem one_shift : ∀ B, B < 256 → ∀ c, c < 2 → (B / 2 + 128 * c) &&& 85 = (B / 2) &&& 85 := by decide +kernel
theorem two_shift : ∀ B, B < 256 → ∀ c, c < 4 → (B / 4 + 64 * c) &&& 51 = (B / 4) &&& 51 := by decide +kernel
theorem four_shift : ∀ G, G < 256 → ∀ c, c < 5 → (G / 16 + 16 * c + G) &&& 15 = (G / 16 + G) &&& 15 := by decide +kernel
def g1 (B : Nat) : Nat := ((B / 2) &&& 85) + (B &&& 85)
def g2 (B : Nat) : Nat := ((B / 4) &&& 51) + (B &&& 51)
def g3 (B : Nat) : Nat := (B / 16 + B) &&& 15
theorem pass1 : ∀ k x, ((x / 2) &&& mk 85 k) + (x &&& mk 85 k) = dig g1 k x
  | 0, x => by simp [mk, dig]
  | k + 1, x => by
    obtain ⟨m1, m2⟩ := mk_parts 85 k (by omega)
    have ih := pass1 k (x / 256)
    rw [and_split (x / 2), and_split x, m1, m2, dig, ← ih, g1]
    have e1 : x / 2 % 256 = x % 256 / 2 + 128 * (x / 256 % 2) := by omega
    have e2 : x / 2 / 256 = x / 256 / 2 := by omega
    rw [e1, e2, one_shift _ (by omega) _ (by omega)]
    omega
theorem pass2 : ∀ k x, ((x / 4) &&& mk 51 k) + (x &&& mk 51 k) = dig g2 k x
  | 0, x => by simp [mk, dig]
  | k + 1, x => by
    obtain ⟨m1, m2⟩ := mk_parts 51 k (by omega)
    have ih := pass2 k (x / 256)
    rw [and_split (x / 4), and_split x, m1, m2, dig, ← ih, g2]
    have e1 : x / 4 % 256 = x % 256 / 4 + 64 * (x / 256 % 4) := by omega
    have e2 : x / 4 / 256 = x / 256 / 4 := by omega
    rw [e1, e2, two_shift _ (by omega) _ (by omega)]
    omega
theorem dig_low (g : Nat → Nat) (hg : ∀ B, B < 256 → g B % 16 ≤ 4) : ∀ k x, dig g k x % 16 ≤ 4
  | 0, x => by simp [dig]
  | k + 1, x => by
    have := hg (x % 256) (by omega)
    rw [dig]; omega
theorem pass3 (g : Nat → Nat) (hg : ∀ B, B < 256 → g B % 16 ≤ 4 ∧ g B / 16 ≤ 4) : ∀ k x, (dig g k x / 16 + dig g k x) &&& mk 15 k = dig (fun B => g3 (g B)) k x
  | 0, x => by simp [mk, dig]
  | k + 1, x => by
    obtain ⟨m1, m2⟩ := mk_parts 15 k (by omega)
    have ih := pass3 g hg k (x / 256)
    have hl := dig_low g (fun B hB => (hg B hB).1) k (x / 256)
    obtain ⟨a1, a2⟩ := hg (x % 256) (by omega)
    rw [and_split, m1, m2, dig, dig, ← ih, g3]
    generalize dig g k (x / 256) = d at *
    generalize g (x % 256) = G at *
    have e1 : ((G + 256 * d) / 16 + (G + 256 * d)) % 256 = G / 16 + 16 * (d % 16) + G := by omega
    have e2 : ((G + 256 * d) / 16 + (G + 256 * d)) / 256 = d / 16 + d := by omega
    rw [e1, e2, four_shift _ (by omega) _ (by omega)]
theorem dig_dig (g h : Nat → Nat) (hh : ∀ B, B < 256 → h B < 256) : ∀ k x, dig g k (dig h k x) = dig (fun B => g (h B)) k x
  | 0, x => rfl
  | k + 1, x => by
    have := hh (x % 256) (by omega)
    rw [dig, dig, dig]
    have e1 : (h (x % 256) + 256 * dig h k (x / 256)) % 256 = h (x % 256) := by omega
    have e2 : (h (x % 256) + 256 * dig h k (x / 256)) / 256 = dig h k (x / 256) := by omega
    rw [e1, e2, dig_dig g h hh k]
def g4 (B : Nat) : Nat := g3 (g2 (g1 B))
theorem g1_lt : ∀ B, B < 256 → g1 B < 256 := by decide +kernel
theorem g2_ok : ∀ B, B < 256 → g2 (g1 B) % 16 ≤ 4 ∧ g2 (g1 B) / 16 ≤ 4 := by decide +kernel
theorem g4_is : ∀ B, B < 256 → g4 B = (on B.testBit 8).length := by decide +kernel
theorem g4_le (B : Nat) (h : B < 256) : g4 B ≤ 8 := by rw [g4_is B h]; exact on_length_le _ _
theorem sm_is : ∀ k x, sm g4 k x = (on x.testBit (8 * k)).length
  | 0, x => rfl
  | k + 1, x => by
    rw [sm, sm_is k, show 8 * (k + 1) = 8 + 8 * k by omega, on_add, List.length_append, List.length_map, g4_is _ (by omega)]
    congr 2
    · exact on_congr (fun j hj => by rw [show (256 : Nat) = 2 ^ 8 from rfl, Nat.testBit_mod_two_pow]; simp [hj])
    · exact on_congr (fun j hj => by rw [show (256 : Nat) = 2 ^ 8 from rfl, Nat.testBit_div_two_pow, Nat.add_comm])
def swar (x : Nat) : Nat :=
  let a := ((x / 2) &&& 6148914691236517205) + (x &&& 6148914691236517205)
  let b := ((a / 4) &&& 3689348814741910323) + (a &&& 3689348814741910323)
  (b / 16 + b) &&& 1085102592571150095
theorem swar_is (x : Nat) : swar x = dig g4 8 x := by
  have m1 : mk 85 8 = 6148914691236517205 := by decide +kernel
  have m2 : mk 51 8 = 3689348814741910323 := by decide +kernel
  have m3 : mk 15 8 = 1085102592571150095 := by decide +kernel
  unfold swar
  simp only []
  rw [← m1, ← m2, ← m3, pass1, pass2, dig_dig g2 g1 g1_lt, pass3 _ g2_ok]
  rfl
theorem sum_a (c0 r c : Nat) (h0 : c0 ≤ 8) (hc : c = c0 + 256 * r) : c / 256 = r := by omega
theorem sum_b (c0 c1 r d : Nat) (h0 : c0 ≤ 16) (h1 : c1 ≤ 16) (hd : d = c0 + 256 * (c1 + 256 * r)) : d / 65536 = r := by omega
theorem sum_c (c0 c1 c2 c3 r d : Nat) (h0 : c0 ≤ 32) (h1 : c1 ≤ 32) (h2 : c2 ≤ 32) (h3 : c3 ≤ 32) (hd : d = c0 + 256 * (c1 + 256 * (c2 + 256 * (c3 + 256 * r)))) : d / 4294967296 = r := by omega
theorem sum_d (s r : Nat) (h : s ≤ 64) : (s + 256 * r) % 128 = s := by omega
def End4 (c s : Nat) : Prop := c < 18446744073709551616 ∧ c + c / 256 < 18446744073709551616 ∧ (c + c / 256) + (c + c / 256) / 65536 < 18446744073709551616 ∧
  ((c + c / 256) + (c + c / 256) / 65536) + ((c + c / 256) + (c + c / 256) / 65536) / 4294967296 < 9223372036854775808 ∧
  (((c + c / 256) + (c + c / 256) / 65536) + ((c + c / 256) + (c + c / 256) / 65536) / 4294967296) % 128 = s
theorem End4.to {c s t : Nat} (h : End4 c s) (e : s = t) : End4 c t := e ▸ h
theorem nest_lt (a0 a1 a2 a3 a4 a5 a6 a7 : Nat) (h0 : a0 ≤ 64) (h1 : a1 ≤ 64) (h2 : a2 ≤ 64) (h3 : a3 ≤ 64) (h4 : a4 ≤ 64) (h5 : a5 ≤ 64) (h6 : a6 ≤ 64) (h7 : a7 ≤ 64) :
    a0 + 256 * (a1 + 256 * (a2 + 256 * (a3 + 256 * (a4 + 256 * (a5 + 256 * (a6 + 256 * (a7))))))) < 9223372036854775808 := by omega
theorem nest1 (c0 c1 c2 c3 c4 c5 c6 c7 : Nat) : (c0 + 256 * (c1 + 256 * (c2 + 256 * (c3 + 256 * (c4 + 256 * (c5 + 256 * (c6 + 256 * (c7)))))))) + (c1 + 256 * (c2 + 256 * (c3 + 256 * (c4 + 256 * (c5 + 256 * (c6 + 256 * (c7))))))) = (c0 + c1) + 256 * ((c1 + c2) + 256 * ((c2 + c3) + 256 * ((c3 + c4) + 256 * ((c4 + c5) + 256 * ((c5 + c6) + 256 * ((c6 + c7) + 256 * ((c7)))))))) := by omega
theorem nest2 (c0 c1 c2 c3 c4 c5 c6 c7 : Nat) : ((c0 + c1) + 256 * ((c1 + c2) + 256 * ((c2 + c3) + 256 * ((c3 + c4) + 256 * ((c4 + c5) + 256 * ((c5 + c6) + 256 * ((c6 + c7) + 256 * ((c7))))))))) + ((c2 + c3) + 256 * ((c3 + c4) + 256 * ((c4 + c5) + 256 * ((c5 + c6) + 256 * ((c6 + c7) + 256 * ((c7))))))) = (c0 + c1 + c2 + c3) + 256 * ((c1 + c2 + c3 + c4) + 256 * ((c2 + c3 + c4 + c5) + 256 * ((c3 + c4 + c5 + c6) + 256 * ((c4 + c5 + c6 + c7) + 256 * ((c5 + c6 + c7) + 256 * ((c6 + c7) + 256 * ((c7)))))))) := by omega
theorem nest3 (c0 c1 c2 c3 c4 c5 c6 c7 : Nat) : ((c0 + c1 + c2 + c3) + 256 * ((c1 + c2 + c3 + c4) + 256 * ((c2 + c3 + c4 + c5) + 256 * ((c3 + c4 + c5 + c6) + 256 * ((c4 + c5 + c6 + c7) + 256 * ((c5 + c6 + c7) + 256 * ((c6 + c7) + 256 * ((c7))))))))) + ((c4 + c5 + c6 + c7) + 256 * ((c5 + c6 + c7) + 256 * ((c6 + c7) + 256 * ((c7))))) = (c0 + c1 + c2 + c3 + c4 + c5 + c6 + c7) + 256 * ((c1 + c2 + c3 + c4 + c5 + c6 + c7) + 256 * ((c2 + c3 + c4 + c5 + c6 + c7) + 256 * ((c3 + c4 + c5 + c6 + c7) + 256 * ((c4 + c5 + c6 + c7) + 256 * ((c5 + c6 + c7) + 256 * ((c6 + c7) + 256 * ((c7)))))))) := by omega
theorem ends_of (c d e f s : Nat) (h1 : c / 256 + c = d) (h2 : d / 65536 + d = e) (h3 : e / 4294967296 + e = f) (b1 : c < 9223372036854775808) (b2 : d < 9223372036854775808) (b3 : e < 9223372036854775808) (b4 : f < 9223372036854775808) (hs : f % 128 = s) : End4 c s := by
  have k1 : c + c / 256 = d := by rw [Nat.add_comm]; exact h1
  have k2 : d + d / 65536 = e := by rw [Nat.add_comm]; exact h2
  have k3 : e + e / 4294967296 = f := by rw [Nat.add_comm]; exact h3
  unfold End4
  rw [k1, k2, k3]
  exact ⟨Nat.lt_trans b1 (by decide), Nat.lt_trans b2 (by decide), Nat.lt_trans b3 (by decide), b4, hs⟩
theorem sum_all (c0 c1 c2 c3 c4 c5 c6 c7 c : Nat) (h0 : c0 ≤ 8) (h1 : c1 ≤ 8) (h2 : c2 ≤ 8) (h3 : c3 ≤ 8) (h4 : c4 ≤ 8) (h5 : c5 ≤ 8) (h6 : c6 ≤ 8) (h7 : c7 ≤ 8)
    (hc : c = c0 + 256 * (c1 + 256 * (c2 + 256 * (c3 + 256 * (c4 + 256 * (c5 + 256 * (c6 + 256 * (c7)))))))) : End4 c (c0 + c1 + c2 + c3 + c4 + c5 + c6 + c7) := by
  refine ends_of c ((c0 + c1) + 256 * ((c1 + c2) + 256 * ((c2 + c3) + 256 * ((c3 + c4) + 256 * ((c4 + c5) + 256 * ((c5 + c6) + 256 * ((c6 + c7) + 256 * ((c7))))))))) ((c0 + c1 + c2 + c3) + 256 * ((c1 + c2 + c3 + c4) + 256 * ((c2 + c3 + c4 + c5) + 256 * ((c3 + c4 + c5 + c6) + 256 * ((c4 + c5 + c6 + c7) + 256 * ((c5 + c6 + c7) + 256 * ((c6 + c7) + 256 * ((c7))))))))) ((c0 + c1 + c2 + c3 + c4 + c5 + c6 + c7) + 256 * ((c1 + c2 + c3 + c4 + c5 + c6 + c7) + 256 * ((c2 + c3 + c4 + c5 + c6 + c7) + 256 * ((c3 + c4 + c5 + c6 + c7) + 256 * ((c4 + c5 + c6 + c7) + 256 * ((c5 + c6 + c7) + 256 * ((c6 + c7) + 256 * ((c7))))))))) _ ?_ ?_ ?_ ?_ ?_ ?_ ?_ ?_
  · rw [sum_a _ _ _ h0 hc, hc, Nat.add_comm]; exact nest1 ..
  · rw [sum_b _ _ _ _ (by clear hc; omega) (by clear hc; omega) rfl, Nat.add_comm]; exact nest2 ..
  · rw [sum_c _ _ _ _ _ _ (by clear hc; omega) (by clear hc; omega) (by clear hc; omega) (by clear hc; omega) rfl, Nat.add_comm]; exact nest3 ..
  · rw [hc]; apply nest_lt <;> (clear hc; omega)
  · apply nest_lt <;> (clear hc; omega)
  · apply nest_lt <;> (clear hc; omega)
  · apply nest_lt <;> (clear hc; omega)
  · exact sum_d _ _ (by clear hc; omega)
theorem dig_sum (x : Nat) : End4 (dig g4 8 x) (sm g4 8 x) := by
  have h0 := g4_le (x % 256) (by omega)
  have h1 := g4_le (x / 256 % 256) (by omega)
  have h2 := g4_le (x / 256 / 256 % 256) (by omega)
  have h3 := g4_le (x / 256 / 256 / 256 % 256) (by omega)
  have h4 := g4_le (x / 256 / 256 / 256 / 256 % 256) (by omega)
  have h5 := g4_le (x / 256 / 256 / 256 / 256 / 256 % 256) (by omega)
  have h6 := g4_le (x / 256 / 256 / 256 / 256 / 256 / 256 % 256) (by omega)
  have h7 := g4_le (x / 256 / 256 / 256 / 256 / 256 / 256 / 256 % 256) (by omega)
  refine (show End4 (dig g4 8 x) _ from sum_all _ _ _ _ _ _ _ _ _ h0 h1 h2 h3 h4 h5 h6 h7 ?_).to ?_
  · simp only [dig, Nat.mul_zero, Nat.add_zero]
  · simp only [sm, Nat.add_zero, Nat.add_assoc]
/-- The library's way to count a word's bits counts them. -/
theorem swar_ends (x : BitVec 64) : End4 (swar x.toNat) (sw x).length := by
  rw [swar_is]
  have := dig_sum x.toNat
  rw [sm_is] at this
  exact this
end Go.Proofs.YtaelfgdiboekpaaDoor.Bi

/-
  What a row of bits is, as the walk meets it: the words' block, and the cell that names it; laws on both that the claimed proofs use.
-/
namespace Go.Proofs.YtaelfgdiboekpaaDoor.Bi
set_option maxRecDepth 100000
open Go.RowKit

theorem ret_u {a b : Int} (h : a = b) : Ending.returned (.int .u64 a) = .returned (.int .u64 b) := by rw [h]
theorem ret_i {a b : Int} (h : a = b) : Ending.returned (.int .i64 a) = .returned (.int .i64 b) := by rw [h]
theorem ret_b {a b : Bool} (h : a = b) : Ending.returned (.bool a) = .returned (.bool b) := by rw [h]

/-! ### Worlds -/
theorem grown_refl (w : World) (r : Option Nat) : w.grownBy w r := ⟨rfl, rfl, rfl, Nat.le_refl _, fun _ _ _ => rfl⟩
theorem grown_trans {a b c : World} {r : Option Nat} (h : a.grownBy b r) (k : b.grownBy c r) : a.grownBy c r :=
  ⟨k.os.trans h.os, k.tape.trans h.tape, k.output.trans h.output, Nat.le_trans h.size k.size, fun i hi hr => (k.block i (Nat.lt_of_lt_of_le hi h.size) hr).trans (h.block i hi hr)⟩
theorem grown_drew {a b : World} {r : Option Nat} (h : a.grownBy b r) : a.grownBy b.drew r := ⟨h.os, h.tape, h.output, h.size, h.block⟩
theorem grown_set {a b : World} {g i : Nat} {v : Value} (h : a.grownBy b (some g)) : a.grownBy (b.setCell ⟨g, i, none⟩ v) (some g) :=
  grown_trans h ⟨rfl, rfl, rfl, by simp [World.setCell], fun k _ hr => Below.heap_setCell _ _ _ _ (fun e => hr (by rw [e]))⟩
theorem grown_below {a b : World} {r : Option Nat} (h : Below a.heap.size a b) : a.grownBy b r := ⟨h.os, h.tape, h.output, h.size, fun k hk _ => h.block k hk⟩
theorem below_grown {B g : Nat} {a b c : World} (h : Below B a b) (k : b.grownBy c (some g)) (hB : B ≤ b.heap.size) (hg : B ≤ g) : Below B a c := h.grown k hB (fun _ e => by cases e; exact hg)
theorem up_trans {w W w2 : World} (h : Below w.heap.size w W) (h2 : Below W.heap.size W w2) : Below w.heap.size w w2 := h.trans (h2.mono h.size)
theorem up_alloc {w W : World} (h : Below w.heap.size w W) (o : Obj) : Below w.heap.size w (W.alloc o) := h.alloc h.size o
theorem up_drew {w W : World} (h : Below w.heap.size w W) : ∀ k, Below w.heap.size w (W.drewN k)
  | 0 => h
  | k + 1 => (up_drew h k).drew
theorem cell_alloc {w : World} {p : Addr} (o : Obj) (h : p.block < w.heap.size) : (w.alloc o).cell? p = w.cell? p := ((Below.refl _ w).alloc (Nat.le_refl _) o).cell h
theorem i64_in (n : Int) (h0 : 0 ≤ n) (h1 : n ≤ 4611686018427387904) : IntKind.i64.wrap n = n := by rw [IntKind.wrap_i64]; omega

/-! ### The library's table -/
def Tab (w : World) : Prop := ∀ j, j < 64 → w.cell? ⟨0, j, none⟩ = some (.int .u8 ((Lib.deBruijn64tab.getD j 0 : Nat) : Int))
theorem Tab.lt {w : World} (h : Tab w) : 0 < w.heap.size := World.block_lt_of_cell? w ⟨0, 0, none⟩ (h 0 (by omega))
theorem Tab.below {w w' : World} (h : Tab w) (hb : Below w.heap.size w w') : Tab w' := fun j hj => (hb.cell (p := ⟨0, j, none⟩) h.lt).trans (h j hj)
theorem cell_of_block {w w' : World} {g i : Nat} (e : w'.heap[g]? = w.heap[g]?) : w'.cell? ⟨g, i, none⟩ = w.cell? ⟨g, i, none⟩ := by simp [World.cell?, e]
theorem Tab.grown {w w' : World} {g : Nat} (h : Tab w) (hb : w.grownBy w' (some g)) (hg : 0 < g) : Tab w' := fun j hj =>
  (cell_of_block (hb.block 0 h.lt (by simp; omega))).trans (h j hj)

/-! ### Rows of cells -/
/-- A block of just these cells. -/
def Blk (w : World) (g : Nat) (vs : List Value) (t : TypeId) : Prop := w.heap[g]? = some (.cells vs.toArray t (0, 0))
theorem Blk.cell {w : World} {g i : Nat} {vs : List Value} {t : TypeId} (h : Blk w g vs t) : w.cell? ⟨g, i, none⟩ = vs[i]? := by
  rw [cell_of_row w g i _ t (0, 0) h]; simp
theorem Blk.frozen {w : World} {g : Nat} {vs : List Value} {t : TypeId} (h : Blk w g vs t) (i : Nat) : w.frozen? ⟨g, i, none⟩ = false := frozen_of_row w g i _ t h
theorem Blk.lt {w : World} {g : Nat} {vs : List Value} {t : TypeId} (h : Blk w g vs t) : g < w.heap.size := (Array.getElem?_eq_some_iff.1 h).1
theorem Blk.of {w w' : World} {g : Nat} {vs : List Value} {t : TypeId} (h : Blk w g vs t) (e : w'.heap[g]? = w.heap[g]?) : Blk w' g vs t := e.trans h
theorem Blk.below {w w' : World} {g : Nat} {vs : List Value} {t : TypeId} (h : Blk w g vs t) (hb : Below w.heap.size w w') : Blk w' g vs t := h.of (hb.block g h.lt)
theorem Blk.far {w w' : World} {g k : Nat} {vs : List Value} {t : TypeId} (h : Blk w g vs t) (hb : w.grownBy w' (some k)) (hk : g ≠ k) : Blk w' g vs t := h.of (hb.block g h.lt (by simpa using hk))
theorem Blk.set {w : World} {g i : Nat} {vs : List Value} {t : TypeId} (h : Blk w g vs t) (v : Value) : Blk (w.setCell ⟨g, i, none⟩ v) g (vs.set i v) t := by
  have := heap_setCell_same w g i _ t v h
  unfold Blk
  rw [this]
  simp
theorem Blk.made (w : World) (v : Value) (n : Nat) (t : TypeId) : Blk (w.alloc (.cells (madeCells #[v] n) t)) w.heap.size (List.replicate n v) t := by
  unfold Blk
  rw [heap_alloc_new]
  congr 2
  apply Array.ext'
  rw [toList_madeCells_one]
def wrow (ws : List (BitVec 64)) : List Value := ws.map fun x => Value.int .u64 (u x)
def brow (l : List Bool) : List Value := l.map Value.bool
theorem wrow_length (ws : List (BitVec 64)) : (wrow ws).length = ws.length := by simp [wrow]
theorem wrow_one (ws : List (BitVec 64)) : ∀ v ∈ wrow ws, v.oneCell' = true := by
  intro v hv; obtain ⟨x, _, rfl⟩ := List.mem_map.1 hv; rfl
theorem wrow_get {ws : List (BitVec 64)} {i : Nat} (h : i < ws.length) : (wrow ws)[i]? = some (.int .u64 (u (ws.getD i 0#64))) := by
  rw [wrow, List.getElem?_map, List.getD_eq_getElem?_getD, List.getElem?_eq_getElem h]; rfl
theorem brow_get {l : List Bool} {i : Nat} (h : i < l.length) : (brow l)[i]? = some (.bool (l.getD i false)) := by
  rw [brow, List.getElem?_map, List.getD_eq_getElem?_getD, List.getElem?_eq_getElem h]; rfl
theorem wrow_set (ws : List (BitVec 64)) (i : Nat) (x : BitVec 64) : (wrow ws).set i (.int .u64 (u x)) = wrow (ws.set i x) := by simp [wrow, List.map_set]
theorem brow_set (l : List Bool) (i : Nat) (x : Bool) : (brow l).set i (.bool x) = brow (l.set i x) := by simp [brow, List.map_set]

/-! ### Rows of bits -/
/-- These words are those bits. -/
def Fits (l : List Bool) (ws : List (BitVec 64)) : Prop := ws.length = (l.length + 63) / 64 ∧ ∀ i j, j < 64 → (ws.getD i 0#64).getLsbD j = l.getD (64 * i + j) false
/-- A row of bits: the block q names the words' block g. -/
def Bits (w : World) (q g : Nat) (l : List Bool) (ws : List (BitVec 64)) : Prop :=
  Blk w q [.int .i64 (l.length : Int), .slice (some ⟨g, 0, none⟩) ws.length ws.length] 126 ∧ Blk w g (wrow ws) 22 ∧ Fits l ws ∧ l.length ≤ 4096 ∧ 0 < q ∧ 0 < g
theorem Bits.n {w : World} {q g : Nat} {l : List Bool} {ws : List (BitVec 64)} (h : Bits w q g l ws) : w.cell? ⟨q, 0, none⟩ = some (.int .i64 (l.length : Int)) := h.1.cell
theorem Bits.words {w : World} {q g : Nat} {l : List Bool} {ws : List (BitVec 64)} (h : Bits w q g l ws) : w.cell? ⟨q, 1, none⟩ = some (.slice (some ⟨g, 0, none⟩) ws.length ws.length) := h.1.cell
theorem Bits.word {w : World} {q g : Nat} {l : List Bool} {ws : List (BitVec 64)} (h : Bits w q g l ws) {i : Nat} (hi : i < ws.length) : w.cell? ⟨g, i, none⟩ = some (.int .u64 (u (ws.getD i 0#64))) := by
  rw [h.2.1.cell, wrow_get hi]
theorem Bits.ne {w : World} {q g : Nat} {l : List Bool} {ws : List (BitVec 64)} (h : Bits w q g l ws) : q ≠ g := fun e => by
  have h1 := h.1; rw [e, Blk, h.2.1] at h1; simp at h1
theorem Bits.below {w w' : World} {q g : Nat} {l : List Bool} {ws : List (BitVec 64)} (h : Bits w q g l ws) (hb : Below w.heap.size w w') : Bits w' q g l ws := ⟨h.1.below hb, h.2.1.below hb, h.2.2⟩
theorem Bits.far {w w' : World} {q g k : Nat} {l : List Bool} {ws : List (BitVec 64)} (h : Bits w q g l ws) (hb : w.grownBy w' (some k)) (h1 : q ≠ k) (h2 : g ≠ k) : Bits w' q g l ws := ⟨h.1.far hb h1, h.2.1.far hb h2, h.2.2⟩
theorem Bits.many {w : World} {q g : Nat} {l : List Bool} {ws : List (BitVec 64)} (h : Bits w q g l ws) : ws.length = (l.length + 63) / 64 ∧ ws.length ≤ 64 ∧ l.length ≤ 4096 := by
  have := h.2.2.1.1; have := h.2.2.2.1; omega
theorem fits_none (n : Nat) : Fits (List.replicate n false) (List.replicate ((n + 63) / 64) 0#64) := by
  refine ⟨by simp, fun i j hj => ?_⟩
  have e1 : (List.replicate ((n + 63) / 64) 0#64).getD i 0#64 = 0#64 := by
    rw [List.getD_eq_getElem?_getD, List.getElem?_replicate]; split <;> rfl
  have e2 : (List.replicate n false).getD (64 * i + j) false = false := by
    rw [List.getD_eq_getElem?_getD, List.getElem?_replicate]; split <;> rfl
  rw [e1, e2]; simp
theorem fits_set {l : List Bool} {ws : List (BitVec 64)} (h : Fits l ws) (k : Nat) (hk : k < l.length) (b : Bool) (x : BitVec 64)
    (hx : ∀ j, j < 64 → x.getLsbD j = if j = k % 64 then b else (ws.getD (k / 64) 0#64).getLsbD j) : Fits (l.set k b) (ws.set (k / 64) x) := by
  have hw := h.1
  refine ⟨by simpa using h.1, fun i j hj => ?_⟩
  rw [List.getD_eq_getElem?_getD, List.getD_eq_getElem?_getD, List.getElem?_set, List.getElem?_set]
  by_cases e : k / 64 = i
  · subst e
    rw [if_pos rfl, if_pos (by omega), Option.getD_some, hx j hj]
    by_cases e2 : j = k % 64
    · rw [if_pos e2, if_pos (by omega), if_pos hk]; rfl
    · rw [if_neg e2, if_neg (by omega), h.2 _ j hj, List.getD_eq_getElem?_getD]
  · rw [if_neg e, if_neg (by omega), ← List.getD_eq_getElem?_getD, ← List.getD_eq_getElem?_getD]
    exact h.2 i j hj
theorem fits_one {l : List Bool} {xs ys : List (BitVec 64)} (h : Fits l xs) (k : Fits l ys) : xs = ys := by
  apply List.ext_getElem?
  intro i
  have hl : xs.length = ys.length := h.1.trans k.1.symm
  by_cases hi : i < xs.length
  · have e : xs.getD i 0#64 = ys.getD i 0#64 := BitVec.eq_of_getLsbD_eq (fun j hj => (h.2 i j hj).trans (k.2 i j hj).symm)
    rw [List.getD_eq_getElem?_getD, List.getD_eq_getElem?_getD, List.getElem?_eq_getElem hi, List.getElem?_eq_getElem (by omega)] at e
    rw [List.getElem?_eq_getElem hi, List.getElem?_eq_getElem (by omega)]
    exact congrArg some e
  · rw [List.getElem?_eq_none (by omega), List.getElem?_eq_none (by omega)]

theorem word_info : (Tryd.prog.info? 22).map (fun i => (i.zero, i.size, i.bytes)) = some (some (.int .u64 0), 1, 8) := by kernel_rfl
theorem word_size : (Tryd.prog.info? 22).map (·.size) = some 1 := by kernel_rfl
theorem int_info : (Tryd.prog.info? 3).map (fun i => (i.zero, i.size, i.bytes)) = some (some (.int .i64 0), 1, 8) := by kernel_rfl
theorem make_words (n : Nat) (hn : n ≤ 4096) (W : World) :
    (Instr.makeSlice 95 (.int .i64 (n : Int)) (.int .i64 (n : Int))).run Tryd.prog W = .ok (.slice (some ⟨W.heap.size, 0, none⟩) n n) (W.alloc (.cells (madeCells #[.int .u64 0] n) 22)) := by
  obtain ⟨i, hi, hp⟩ := Option.map_eq_some_iff.1 word_info
  simp only [Prod.mk.injEq] at hp
  obtain ⟨hz, hs, hb⟩ := hp
  have := run_make (P := Tryd.prog) W 95 22 i (.int .u64 0) Tryd.underlying95 hi hz .i64 .i64 n n (by omega) (by omega) (by rw [hb]; omega) (by omega)
  rw [hs] at this
  simpa [Value.cells] using this
theorem make_ints (n : Nat) (hn : n ≤ 4096) (W : World) :
    (Instr.makeSlice 30 (.int .i64 0) (.int .i64 (n : Int))).run Tryd.prog W = .ok (.slice (some ⟨W.heap.size, 0, none⟩) 0 n) (W.alloc (.cells (madeCells #[.int .i64 0] n) 3)) := by
  obtain ⟨i, hi, hp⟩ := Option.map_eq_some_iff.1 int_info
  simp only [Prod.mk.injEq] at hp
  obtain ⟨hz, hs, hb⟩ := hp
  have := run_make (P := Tryd.prog) W 30 3 i (.int .i64 0) Tryd.underlying30 hi hz .i64 .i64 0 n (by omega) (by omega) (by rw [hb]; omega) (by omega)
  rw [hs] at this
  simpa [Value.cells] using this
end Go.Proofs.YtaelfgdiboekpaaDoor.Bi

/-
  What the small functions do: contracts that the claimed proofs use.
-/
namespace Go.Proofs.YtaelfgdiboekpaaDoor.Bi
set_option maxRecDepth 100000
open Go.RowKit

/-- Is there such a bit? -/
def hasB (n : Nat) (k : Int) : Bool := decide (0 ≤ k ∧ k < n)
theorem hasB_iff {n : Nat} {k : Int} : hasB n k = true ↔ 0 ≤ k ∧ k < n := by simp [hasB]
theorem hasB_not {n : Nat} {k : Int} : hasB n k = false ↔ ¬ (0 ≤ k ∧ k < n) := by simp only [hasB, decide_eq_false_iff_not]
theorem has_any (q n : Nat) (k : Int) (w : World) (hc : w.cell? ⟨q, 0, none⟩ = some (.int .i64 (n : Int))) :
    Calls Tryd.prog 89 #[.pointer (some ⟨q, 0, none⟩), .int .i64 k] w fun e w' => e = .returned (.bool (hasB n k)) ∧ w = w' := by
  by_cases h0 : 0 ≤ k
  · go_enter Tryd.func89, Tryd.ntmps89
    go_wp2
    go_ret
    exact ⟨ret_b (by unfold hasB; rw [decide_eq_decide]; omega), rfl⟩
  · have hd : decide (0 ≤ k) = false := by simpa using h0
    go_enter Tryd.func89, Tryd.ntmps89
    go_wp2
    go_ret
    exact ⟨ret_b (by unfold hasB; symm; rw [decide_eq_false_iff_not]; omega), rfl⟩
theorem bit_raw (k : Nat) : IntKind.u64.wrap (2 ^ k) = u (1#64 <<< k) := by
  have := shl_u 1#64 k
  rwa [show u 1#64 = 1 from rfl, Int.one_mul] at this
theorem bit_any (k : Nat) (hk : k ≤ 4096) (w : World) :
    Calls Tryd.prog 90 #[.int .i64 (k : Int)] w fun e w' => e = .returned (.int .u64 (u (1#64 <<< (k % 64)))) ∧ w = w' := by
  go_enter Tryd.func90, Tryd.ntmps90
  go_wp2
  go_ret
  exact ⟨ret_u (bit_raw _), rfl⟩

/-! ### The library's two -/
theorem tz_key (x a : Nat) (hx : x < 18446744073709551616) (hx0 : x ≠ 0) (hlow : x &&& (18446744073709551616 - x) = a) :
    IntKind.u64.wrap (bits BinOp.and IntKind.u64 (x : Int) (IntKind.u64.wrap (-(x : Int))) * 285870213051353865) / 288230376151711744 = ((a * 285870213051353865 % 18446744073709551616 / 288230376151711744 : Nat) : Int) := by
  have e1 : IntKind.u64.wrap (-(x : Int)) = ((18446744073709551616 - x : Nat) : Int) := by rw [IntKind.wrap_u64]; omega
  rw [e1, u64_and_nat x _ hx (by omega), hlow, IntKind.wrap_u64]
  omega
theorem ones_raw1 (n : Nat) (hn : n < 18446744073709551616) :
    IntKind.u64.wrap (bits .and .u64 ((n : Int) / 2) 6148914691236517205 + bits .and .u64 (n : Int) 6148914691236517205) = ((((n / 2) &&& 6148914691236517205) + (n &&& 6148914691236517205) : Nat) : Int) := by
  have e1 : (n : Int) / 2 = ((n / 2 : Nat) : Int) := by omega
  have h1 : (n / 2) &&& 6148914691236517205 ≤ 6148914691236517205 := Nat.and_le_right
  have h2 : n &&& 6148914691236517205 ≤ 6148914691236517205 := Nat.and_le_right
  have k1 := u64_and_nat (n / 2) 6148914691236517205 (by omega) (by omega)
  have k2 := u64_and_nat n 6148914691236517205 hn (by omega)
  rw [e1, show (6148914691236517205 : Int) = ((6148914691236517205 : Nat) : Int) from rfl, k1, k2, IntKind.wrap_u64]
  omega
theorem ones_raw2 (n : Nat) (hn : n < 18446744073709551616) :
    IntKind.u64.wrap (bits .and .u64 ((n : Int) / 4) 3689348814741910323 + bits .and .u64 (n : Int) 3689348814741910323) = ((((n / 4) &&& 3689348814741910323) + (n &&& 3689348814741910323) : Nat) : Int) := by
  have e1 : (n : Int) / 4 = ((n / 4 : Nat) : Int) := by omega
  have h1 : (n / 4) &&& 3689348814741910323 ≤ 3689348814741910323 := Nat.and_le_right
  have h2 : n &&& 3689348814741910323 ≤ 3689348814741910323 := Nat.and_le_right
  have k1 := u64_and_nat (n / 4) 3689348814741910323 (by omega) (by omega)
  have k2 := u64_and_nat n 3689348814741910323 hn (by omega)
  rw [e1, show (3689348814741910323 : Int) = ((3689348814741910323 : Nat) : Int) from rfl, k1, k2, IntKind.wrap_u64]
  omega
theorem ones_raw3 (n : Nat) (hn : n ≤ 7378697629483820646) :
    bits .and .u64 (IntKind.u64.wrap ((n : Int) / 16 + (n : Int))) 1085102592571150095 = (((n / 16 + n) &&& 1085102592571150095 : Nat) : Int) := by
  have e1 : IntKind.u64.wrap ((n : Int) / 16 + (n : Int)) = ((n / 16 + n : Nat) : Int) := by rw [IntKind.wrap_u64]; omega
  have k1 := u64_and_nat (n / 16 + n) 1085102592571150095 (by omega) (by omega)
  rw [e1, show (1085102592571150095 : Int) = ((1085102592571150095 : Nat) : Int) from rfl, k1]
theorem ones_raw4 (c s : Nat) (h : End4 c s) :
    bits .and .i64 (wrap64 (IntKind.u64.wrap (IntKind.u64.wrap (IntKind.u64.wrap ((c : Int) + (c : Int) / 256) + IntKind.u64.wrap ((c : Int) + (c : Int) / 256) / 65536) + IntKind.u64.wrap (IntKind.u64.wrap ((c : Int) + (c : Int) / 256) + IntKind.u64.wrap ((c : Int) + (c : Int) / 256) / 65536) / 4294967296))) 127 = (s : Int) := by
  obtain ⟨_, h1, h2, h3, h4⟩ := h
  have e1 : IntKind.u64.wrap ((c : Int) + (c : Int) / 256) = ((c + c / 256 : Nat) : Int) := by rw [IntKind.wrap_u64]; omega
  rw [e1]
  clear e1
  generalize c + c / 256 = d at *
  have e2 : IntKind.u64.wrap ((d : Int) + (d : Int) / 65536) = ((d + d / 65536 : Nat) : Int) := by rw [IntKind.wrap_u64]; omega
  rw [e2]
  clear e2
  generalize d + d / 65536 = e at *
  have e3 : IntKind.u64.wrap ((e : Int) + (e : Int) / 4294967296) = ((e + e / 4294967296 : Nat) : Int) := by rw [IntKind.wrap_u64]; omega
  rw [e3]
  clear e3
  generalize e + e / 4294967296 = f at *
  have e4 : wrap64 ((f : Nat) : Int) = (f : Int) := by unfold wrap64; omega
  rw [e4, i64_and127]
  omega
end Go.Proofs.YtaelfgdiboekpaaDoor.Bi

/-
  What Test, Set and Clear do: contracts that the claimed proofs use.
-/
namespace Go.Proofs.YtaelfgdiboekpaaDoor.Bi
set_option maxRecDepth 100000
open Go.RowKit

theorem andNot_u (a b : BitVec 64) : bits .andNot .u64 (u a) (u b) = u (a &&& ~~~ b) := by
  unfold u; rw [u64_andNot_nat _ _ a.isLt b.isLt, BitVec.toNat_and, BitVec.toNat_not]
def Drawn (w wr : World) : Prop := ∃ j, wr = w.drewN j
theorem Drawn.refl (w : World) : Drawn w w := ⟨0, rfl⟩
theorem Drawn.on {w wr : World} (h : Drawn w wr) (n : Nat) : Drawn w (wr.drewN n) := by
  obtain ⟨j, rfl⟩ := h; exact ⟨j + n, by rw [World.drewN_drewN]⟩
theorem Drawn.trans {a b c : World} (h : Drawn a b) (k : Drawn b c) : Drawn a c := by
  obtain ⟨j, rfl⟩ := k; exact h.on j
theorem Drawn.below {w wr : World} (h : Drawn w wr) : Below w.heap.size w wr := by
  obtain ⟨j, rfl⟩ := h; exact up_drew (Below.refl _ w) j
theorem drewN_heap (w : World) : ∀ j, (w.drewN j).heap = w.heap
  | 0 => rfl
  | j + 1 => drewN_heap w j
theorem Drawn.heap {w wr : World} (h : Drawn w wr) : wr.heap = w.heap := by
  obtain ⟨j, rfl⟩ := h; exact drewN_heap w j

theorem bit_word (x : BitVec 64) (k : Nat) (hk : k < 64) : (x &&& (1#64 <<< k) != 0#64) = x.getLsbD k := by
  cases h : x.getLsbD k
  · simp only [bne_eq_false_iff_eq]
    apply BitVec.eq_of_getLsbD_eq
    intro j hj
    rw [BitVec.getLsbD_and, BitVec.getLsbD_shiftLeft, BitVec.getLsbD_zero]
    by_cases e : j = k
    · subst e; simp [h]
    · by_cases e2 : j < k
      · simp [e2]
      · have : j - k ≠ 0 := by omega
        simp [this]
  · simp only [bne_iff_ne]
    intro e
    have := congrArg (fun z => z.getLsbD k) e
    rw [BitVec.getLsbD_and, BitVec.getLsbD_shiftLeft] at this
    rw [h] at this
    simp [hk] at this
theorem bit_raw2 (x : BitVec 64) (k : Nat) (hk : k < 64) : (bits .and .u64 (u x) (u (1#64 <<< k)) != 0) = x.getLsbD k := by
  rw [and_u, show (0 : Int) = u 0#64 from rfl, u_bne, bit_word x k hk]

theorem tdiv64 (k : Nat) : (k : Int).tdiv 64 = ((k / 64 : Nat) : Int) := by rw [Int.tdiv_eq_ediv_of_nonneg (by omega)]; omega
/-- Is a bit set? -/
def tst (l : List Bool) (k : Int) : Bool := hasB l.length k && l.getD k.toNat false
theorem tst_nat (l : List Bool) (k : Nat) : tst l (k : Int) = l.getD k false := by
  unfold tst
  by_cases h : k < l.length
  · rw [hasB_iff.2 (by omega)]; simp
  · rw [hasB_not.2 (by omega), Bool.false_and, List.getD_eq_getElem?_getD, List.getElem?_eq_none (by omega)]; rfl
theorem has_quiet (q n : Nat) (k : Int) (b : Bool) (w : World) (a : Nat) (hc : w.cell? ⟨q, 0, none⟩ = some (.int .i64 (n : Int))) (hb : hasB n k = b) :
    Calls Tryd.prog 89 #[.pointer (some ⟨q, 0, none⟩), .int .i64 k] (w.drewN a) fun e w' => e = .returned (.bool b) ∧ ∃ m, w' = w.drewN m :=
  (has_any q n k _ (((up_drew (Below.refl _ w) a).cell (World.block_lt_of_cell? w _ hc)).trans hc)).mono fun _ _ ⟨he, hw⟩ => ⟨hb ▸ he, a, hw.symm⟩
theorem bit_quiet (k : Nat) (w : World) (a : Nat) (hk : k ≤ 4096) :
    Calls Tryd.prog 90 #[.int .i64 (k : Int)] (w.drewN a) fun e w' => e = .returned (.int .u64 (u (1#64 <<< (k % 64)))) ∧ ∃ m, w' = w.drewN m :=
  (bit_any k hk _).mono fun _ _ ⟨he, hw⟩ => ⟨he, a, hw.symm⟩

theorem test_no (q n : Nat) (k : Int) (w : World) (hc : w.cell? ⟨q, 0, none⟩ = some (.int .i64 (n : Int))) (hno : hasB n k = false) :
    Calls Tryd.prog 56 #[.pointer (some ⟨q, 0, none⟩), .int .i64 k] w fun e w' => e = .returned (.bool false) ∧ Drawn w w' := by
  go_enter Tryd.func56, Tryd.ntmps56
  go_wp2_with fail
  go_quiet ((go_at_call 89; exact has_quiet q n _ _ _ _ hc hno))
  go_wp2
  go_ret
  exact ⟨rfl, _, rfl⟩
theorem test_yes (q g n L k : Nat) (x : BitVec 64) (w : World) (hc : w.cell? ⟨q, 0, none⟩ = some (.int .i64 (n : Int))) (hs : w.cell? ⟨q, 1, none⟩ = some (.slice (some ⟨g, 0, none⟩) L L))
    (hx : w.cell? ⟨g, k / 64, none⟩ = some (.int .u64 (u x))) (hk : k < n) (hn : n ≤ 4096) (hL : k / 64 < L) :
    Calls Tryd.prog 56 #[.pointer (some ⟨q, 0, none⟩), .int .i64 (k : Int)] w fun e w' => e = .returned (.bool (x.getLsbD (k % 64))) ∧ Drawn w w' := by
  have hy : hasB n (k : Int) = true := hasB_iff.2 (by omega)
  have e1 := tdiv64 k
  obtain ⟨i, hi⟩ : ∃ i, k / 64 = i := ⟨_, rfl⟩
  rw [hi] at hx hL e1
  have HI := Lib.hid hi
  have k1 : (0 : Int) ≤ (i : Int) := by omega
  have k2 : (i : Int) < (L : Int) := by omega
  have hwi := i64_in (i : Int) (by omega) (by omega)
  clear hi
  go_enter Tryd.func56, Tryd.ntmps56
  go_wp2_with fail
  go_quiet ((first | (go_at_call 89; exact has_quiet q n _ _ _ _ hc hy) | (go_at_call 90; exact bit_quiet k _ _ (by omega))))
  go_wp2
  go_ret
  exact ⟨ret_b (bit_raw2 x (k % 64) (by omega)), _, rfl⟩
theorem fits_lt {l : List Bool} {ws : List (BitVec 64)} (h : Fits l ws) {k : Nat} (hk : k < l.length) : k / 64 < ws.length := by have := h.1; omega
theorem fits_at {l : List Bool} {ws : List (BitVec 64)} (h : Fits l ws) (k : Nat) : (ws.getD (k / 64) 0#64).getLsbD (k % 64) = l.getD k false := by
  rw [h.2 _ _ (by omega)]; congr 1; omega
theorem test_any (q g : Nat) (l : List Bool) (ws : List (BitVec 64)) (k : Int) (w : World) (hm : Bits w q g l ws) :
    Calls Tryd.prog 56 #[.pointer (some ⟨q, 0, none⟩), .int .i64 k] w fun e w' => e = .returned (.bool (tst l k)) ∧ Drawn w w' := by
  unfold tst
  cases h : hasB l.length k
  · exact test_no q _ k w hm.n h
  · obtain ⟨h0, h1⟩ := hasB_iff.1 h
    obtain ⟨k, rfl⟩ := Int.eq_ofNat_of_zero_le h0
    have hk : k < l.length := by omega
    have := test_yes q g _ _ k _ w hm.n hm.words (hm.word (fits_lt hm.2.2.1 hk)) hk hm.2.2.2.1 (fits_lt hm.2.2.1 hk)
    rw [fits_at hm.2.2.1] at this
    simpa using this

/-- What is left behind a row whose bits have been turned. -/
def Turned (q g : Nat) (l : List Bool) (b : Bool) (w : World) (e : Ending) (w' : World) : Prop :=
  e = .returned (.bool b) ∧ (∃ ws, Bits w' q g l ws) ∧ w.grownBy w' (some g)
/-- A word of a row has been turned. -/
def Put (g i : Nat) (x : BitVec 64) (w : World) (e : Ending) (w' : World) : Prop := e = .returned (.bool true) ∧ ∃ wd, Drawn w wd ∧ Drawn (wd.setCell ⟨g, i, none⟩ (.int .u64 (u x))) w'
theorem ret_put {g i : Nat} {x : BitVec 64} {v : Int} {w wd : World} (hd : Drawn w wd) (e : v = u x) : Put g i x w (.returned (.bool true)) (wd.setCell ⟨g, i, none⟩ (.int .u64 v)).drew :=
  ⟨rfl, wd, hd, 1, by rw [e]; rfl⟩
theorem set_yes (q g n L k : Nat) (x : BitVec 64) (w : World) (hc : w.cell? ⟨q, 0, none⟩ = some (.int .i64 (n : Int))) (hs : w.cell? ⟨q, 1, none⟩ = some (.slice (some ⟨g, 0, none⟩) L L))
    (hx : w.cell? ⟨g, k / 64, none⟩ = some (.int .u64 (u x))) (hk : k < n) (hn : n ≤ 4096) (hL : k / 64 < L) (hoff : x.getLsbD (k % 64) = false) (hfz : w.frozen? ⟨g, k / 64, none⟩ = false) :
    Calls Tryd.prog 55 #[.pointer (some ⟨q, 0, none⟩), .int .i64 (k : Int)] w (Put g (k / 64) (x ||| 1#64 <<< (k % 64)) w) := by
  have hy : hasB n (k : Int) = true := hasB_iff.2 (by omega)
  have ht := test_yes q g n L k x w hc hs hx hk hn hL
  rw [hoff] at ht
  have HT := Lib.hid ht
  have e1 := tdiv64 k
  obtain ⟨i, hi⟩ : ∃ i, k / 64 = i := ⟨_, rfl⟩
  rw [hi] at hx hL e1 hfz ⊢
  have HI := Lib.hid hi
  have k1 : (0 : Int) ≤ (i : Int) := by omega
  have k2 : (i : Int) < (L : Int) := by omega
  have hwi := i64_in (i : Int) (by omega) (by omega)
  clear hi ht hoff
  go_enter Tryd.func55, Tryd.ntmps55
  go_wp2_with fail
  refine (has_any q n _ _ hc).mono ?_; rw [hy]; rintro e w' ⟨rfl, rfl⟩
  go_wp2_with fail
  refine HT.out.mono ?_; rintro e w' ⟨rfl, hdr⟩
  have HC := Lib.hid hc
  have r1 := (hdr.below.cell (World.block_lt_of_cell? w _ hs)).trans hs
  have r2 := (hdr.below.cell (World.block_lt_of_cell? w _ hx)).trans hx
  have r3 : w'.frozen? ⟨g, i, none⟩ = false := by rw [World.frozen?, hdr.heap]; exact hfz
  have HD := Lib.hid hdr
  clear hdr hc hs hx hfz
  go_wp2_with fail
  go_region_law (first | (go_simp; go_at_call 90; refine (bit_any k (by omega) _).mono ?_; rintro e w' ⟨rfl, rfl⟩))
  all_goals go_wp2
  all_goals go_ret
  all_goals exact ret_put HD.out (or_u _ _)
theorem set_was (q g n L k : Nat) (x : BitVec 64) (w : World) (hc : w.cell? ⟨q, 0, none⟩ = some (.int .i64 (n : Int))) (hs : w.cell? ⟨q, 1, none⟩ = some (.slice (some ⟨g, 0, none⟩) L L))
    (hx : w.cell? ⟨g, k / 64, none⟩ = some (.int .u64 (u x))) (hk : k < n) (hn : n ≤ 4096) (hL : k / 64 < L) (hon : x.getLsbD (k % 64) = true) :
    Calls Tryd.prog 55 #[.pointer (some ⟨q, 0, none⟩), .int .i64 (k : Int)] w fun e w' => e = .returned (.bool false) ∧ Drawn w w' := by
  have hy : hasB n (k : Int) = true := hasB_iff.2 (by omega)
  have ht := test_yes q g n L k x w hc hs hx hk hn hL
  rw [hon] at ht
  have HT := Lib.hid ht
  clear ht hon
  go_enter Tryd.func55, Tryd.ntmps55
  go_wp2_with fail
  refine (has_any q n _ _ hc).mono ?_; rw [hy]; rintro e w' ⟨rfl, rfl⟩
  go_wp2_with fail
  refine HT.out.mono ?_; rintro e w' ⟨rfl, hdr⟩
  go_wp2
  go_ret
  exact ⟨rfl, hdr⟩
theorem set_no (q n : Nat) (k : Int) (w : World) (hc : w.cell? ⟨q, 0, none⟩ = some (.int .i64 (n : Int))) (hno : hasB n k = false) :
    Calls Tryd.prog 55 #[.pointer (some ⟨q, 0, none⟩), .int .i64 k] w fun e w' => e = .returned (.bool false) ∧ Drawn w w' := by
  go_enter Tryd.func55, Tryd.ntmps55
  go_wp2_with fail
  refine (has_any q n _ _ hc).mono ?_; rw [hno]; rintro e w' ⟨rfl, rfl⟩
  go_wp2
  go_ret
  exact ⟨rfl, Drawn.refl _⟩
theorem put_turned {q g k : Nat} {l : List Bool} {ws : List (BitVec 64)} {w : World} {b : Bool} {x : BitVec 64} (hm : Bits w q g l ws) (hk : k < l.length)
    (hx : ∀ j, j < 64 → x.getLsbD j = if j = k % 64 then b else (ws.getD (k / 64) 0#64).getLsbD j) {e : Ending} {w' : World} (h : Put g (k / 64) x w e w') :
    Turned q g (l.set k b) true w e w' := by
  obtain ⟨rfl, wd, hd, hd2⟩ := h
  have g1 : w.grownBy (wd.setCell ⟨g, k / 64, none⟩ (.int .u64 (u x))) (some g) := grown_set (grown_below hd.below)
  have g2 : w.grownBy w' (some g) := grown_trans g1 (grown_below hd2.below)
  refine ⟨rfl, ⟨ws.set (k / 64) x, ?_, ?_, fits_set hm.2.2.1 k hk b x hx, by simpa using hm.2.2.2.1, hm.2.2.2.2⟩, g2⟩
  · have := hm.1.far g2 hm.ne
    simpa using this
  · have h1 : Blk wd g (wrow ws) 22 := hm.2.1.below hd.below
    have h2 := h1.set (i := k / 64) (.int .u64 (u x))
    rw [wrow_set] at h2
    exact h2.below hd2.below
theorem drawn_turned {q g : Nat} {l l' : List Bool} {ws : List (BitVec 64)} {w : World} (hm : Bits w q g l ws) (hl : l' = l) {e : Ending} {w' : World} (h : e = .returned (.bool false) ∧ Drawn w w') : Turned q g l' false w e w' := by
  subst hl
  exact ⟨h.1, ⟨ws, hm.below h.2.below⟩, grown_below h.2.below⟩
/-- The row behind Set or Clear, and what is answered. -/
def setL (l : List Bool) (k : Int) (b : Bool) : List Bool := if hasB l.length k then l.set k.toNat b else l
def setB (l : List Bool) (k : Int) (b : Bool) : Bool := hasB l.length k && (l.getD k.toNat false != b)
theorem setL_length (l : List Bool) (k : Int) (b : Bool) : (setL l k b).length = l.length := by unfold setL; split <;> simp
theorem set_same (l : List Bool) (k : Nat) (b : Bool) (h : l.getD k false = b) (hk : k < l.length) : l.set k b = l := by
  apply List.ext_getElem?
  intro i
  rw [List.getElem?_set]
  split
  · rename_i e
    subst e
    first | rw [if_pos hk] | skip
    rw [← h, List.getD_eq_getElem?_getD, List.getElem?_eq_getElem hk]; rfl
  · rfl
theorem set_any (q g : Nat) (l : List Bool) (ws : List (BitVec 64)) (k : Int) (w : World) (hm : Bits w q g l ws) :
    Calls Tryd.prog 55 #[.pointer (some ⟨q, 0, none⟩), .int .i64 k] w (Turned q g (setL l k true) (setB l k true) w) := by
  unfold setL setB
  cases h : hasB l.length k
  · rw [if_neg (by simp)]
    exact (set_no q _ k w hm.n h).mono fun e w' he => drawn_turned hm rfl he
  · obtain ⟨h0, h1⟩ := hasB_iff.1 h
    obtain ⟨k, rfl⟩ := Int.eq_ofNat_of_zero_le h0
    have hk : k < l.length := by omega
    have hw := fits_lt hm.2.2.1 hk
    rw [if_pos rfl, Int.toNat_natCast, Bool.true_and]
    cases hb : l.getD k false
    · refine (set_yes q g _ _ k _ w hm.n hm.words (hm.word hw) hk hm.2.2.2.1 hw (by rw [fits_at hm.2.2.1]; exact hb) (hm.2.1.frozen _)).mono fun e w' he => put_turned hm hk (fun j hj => ?_) he
      rw [BitVec.getLsbD_or, BitVec.getLsbD_shiftLeft]
      by_cases e : j = k % 64
      · subst e; simp [hj]
      · rw [if_neg e]
        by_cases e2 : j < k % 64
        · simp [e2]
        · have : j - k % 64 ≠ 0 := by omega
          simp [this]
    · refine (set_was q g _ _ k _ w hm.n hm.words (hm.word hw) hk hm.2.2.2.1 hw (by rw [fits_at hm.2.2.1]; exact hb)).mono fun e w' he => drawn_turned hm (set_same l k true hb hk) he
end Go.Proofs.YtaelfgdiboekpaaDoor.Bi
