import Derived.Laws.BitsAllLaws
import Derived.Laws.BitsLemmas
import Derived.Laws.CopyOwn
import Derived.Lib.TrailingZeros
import Derived.Test.YtckcgaliphpgeaaGreatDoorRows
import Derived.WalkKit
import Derived.WalkSpells
import Derived.WalkLawsBesides
import Derived.Deep.QuietTactic
import Derived.BigQuiet
import Derived.Deep.RegionHeld3
import Derived.Deep.RegionLaw
import Derived.Deep.AppendLies
import Derived.Laws.AppendOwnNone
import Derived.Deep.OwnRows
import Derived.Lib.Hide
import Derived.Laws.Bits128
import Derived.ChangeKeysEq
import Derived.Laws.StructEq
/-
  Plain facts on words and rows of bits, of which no statement of its own is claimed: words as bit vectors, the places of set bits, how many there are.
-/
namespace Go.Proofs.YtckcgaliphpgeaaGreatDoor.Bi
set_option maxRecDepth 100000

/-- A word as the number that it is. -/
def u (x : BitVec 64) : Int := (x.toNat : Int)
theorem u_inj {a b : BitVec 64} (h : u a = u b) : a = b := by
  unfold u at h; exact BitVec.eq_of_toNat_eq (by omega)
theorem u_beq (a b : BitVec 64) : (u a == u b) = (a == b) := by
  rw [Bool.eq_iff_iff]; simp only [beq_iff_eq]; exact ⟨u_inj, fun h => by rw [h]⟩
theorem u_bne (a b : BitVec 64) : (u a != u b) = (a != b) := by rw [bne, bne, u_beq]
theorem u_of (n : Int) (h0 : 0 ≤ n) (h1 : n < 18446744073709551616) : ∃ x : BitVec 64, n = u x :=
  ⟨BitVec.ofNat 64 n.toNat, by unfold u; rw [BitVec.toNat_ofNat, Nat.mod_eq_of_lt (by omega)]; omega⟩
theorem and_u (a b : BitVec 64) : bits .and .u64 (u a) (u b) = u (a &&& b) := by
  unfold u; rw [u64_and_nat _ _ a.isLt b.isLt, BitVec.toNat_and]
theorem or_u (a b : BitVec 64) : bits .or .u64 (u a) (u b) = u (a ||| b) := by
  unfold u; rw [u64_or_nat _ _ a.isLt b.isLt, BitVec.toNat_or]
theorem shl_u (x : BitVec 64) (n : Nat) : IntKind.u64.wrap (u x * 2 ^ n) = u (x <<< n) := by
  unfold u; rw [IntKind.wrap_u64, BitVec.toNat_shiftLeft, Nat.shiftLeft_eq]
  have : ((x.toNat : Int) * 2 ^ n) = ((x.toNat * 2 ^ n : Nat) : Int) := by rw [Int.natCast_mul, Int.natCast_pow]; rfl
  rw [this]; omega
theorem shr_u (x : BitVec 64) (n : Nat) : u x / 2 ^ n = u (x >>> n) := by
  unfold u; rw [BitVec.toNat_ushiftRight, Nat.shiftRight_eq_div_pow]
  have : ((2 : Int) ^ n) = ((2 ^ n : Nat) : Int) := by rw [Int.natCast_pow]; rfl
  rw [this, Int.natCast_ediv]
theorem mul_u (a b : BitVec 64) : IntKind.u64.wrap (u a * u b) = u (a * b) := by
  unfold u; rw [IntKind.wrap_u64, BitVec.toNat_mul, ← Int.natCast_mul]; omega
theorem add_u (a b : BitVec 64) : IntKind.u64.wrap (u a + u b) = u (a + b) := by
  unfold u; rw [IntKind.wrap_u64, BitVec.toNat_add]; omega
theorem sub_u (a b : BitVec 64) : IntKind.u64.wrap (u a - u b) = u (a - b) := by
  unfold u; rw [IntKind.wrap_u64, BitVec.toNat_sub]; have := a.isLt; have := b.isLt; omega


/-! ### The places of set bits -/
def on (b : Nat → Bool) (n : Nat) : List Nat := (List.range n).filter b
theorem on_zero (b : Nat → Bool) : on b 0 = [] := rfl
theorem on_succ (b : Nat → Bool) (n : Nat) : on b (n + 1) = on b n ++ if b n then [n] else [] := by
  unfold on; rw [List.range_succ, List.filter_append]; congr 1; cases h : b n <;> simp [h]
theorem on_add (b : Nat → Bool) (n m : Nat) : on b (n + m) = on b n ++ (on (fun j => b (n + j)) m).map (n + ·) := by
  induction m with
  | zero => simp [on]
  | succ m ih =>
    rw [← Nat.add_assoc, on_succ, ih, on_succ, List.map_append, List.append_assoc]
    congr 2
    cases b (n + m) <;> simp
theorem on_congr {b c : Nat → Bool} : ∀ {n : Nat}, (∀ j, j < n → b j = c j) → on b n = on c n
  | 0, _ => rfl
  | n + 1, h => by rw [on_succ, on_succ, on_congr (fun j hj => h j (by omega)), h n (by omega)]
theorem on_none {b : Nat → Bool} : ∀ {n : Nat}, (∀ j, j < n → b j = false) → on b n = []
  | 0, _ => rfl
  | n + 1, h => by rw [on_succ, on_none (fun j hj => h j (by omega)), h n (by omega)]; rfl
theorem mem_on {b : Nat → Bool} {n k : Nat} : k ∈ on b n ↔ k < n ∧ b k = true := by simp [on]
theorem on_split (b : Nat → Bool) (k : Nat) (h0 : ∀ j, j < k → b j = false) (h1 : b k = true) : ∀ d, on b (k + 1 + d) = k :: on (fun j => b j && j != k) (k + 1 + d)
  | 0 => by
    rw [Nat.add_zero, on_succ, on_none h0, h1, on_none]
    · rfl
    · intro j hj
      by_cases e : j = k
      · subst e; simp
      · rw [h0 j (by omega)]; rfl
  | d + 1 => by
    rw [← Nat.add_assoc, on_succ, on_split b k h0 h1 d, on_succ _ (k + 1 + d)]
    have e : (k + 1 + d != k) = true := by simp; omega
    rw [e, Bool.and_true]; rfl
theorem on_length_le (b : Nat → Bool) (n : Nat) : (on b n).length ≤ n := by
  have := List.length_filter_le b (List.range n); simpa [on] using this
/-- Bits that none is set beyond. -/
theorem on_more {b : Nat → Bool} {n m : Nat} (hm : n ≤ m) (h : ∀ j, n ≤ j → b j = false) : on b m = on b n := by
  obtain ⟨d, rfl⟩ : ∃ d, m = n + d := ⟨m - n, by omega⟩
  rw [on_add, on_none (fun j _ => h (n + j) (by omega))]; simp

/-- The set bits of a word. -/
def sw (x : BitVec 64) : List Nat := on x.getLsbD 64
theorem sw_zero : sw 0#64 = [] := on_none (fun j _ => by simp)
theorem low_bit (x : BitVec 64) (hx : x ≠ 0#64) : ∃ m, x.toNat = 2 ^ (Lib.ctz 64 x.toNat + 1) * m + 2 ^ Lib.ctz 64 x.toNat ∧ Lib.ctz 64 x.toNat < 64 := by
  have h0 : x.toNat ≠ 0 := fun e => hx (BitVec.eq_of_toNat_eq (by simpa using e))
  obtain ⟨m, hm, hk⟩ := Lib.ctzFrom_spec 64 x.toNat (by omega) x.isLt
  have e : Lib.ctz 64 x.toNat = Lib.ctzFrom 64 x.toNat := by simp [Lib.ctz, h0]
  rw [e]
  refine ⟨m, ?_, hk⟩
  have e2 : 2 ^ (Lib.ctzFrom 64 x.toNat + 1) * m + 2 ^ Lib.ctzFrom 64 x.toNat = 2 ^ Lib.ctzFrom 64 x.toNat * (2 * m + 1) := by
    rw [Nat.pow_succ, Nat.mul_add, Nat.mul_assoc, Nat.mul_one]
  rw [e2]; exact hm
theorem bit_at (x : BitVec 64) (k m j : Nat) (h : x.toNat = 2 ^ (k + 1) * m + 2 ^ k) : x.getLsbD j = if j < k + 1 then decide (k = j) else m.testBit (j - (k + 1)) := by
  rw [BitVec.getLsbD, h, Nat.testBit_two_pow_mul_add _ (Nat.pow_lt_pow_right (by decide) (by omega)), Nat.testBit_two_pow]
theorem low_is (x : BitVec 64) (hx : x ≠ 0#64) : x.getLsbD (Lib.ctz 64 x.toNat) = true ∧ ∀ j, j < Lib.ctz 64 x.toNat → x.getLsbD j = false := by
  obtain ⟨m, hm, hk⟩ := low_bit x hx
  refine ⟨?_, fun j hj => ?_⟩
  · rw [bit_at x _ m _ hm, if_pos (by omega)]; simp
  · rw [bit_at x _ m _ hm, if_pos (by omega)]; simp; omega
theorem drop_bit (x : BitVec 64) (hx : x ≠ 0#64) (j : Nat) : (x &&& (x - 1#64)).getLsbD j = (x.getLsbD j && j != Lib.ctz 64 x.toNat) := by
  obtain ⟨m, hm, hk⟩ := low_bit x hx
  generalize Lib.ctz 64 x.toNat = k at hm hk ⊢
  have hp : 0 < 2 ^ k := Nat.two_pow_pos k
  have e : (x - 1#64).toNat = 2 ^ (k + 1) * m + (2 ^ k - 1) := by
    rw [BitVec.toNat_sub]
    have := x.isLt
    have e1 : (1#64).toNat = 1 := rfl
    rw [e1, hm]
    omega
  have hlt : 2 ^ k - 1 < 2 ^ (k + 1) := by rw [Nat.pow_succ]; omega
  rw [BitVec.getLsbD_and, bit_at x k m j hm]
  have e2 : (x - 1#64).getLsbD j = if j < k + 1 then decide (j < k) else m.testBit (j - (k + 1)) := by
    rw [BitVec.getLsbD, e, Nat.testBit_two_pow_mul_add _ hlt, Nat.testBit_two_pow_sub_one]
  rw [e2]
  by_cases h1 : j < k + 1
  · rw [if_pos h1, if_pos h1]
    by_cases h2 : j = k
    · subst h2; simp
    · have : ¬ k = j := fun e => h2 e.symm
      simp [this]
  · rw [if_neg h1, if_neg h1]
    have : (j != k) = true := by simp; omega
    rw [this]; simp
/-- The lowest set bit, and the others. -/
theorem sw_cons (x : BitVec 64) (hx : x ≠ 0#64) : sw x = Lib.ctz 64 x.toNat :: sw (x &&& (x - 1#64)) := by
  obtain ⟨m, hm, hk⟩ := low_bit x hx
  obtain ⟨h1, h0⟩ := low_is x hx
  obtain ⟨d, hd⟩ : ∃ d, 64 = Lib.ctz 64 x.toNat + 1 + d := ⟨63 - Lib.ctz 64 x.toNat, by omega⟩
  have a := on_split x.getLsbD _ h0 h1 d
  rw [← hd] at a
  unfold sw
  rw [a]
  congr 1
  exact on_congr (fun j _ => (drop_bit x hx j).symm)
theorem sw_ne (x : BitVec 64) (h : sw x ≠ []) : x ≠ 0#64 := fun e => h (by rw [e, sw_zero])
theorem sw_nil {x : BitVec 64} (h : sw x = []) : x = 0#64 := by
  apply Classical.byContradiction
  intro hx
  rw [sw_cons x hx] at h
  cases h
end Go.Proofs.YtckcgaliphpgeaaGreatDoor.Bi

/-
  How many bits of a word are set, reckoned as the library does it: a plain fact that the claimed proofs use.
-/
namespace Go.Proofs.YtckcgaliphpgeaaGreatDoor.Bi
set_option maxRecDepth 100000

def dig (g : Nat → Nat) : Nat → Nat → Nat
  | 0, _ => 0
  | k + 1, x => g (x % 256) + 256 * dig g k (x / 256)
def sm (g : Nat → Nat) : Nat → Nat → Nat
  | 0, _ => 0
  | k + 1, x => g (x % 256) + sm g k (x / 256)
def mk (c : Nat) : Nat → Nat
  | 0 => 0
  | k + 1 => c + 256 * mk c k
theorem and_split (a b : Nat) : a &&& b = ((a % 256) &&& (b % 256)) + 256 * ((a / 256) &&& (b / 256)) := by
  have h1 : (a &&& b) % 2 ^ 8 = (a % 2 ^ 8) &&& (b % 2 ^ 8) := Nat.and_mod_two_pow
  have h2 : (a &&& b) / 2 ^ 8 = (a / 2 ^ 8) &&& (b / 2 ^ 8) := Nat.and_div_two_pow
  have h3 : (2 : Nat) ^ 8 = 256 := rfl
  rw [h3] at h1 h2
  rw [← h1, ← h2]
  omega
theorem mk_parts (c k : Nat) (h : c < 256) : mk c (k + 1) % 256 = c ∧ mk c (k + 1) / 256 = mk c k := by
  rw [mk]; omega
theorem one_shift : ∀ B, B < 256 → ∀ c, c < 2 → (B / 2 + 128 * c) &&& 85 = (B / 2) &&& 85 := by decide +kernel
theorem two_shift : ∀ B, B < 256 → ∀ c, c < 4 → (B / 4 + 64 * c) &&& 51 = (B / 4) &&& 51 := by decide +kernel
theorem four_shift : ∀ G, G < 256 → ∀ c, c < 5 → (G / 16 + 16 * c + G) &&& 15 = (G / 16 + G) &&& 15 := by decide +kernel
def g1 (B : Nat) : Nat := ((B / 2) &&& 85) + (B &&& 85)
def g2 (B : Nat) : Nat := ((B / 4) &&& 51) + (B &&& 51)
def g3 (B : Nat) : Nat := (B / 16 + B) &&& 15
theorem pass1 : ∀ k x, ((x / 2) &&& mk 85 k) + (x &&& mk 85 k) = dig g1 k x
  | 0, x => by simp [mk, dig]
  | k + 1, x => by
    obtain ⟨m1, m2⟩ := mk_parts 85 k (by omega)
    have ih := pass1 k (x / 256)
    rw [and_split (x / 2), and_split x, m1, m2, dig, ← ih, g1]
    have e1 : x / 2 % 256 = x % 256 / 2 + 128 * (x / 256 % 2) := by omega
    have e2 : x / 2 / 256 = x / 256 / 2 := by omega
    rw [e1, e2, one_shift _ (by omega) _ (by omega)]
    omega
theorem pass2 : ∀ k x, ((x / 4) &&& mk 51 k) + (x &&& mk 51 k) = dig g2 k x
  | 0, x => by simp [mk, dig]
  | k + 1, x => by
    obtain ⟨m1, m2⟩ := mk_parts 51 k (by omega)
    have ih := pass2 k (x / 256)
    rw [and_split (x / 4), and_split x, m1, m2, dig, ← ih, g2]
    have e1 : x / 4 % 256 = x % 256 / 4 + 64 * (x / 256 % 4) := by omega
    have e2 : x / 4 / 256 = x / 256 / 4 := by omega
    rw [e1, e2, two_shift _ (by omega) _ (by omega)]
    omega
theorem dig_low (g : Nat → Nat) (hg : ∀ B, B < 256 → g B % 16 ≤ 4) : ∀ k x, dig g k x % 16 ≤ 4
  | 0, x => by simp [dig]
  | k + 1, x => by
    have := hg (x % 256) (by omega)
    rw [dig]; omega
theorem pass3 (g : Nat → Nat) (hg : ∀ B, B < 256 → g B % 16 ≤ 4 ∧ g B / 16 ≤ 4) : ∀ k x, (dig g k x / 16 + dig g k x) &&& mk 15 k = dig (fun B => g3 (g B)) k x
  | 0, x => by simp [mk, dig]
  | k + 1, x => by
    obtain ⟨m1, m2⟩ := mk_parts 15 k (by omega)
    have ih := pass3 g hg k (x / 256)
    have hl := dig_low g (fun B hB => (hg B hB).1) k (x / 256)
    obtain ⟨a1, a2⟩ := hg (x % 256) (by omega)
    rw [and_split, m1, m2, dig, dig, ← ih, g3]
    generalize dig g k (x / 256) = d at *
    generalize g (x % 256) = G at *
    have e1 : ((G + 256 * d) / 16 + (G + 256 * d)) % 256 = G / 16 + 16 * (d % 16) + G := by omega
    have e2 : ((G + 256 * d) / 16 + (G + 256 * d)) / 256 = d / 16 + d := by omega
    rw [e1, e2, four_shift _ (by omega) _ (by omega)]
theorem dig_dig (g h : Nat → Nat) (hh : ∀ B, B < 256 → h B < 256) : ∀ k x, dig g k (dig h k x) = dig (fun B => g (h B)) k x
  | 0, x => rfl
  | k + 1, x => by
    have := hh (x % 256) (by omega)
    rw [dig, dig, dig]
    have e1 : (h (x % 256) + 256 * dig h k (x / 256)) % 256 = h (x % 256) := by omega
    have e2 : (h (x % 256) + 256 * dig h k (x / 256)) / 256 = dig h k (x / 256) := by omega
    rw [e1, e2, dig_dig g h hh k]
def g4 (B : Nat) : Nat := g3 (g2 (g1 B))
theorem g1_lt : ∀ B, B < 256 → g1 B < 256 := by decide +kernel
theorem g2_ok : ∀ B, B < 256 → g2 (g1 B) % 16 ≤ 4 ∧ g2 (g1 B) / 16 ≤ 4 := by decide +kernel
theorem g4_is : ∀ B, B < 256 → g4 B = (on B.testBit 8).length := by decide +kernel
theorem g4_le (B : Nat) (h : B < 256) : g4 B ≤ 8 := by rw [g4_is B h]; exact on_length_le _ _
theorem sm_is : ∀ k x, sm g4 k x = (on x.testBit (8 * k)).length
  | 0, x => rfl
  | k + 1, x => by
    rw [sm, sm_is k, show 8 * (k + 1) = 8 + 8 * k by omega, on_add, List.length_append, List.length_map, g4_is _ (by omega)]
    congr 2
    · exact on_congr (fun j hj => by rw [show (256 : Nat) = 2 ^ 8 from rfl, Nat.testBit_mod_two_pow]; simp [hj])
    · exact on_congr (fun j hj => by rw [show (256 : Nat) = 2 ^ 8 from rfl, Nat.testBit_div_two_pow, Nat.add_comm])
def swar (x : Nat) : Nat :=
  let a := ((x / 2) &&& 6148914691236517205) + (x &&& 6148914691236517205)
  let b := ((a / 4) &&& 3689348814741910323) + (a &&& 3689348814741910323)
  (b / 16 + b) &&& 1085102592571150095
theorem swar_is (x : Nat) : swar x = dig g4 8 x := by
  have m1 : mk 85 8 = 6148914691236517205 := by decide +kernel
  have m2 : mk 51 8 = 3689348814741910323 := by decide +kernel
  have m3 : mk 15 8 = 1085102592571150095 := by decide +kernel
  unfold swar
  simp only []
  rw [← m1, ← m2, ← m3, pass1, pass2, dig_dig g2 g1 g1_lt, pass3 _ g2_ok]
  rfl
theorem sum_a (c0 r c : Nat) (h0 : c0 ≤ 8) (hc : c = c0 + 256 * r) : c / 256 = r := by omega
theorem sum_b (c0 c1 r d : Nat) (h0 : c0 ≤ 16) (h1 : c1 ≤ 16) (hd : d = c0 + 256 * (c1 + 256 * r)) : d / 65536 = r := by omega
theorem sum_c (c0 c1 c2 c3 r d : Nat) (h0 : c0 ≤ 32) (h1 : c1 ≤ 32) (h2 : c2 ≤ 32) (h3 : c3 ≤ 32) (hd : d = c0 + 256 * (c1 + 256 * (c2 + 256 * (c3 + 256 * r)))) : d / 4294967296 = r := by omega
theorem sum_d (s r : Nat) (h : s ≤ 64) : (s + 256 * r) % 128 = s := by omega
def End4 (c s : Nat) : Prop := c < 18446744073709551616 ∧ c + c / 256 < 18446744073709551616 ∧ (c + c / 256) + (c + c / 256) / 65536 < 18446744073709551616 ∧
  ((c + c / 256) + (c + c / 256) / 65536) + ((c + c / 256) + (c + c / 256) / 65536) / 4294967296 < 9223372036854775808 ∧
  (((c + c / 256) + (c + c / 256) / 65536) + ((c + c / 256) + (c + c / 256) / 65536) / 4294967296) % 128 = s
theorem End4.to {c s t : Nat} (h : End4 c s) (e : s = t) : End4 c t := e ▸ h
theorem nest_lt (a0 a1 a2 a3 a4 a5 a6 a7 : Nat) (h0 : a0 ≤ 64) (h1 : a1 ≤ 64) (h2 : a2 ≤ 64) (h3 : a3 ≤ 64) (h4 : a4 ≤ 64) (h5 : a5 ≤ 64) (h6 : a6 ≤ 64) (h7 : a7 ≤ 64) :
    a0 + 256 * (a1 + 256 * (a2 + 256 * (a3 + 256 * (a4 + 256 * (a5 + 256 * (a6 + 256 * (a7))))))) < 9223372036854775808 := by omega
theorem nest1 (c0 c1 c2 c3 c4 c5 c6 c7 : Nat) : (c0 + 256 * (c1 + 256 * (c2 + 256 * (c3 + 256 * (c4 + 256 * (c5 + 256 * (c6 + 256 * (c7)))))))) + (c1 + 256 * (c2 + 256 * (c3 + 256 * (c4 + 256 * (c5 + 256 * (c6 + 256 * (c7))))))) = (c0 + c1) + 256 * ((c1 + c2) + 256 * ((c2 + c3) + 256 * ((c3 + c4) + 256 * ((c4 + c5) + 256 * ((c5 + c6) + 256 * ((c6 + c7) + 256 * ((c7)))))))) := by omega
theorem nest2 (c0 c1 c2 c3 c4 c5 c6 c7 : Nat) : ((c0 + c1) + 256 * ((c1 + c2) + 256 * ((c2 + c3) + 256 * ((c3 + c4) + 256 * ((c4 + c5) + 256 * ((c5 + c6) + 256 * ((c6 + c7) + 256 * ((c7))))))))) + ((c2 + c3) + 256 * ((c3 + c4) + 256 * ((c4 + c5) + 256 * ((c5 + c6) + 256 * ((c6 + c7) + 256 * ((c7))))))) = (c0 + c1 + c2 + c3) + 256 * ((c1 + c2 + c3 + c4) + 256 * ((c2 + c3 + c4 + c5) + 256 * ((c3 + c4 + c5 + c6) + 256 * ((c4 + c5 + c6 + c7) + 256 * ((c5 + c6 + c7) + 256 * ((c6 + c7) + 256 * ((c7)))))))) := by omega
theorem nest3 (c0 c1 c2 c3 c4 c5 c6 c7 : Nat) : ((c0 + c1 + c2 + c3) + 256 * ((c1 + c2 + c3 + c4) + 256 * ((c2 + c3 + c4 + c5) + 256 * ((c3 + c4 + c5 + c6) + 256 * ((c4 + c5 + c6 + c7) + 256 * ((c5 + c6 + c7) + 256 * ((c6 + c7) + 256 * ((c7))))))))) + ((c4 + c5 + c6 + c7) + 256 * ((c5 + c6 + c7) + 256 * ((c6 + c7) + 256 * ((c7))))) = (c0 + c1 + c2 + c3 + c4 + c5 + c6 + c7) + 256 * ((c1 + c2 + c3 + c4 + c5 + c6 + c7) + 256 * ((c2 + c3 + c4 + c5 + c6 + c7) + 256 * ((c3 + c4 + c5 + c6 + c7) + 256 * ((c4 + c5 + c6 + c7) + 256 * ((c5 + c6 + c7) + 256 * ((c6 + c7) + 256 * ((c7)))))))) := by omega
theorem ends_of (c d e f s : Nat) (h1 : c / 256 + c = d) (h2 : d / 65536 + d = e) (h3 : e / 4294967296 + e = f) (b1 : c < 9223372036854775808) (b2 : d < 9223372036854775808) (b3 : e < 9223372036854775808) (b4 : f < 9223372036854775808) (hs : f % 128 = s) : End4 c s := by
  have k1 : c + c / 256 = d := by rw [Nat.add_comm]; exact h1
  have k2 : d + d / 65536 = e := by rw [Nat.add_comm]; exact h2
  have k3 : e + e / 4294967296 = f := by rw [Nat.add_comm]; exact h3
  unfold End4
  rw [k1, k2, k3]
  exact ⟨Nat.lt_trans b1 (by decide), Nat.lt_trans b2 (by decide), Nat.lt_trans b3 (by decide), b4, hs⟩
theorem sum_all (c0 c1 c2 c3 c4 c5 c6 c7 c : Nat) (h0 : c0 ≤ 8) (h1 : c1 ≤ 8) (h2 : c2 ≤ 8) (h3 : c3 ≤ 8) (h4 : c4 ≤ 8) (h5 : c5 ≤ 8) (h6 : c6 ≤ 8) (h7 : c7 ≤ 8)
    (hc : c = c0 + 256 * (c1 + 256 * (c2 + 256 * (c3 + 256 * (c4 + 256 * (c5 + 256 * (c6 + 256 * (c7)))))))) : End4 c (c0 + c1 + c2 + c3 + c4 + c5 + c6 + c7) := by
  refine ends_of c ((c0 + c1) + 256 * ((c1 + c2) + 256 * ((c2 + c3) + 256 * ((c3 + c4) + 256 * ((c4 + c5) + 256 * ((c5 + c6) + 256 * ((c6 + c7) + 256 * ((c7))))))))) ((c0 + c1 + c2 + c3) + 256 * ((c1 + c2 + c3 + c4) + 256 * ((c2 + c3 + c4 + c5) + 256 * ((c3 + c4 + c5 + c6) + 256 * ((c4 + c5 + c6 + c7) + 256 * ((c5 + c6 + c7) + 256 * ((c6 + c7) + 256 * ((c7))))))))) ((c0 + c1 + c2 + c3 + c4 + c5 + c6 + c7) + 256 * ((c1 + c2 + c3 + c4 + c5 + c6 + c7) + 256 * ((c2 + c3 + c4 + c5 + c6 + c7) + 256 * ((c3 + c4 + c5 + c6 + c7) + 256 * ((c4 + c5 + c6 + c7) + 256 * ((c5 + c6 + c7) + 256 * ((c6 + c7) + 256 * ((c7))))))))) _ ?_ ?_ ?_ ?_ ?_ ?_ ?_ ?_
  · rw [sum_a _ _ _ h0 hc, hc, Nat.add_comm]; exact nest1 ..
  · rw [sum_b _ _ _ _ (by clear hc; omega) (by clear hc; omega) rfl, Nat.add_comm]; exact nest2 ..
  · rw [sum_c _ _ _ _ _ _ (by clear hc; omega) (by clear hc; omega) (by clear hc; omega) (by clear hc; omega) rfl, Nat.add_comm]; exact nest3 ..
  · rw [hc]; apply nest_lt <;> (clear hc; omega)
  · apply nest_lt <;> (clear hc; omega)
  · apply nest_lt <;> (clear hc; omega)
  · apply nest_lt <;> (clear hc; omega)
  · exact sum_d _ _ (by clear hc; omega)
theorem dig_sum (x : Nat) : End4 (dig g4 8 x) (sm g4 8 x) := by
  have h0 := g4_le (x % 256) (by omega)
  have h1 := g4_le (x / 256 % 256) (by omega)
  have h2 := g4_le (x / 256 / 256 % 256) (by omega)
  have h3 := g4_le (x / 256 / 256 / 256 % 256) (by omega)
  have h4 := g4_le (x / 256 / 256 / 256 / 256 % 256) (by omega)
  have h5 := g4_le (x / 256 / 256 / 256 / 256 / 256 % 256) (by omega)
  have h6 := g4_le (x / 256 / 256 / 256 / 256 / 256 / 256 % 256) (by omega)
  have h7 := g4_le (x / 256 / 256 / 256 / 256 / 256 / 256 / 256 % 256) (by omega)
  refine (show End4 (dig g4 8 x) _ from sum_all _ _ _ _ _ _ _ _ _ h0 h1 h2 h3 h4 h5 h6 h7 ?_).to ?_
  · simp only [dig, Nat.mul_zero, Nat.add_zero]
  · simp only [sm, Nat.add_zero, Nat.add_assoc]
/-- The library's way to count a word's bits counts them. -/
theorem swar_ends (x : BitVec 64) : End4 (swar x.toNat) (sw x).length := by
  rw [swar_is]
  have := dig_sum x.toNat
  rw [sm_is] at this
  exact this
end Go.Proofs.YtckcgaliphpgeaaGreatDoor.Bi

/-
  What a row of bits is, as the walk meets it: the words' block, and the cell that names it; laws on both that the claimed proofs use.
-/
namespace Go.Proofs.YtckcgaliphpgeaaGreatDoor.Bi
set_option maxRecDepth 100000
open Go.RowKit

theorem ret_u {a b : Int} (h : a = b) : Ending.returned (.int .u64 a) = .returned (.int .u64 b) := by rw [h]
theorem ret_i {a b : Int} (h : a = b) : Ending.returned (.int .i64 a) = .returned (.int .i64 b) := by rw [h]
theorem ret_b {a b : Bool} (h : a = b) : Ending.returned (.bool a) = .returned (.bool b) := by rw [h]

/-! ### Worlds -/
theorem grown_refl (w : World) (r : Option Nat) : w.grownBy w r := ⟨rfl, rfl, rfl, Nat.le_refl _, fun _ _ _ => rfl⟩
theorem grown_trans {a b c : World} {r : Option Nat} (h : a.grownBy b r) (k : b.grownBy c r) : a.grownBy c r :=
  ⟨k.os.trans h.os, k.tape.trans h.tape, k.output.trans h.output, Nat.le_trans h.size k.size, fun i hi hr => (k.block i (Nat.lt_of_lt_of_le hi h.size) hr).trans (h.block i hi hr)⟩
theorem grown_drew {a b : World} {r : Option Nat} (h : a.grownBy b r) : a.grownBy b.drew r := ⟨h.os, h.tape, h.output, h.size, h.block⟩
theorem grown_set {a b : World} {g i : Nat} {v : Value} (h : a.grownBy b (some g)) : a.grownBy (b.setCell ⟨g, i, none⟩ v) (some g) :=
  grown_trans h ⟨rfl, rfl, rfl, by simp [World.setCell], fun k _ hr => Below.heap_setCell _ _ _ _ (fun e => hr (by rw [e]))⟩
theorem grown_below {a b : World} {r : Option Nat} (h : Below a.heap.size a b) : a.grownBy b r := ⟨h.os, h.tape, h.output, h.size, fun k hk _ => h.block k hk⟩
theorem below_grown {B g : Nat} {a b c : World} (h : Below B a b) (k : b.grownBy c (some g)) (hB : B ≤ b.heap.size) (hg : B ≤ g) : Below B a c := h.grown k hB (fun _ e => by cases e; exact hg)
theorem up_trans {w W w2 : World} (h : Below w.heap.size w W) (h2 : Below W.heap.size W w2) : Below w.heap.size w w2 := h.trans (h2.mono h.size)
theorem up_alloc {w W : World} (h : Below w.heap.size w W) (o : Obj) : Below w.heap.size w (W.alloc o) := h.alloc h.size o
theorem up_drew {w W : World} (h : Below w.heap.size w W) : ∀ k, Below w.heap.size w (W.drewN k)
  | 0 => h
  | k + 1 => (up_drew h k).drew
theorem cell_alloc {w : World} {p : Addr} (o : Obj) (h : p.block < w.heap.size) : (w.alloc o).cell? p = w.cell? p := ((Below.refl _ w).alloc (Nat.le_refl _) o).cell h
theorem i64_in (n : Int) (h0 : 0 ≤ n) (h1 : n ≤ 4611686018427387904) : IntKind.i64.wrap n = n := by rw [IntKind.wrap_i64]; omega

/-! ### The library's table -/
def Tab (w : World) : Prop := ∀ j, j < 64 → w.cell? ⟨1, j, none⟩ = some (.int .u8 ((Lib.deBruijn64tab.getD j 0 : Nat) : Int))
theorem Tab.lt {w : World} (h : Tab w) : 1 < w.heap.size := World.block_lt_of_cell? w ⟨1, 0, none⟩ (h 0 (by omega))
theorem Tab.below {w w' : World} (h : Tab w) (hb : Below w.heap.size w w') : Tab w' := fun j hj => (hb.cell (p := ⟨1, j, none⟩) h.lt).trans (h j hj)
theorem cell_of_block {w w' : World} {g i : Nat} (e : w'.heap[g]? = w.heap[g]?) : w'.cell? ⟨g, i, none⟩ = w.cell? ⟨g, i, none⟩ := by simp [World.cell?, e]
theorem Tab.grown {w w' : World} {g : Nat} (h : Tab w) (hb : w.grownBy w' (some g)) (hg : 1 < g) : Tab w' := fun j hj =>
  (cell_of_block (hb.block 1 h.lt (by simp; omega))).trans (h j hj)

/-! ### Rows of cells -/
/-- A block of just these cells. -/
def Blk (w : World) (g : Nat) (vs : List Value) (t : TypeId) : Prop := w.heap[g]? = some (.cells vs.toArray t (0, 0))
theorem Blk.cell {w : World} {g i : Nat} {vs : List Value} {t : TypeId} (h : Blk w g vs t) : w.cell? ⟨g, i, none⟩ = vs[i]? := by
  rw [cell_of_row w g i _ t (0, 0) h]; simp
theorem Blk.frozen {w : World} {g : Nat} {vs : List Value} {t : TypeId} (h : Blk w g vs t) (i : Nat) : w.frozen? ⟨g, i, none⟩ = false := frozen_of_row w g i _ t h
theorem Blk.lt {w : World} {g : Nat} {vs : List Value} {t : TypeId} (h : Blk w g vs t) : g < w.heap.size := (Array.getElem?_eq_some_iff.1 h).1
theorem Blk.of {w w' : World} {g : Nat} {vs : List Value} {t : TypeId} (h : Blk w g vs t) (e : w'.heap[g]? = w.heap[g]?) : Blk w' g vs t := e.trans h
theorem Blk.below {w w' : World} {g : Nat} {vs : List Value} {t : TypeId} (h : Blk w g vs t) (hb : Below w.heap.size w w') : Blk w' g vs t := h.of (hb.block g h.lt)
theorem Blk.far {w w' : World} {g k : Nat} {vs : List Value} {t : TypeId} (h : Blk w g vs t) (hb : w.grownBy w' (some k)) (hk : g ≠ k) : Blk w' g vs t := h.of (hb.block g h.lt (by simpa using hk))
theorem Blk.set {w : World} {g i : Nat} {vs : List Value} {t : TypeId} (h : Blk w g vs t) (v : Value) : Blk (w.setCell ⟨g, i, none⟩ v) g (vs.set i v) t := by
  have := heap_setCell_same w g i _ t v h
  unfold Blk
  rw [this]
  simp
theorem Blk.made (w : World) (v : Value) (n : Nat) (t : TypeId) : Blk (w.alloc (.cells (madeCells #[v] n) t)) w.heap.size (List.replicate n v) t := by
  unfold Blk
  rw [heap_alloc_new]
  congr 2
  apply Array.ext'
  rw [toList_madeCells_one]
def wrow (ws : List (BitVec 64)) : List Value := ws.map fun x => Value.int .u64 (u x)
def brow (l : List Bool) : List Value := l.map Value.bool
theorem wrow_length (ws : List (BitVec 64)) : (wrow ws).length = ws.length := by simp [wrow]
theorem wrow_one (ws : List (BitVec 64)) : ∀ v ∈ wrow ws, v.oneCell' = true := by
  intro v hv; obtain ⟨x, _, rfl⟩ := List.mem_map.1 hv; rfl
theorem wrow_get {ws : List (BitVec 64)} {i : Nat} (h : i < ws.length) : (wrow ws)[i]? = some (.int .u64 (u (ws.getD i 0#64))) := by
  rw [wrow, List.getElem?_map, List.getD_eq_getElem?_getD, List.getElem?_eq_getElem h]; rfl
theorem brow_get {l : List Bool} {i : Nat} (h : i < l.length) : (brow l)[i]? = some (.bool (l.getD i false)) := by
  rw [brow, List.getElem?_map, List.getD_eq_getElem?_getD, List.getElem?_eq_getElem h]; rfl
theorem wrow_set (ws : List (BitVec 64)) (i : Nat) (x : BitVec 64) : (wrow ws).set i (.int .u64 (u x)) = wrow (ws.set i x) := by simp [wrow, List.map_set]
theorem brow_set (l : List Bool) (i : Nat) (x : Bool) : (brow l).set i (.bool x) = brow (l.set i x) := by simp [brow, List.map_set]

/-! ### Rows of bits -/
/-- These words are those bits. -/
def Fits (l : List Bool) (ws : List (BitVec 64)) : Prop := ws.length = (l.length + 63) / 64 ∧ ∀ i j, j < 64 → (ws.getD i 0#64).getLsbD j = l.getD (64 * i + j) false
/-- A row of bits: the block q names the words' block g. -/
def Bits (w : World) (q g : Nat) (l : List Bool) (ws : List (BitVec 64)) : Prop :=
  Blk w q [.int .i64 (l.length : Int), .slice (some ⟨g, 0, none⟩) ws.length ws.length] 149 ∧ Blk w g (wrow ws) 144 ∧ Fits l ws ∧ l.length ≤ 4096 ∧ 1 < q ∧ 1 < g
theorem Bits.n {w : World} {q g : Nat} {l : List Bool} {ws : List (BitVec 64)} (h : Bits w q g l ws) : w.cell? ⟨q, 0, none⟩ = some (.int .i64 (l.length : Int)) := h.1.cell
theorem Bits.words {w : World} {q g : Nat} {l : List Bool} {ws : List (BitVec 64)} (h : Bits w q g l ws) : w.cell? ⟨q, 1, none⟩ = some (.slice (some ⟨g, 0, none⟩) ws.length ws.length) := h.1.cell
theorem Bits.word {w : World} {q g : Nat} {l : List Bool} {ws : List (BitVec 64)} (h : Bits w q g l ws) {i : Nat} (hi : i < ws.length) : w.cell? ⟨g, i, none⟩ = some (.int .u64 (u (ws.getD i 0#64))) := by
  rw [h.2.1.cell, wrow_get hi]
theorem Bits.ne {w : World} {q g : Nat} {l : List Bool} {ws : List (BitVec 64)} (h : Bits w q g l ws) : q ≠ g := fun e => by
  have h1 := h.1; rw [e, Blk, h.2.1] at h1; simp at h1
theorem Bits.below {w w' : World} {q g : Nat} {l : List Bool} {ws : List (BitVec 64)} (h : Bits w q g l ws) (hb : Below w.heap.size w w') : Bits w' q g l ws := ⟨h.1.below hb, h.2.1.below hb, h.2.2⟩
theorem Bits.far {w w' : World} {q g k : Nat} {l : List Bool} {ws : List (BitVec 64)} (h : Bits w q g l ws) (hb : w.grownBy w' (some k)) (h1 : q ≠ k) (h2 : g ≠ k) : Bits w' q g l ws := ⟨h.1.far hb h1, h.2.1.far hb h2, h.2.2⟩
theorem Bits.many {w : World} {q g : Nat} {l : List Bool} {ws : List (BitVec 64)} (h : Bits w q g l ws) : ws.length = (l.length + 63) / 64 ∧ ws.length ≤ 64 ∧ l.length ≤ 4096 := by
  have := h.2.2.1.1; have := h.2.2.2.1; omega
theorem fits_none (n : Nat) : Fits (List.replicate n false) (List.replicate ((n + 63) / 64) 0#64) := by
  refine ⟨by simp, fun i j hj => ?_⟩
  have e1 : (List.replicate ((n + 63) / 64) 0#64).getD i 0#64 = 0#64 := by
    rw [List.getD_eq_getElem?_getD, List.getElem?_replicate]; split <;> rfl
  have e2 : (List.replicate n false).getD (64 * i + j) false = false := by
    rw [List.getD_eq_getElem?_getD, List.getElem?_replicate]; split <;> rfl
  rw [e1, e2]; simp
theorem fits_set {l : List Bool} {ws : List (BitVec 64)} (h : Fits l ws) (k : Nat) (hk : k < l.length) (b : Bool) (x : BitVec 64)
    (hx : ∀ j, j < 64 → x.getLsbD j = if j = k % 64 then b else (ws.getD (k / 64) 0#64).getLsbD j) : Fits (l.set k b) (ws.set (k / 64) x) := by
  have hw := h.1
  refine ⟨by simpa using h.1, fun i j hj => ?_⟩
  rw [List.getD_eq_getElem?_getD, List.getD_eq_getElem?_getD, List.getElem?_set, List.getElem?_set]
  by_cases e : k / 64 = i
  · subst e
    rw [if_pos rfl, if_pos (by omega), Option.getD_some, hx j hj]
    by_cases e2 : j = k % 64
    · rw [if_pos e2, if_pos (by omega), if_pos hk]; rfl
    · rw [if_neg e2, if_neg (by omega), h.2 _ j hj, List.getD_eq_getElem?_getD]
  · rw [if_neg e, if_neg (by omega), ← List.getD_eq_getElem?_getD, ← List.getD_eq_getElem?_getD]
    exact h.2 i j hj
theorem fits_one {l : List Bool} {xs ys : List (BitVec 64)} (h : Fits l xs) (k : Fits l ys) : xs = ys := by
  apply List.ext_getElem?
  intro i
  have hl : xs.length = ys.length := h.1.trans k.1.symm
  by_cases hi : i < xs.length
  · have e : xs.getD i 0#64 = ys.getD i 0#64 := BitVec.eq_of_getLsbD_eq (fun j hj => (h.2 i j hj).trans (k.2 i j hj).symm)
    rw [List.getD_eq_getElem?_getD, List.getD_eq_getElem?_getD, List.getElem?_eq_getElem hi, List.getElem?_eq_getElem (by omega)] at e
    rw [List.getElem?_eq_getElem hi, List.getElem?_eq_getElem (by omega)]
    exact congrArg some e
  · rw [List.getElem?_eq_none (by omega), List.getElem?_eq_none (by omega)]

theorem word_info : (Tryz.prog.info? 144).map (fun i => (i.zero, i.size, i.bytes)) = some (some (.int .u64 0), 1, 8) := by kernel_rfl
theorem word_size : (Tryz.prog.info? 144).map (·.size) = some 1 := by kernel_rfl
theorem bool_info : (Tryz.prog.info? 4).map (fun i => (i.zero, i.size, i.bytes)) = some (some (.bool false), 1, 1) := by kernel_rfl
theorem int_info : (Tryz.prog.info? 3).map (fun i => (i.zero, i.size, i.bytes)) = some (some (.int .i64 0), 1, 8) := by kernel_rfl
theorem make_words (n : Nat) (hn : n ≤ 4096) (W : World) :
    (Instr.makeSlice 147 (.int .i64 (n : Int)) (.int .i64 (n : Int))).run Tryz.prog W = .ok (.slice (some ⟨W.heap.size, 0, none⟩) n n) (W.alloc (.cells (madeCells #[.int .u64 0] n) 144)) := by
  obtain ⟨i, hi, hp⟩ := Option.map_eq_some_iff.1 word_info
  simp only [Prod.mk.injEq] at hp
  obtain ⟨hz, hs, hb⟩ := hp
  have := run_make (P := Tryz.prog) W 147 144 i (.int .u64 0) Tryz.underlying147 hi hz .i64 .i64 n n (by omega) (by omega) (by rw [hb]; omega) (by omega)
  rw [hs] at this
  simpa [Value.cells] using this
theorem make_bools (n : Nat) (hn : n ≤ 4096) (W : World) :
    (Instr.makeSlice 261 (.int .i64 (n : Int)) (.int .i64 (n : Int))).run Tryz.prog W = .ok (.slice (some ⟨W.heap.size, 0, none⟩) n n) (W.alloc (.cells (madeCells #[.bool false] n) 4)) := by
  obtain ⟨i, hi, hp⟩ := Option.map_eq_some_iff.1 bool_info
  simp only [Prod.mk.injEq] at hp
  obtain ⟨hz, hs, hb⟩ := hp
  have := run_make (P := Tryz.prog) W 261 4 i (.bool false) Tryz.underlying261 hi hz .i64 .i64 n n (by omega) (by omega) (by rw [hb]; omega) (by omega)
  rw [hs] at this
  simpa [Value.cells] using this
theorem make_ints (n : Nat) (hn : n ≤ 4096) (W : World) :
    (Instr.makeSlice 29 (.int .i64 0) (.int .i64 (n : Int))).run Tryz.prog W = .ok (.slice (some ⟨W.heap.size, 0, none⟩) 0 n) (W.alloc (.cells (madeCells #[.int .i64 0] n) 3)) := by
  obtain ⟨i, hi, hp⟩ := Option.map_eq_some_iff.1 int_info
  simp only [Prod.mk.injEq] at hp
  obtain ⟨hz, hs, hb⟩ := hp
  have := run_make (P := Tryz.prog) W 29 3 i (.int .i64 0) Tryz.underlying29 hi hz .i64 .i64 0 n (by omega) (by omega) (by rw [hb]; omega) (by omega)
  rw [hs] at this
  simpa [Value.cells] using this
end Go.Proofs.YtckcgaliphpgeaaGreatDoor.Bi

/-
  What the small functions do: contracts that the claimed proofs use.
-/
namespace Go.Proofs.YtckcgaliphpgeaaGreatDoor.Bi
set_option maxRecDepth 100000
open Go.RowKit

/-- Is there such a bit? -/
def hasB (n : Nat) (k : Int) : Bool := decide (0 ≤ k ∧ k < n)
theorem hasB_iff {n : Nat} {k : Int} : hasB n k = true ↔ 0 ≤ k ∧ k < n := by simp [hasB]
theorem hasB_not {n : Nat} {k : Int} : hasB n k = false ↔ ¬ (0 ≤ k ∧ k < n) := by simp only [hasB, decide_eq_false_iff_not]
theorem has_any (q n : Nat) (k : Int) (w : World) (hc : w.cell? ⟨q, 0, none⟩ = some (.int .i64 (n : Int))) :
    Calls Tryz.prog 151 #[.pointer (some ⟨q, 0, none⟩), .int .i64 k] w fun e w' => e = .returned (.bool (hasB n k)) ∧ w = w' := by
  by_cases h0 : 0 ≤ k
  · go_enter Tryz.func151, Tryz.ntmps151
    go_wp2
    go_ret
    exact ⟨ret_b (by unfold hasB; rw [decide_eq_decide]; omega), rfl⟩
  · have hd : decide (0 ≤ k) = false := by simpa using h0
    go_enter Tryz.func151, Tryz.ntmps151
    go_wp2
    go_ret
    exact ⟨ret_b (by unfold hasB; symm; rw [decide_eq_false_iff_not]; omega), rfl⟩
theorem len_any (q n : Nat) (w : World) (hc : w.cell? ⟨q, 0, none⟩ = some (.int .i64 (n : Int))) :
    Calls Tryz.prog 94 #[.pointer (some ⟨q, 0, none⟩)] w fun e w' => e = .returned (.int .i64 (n : Int)) ∧ w = w' := by
  go_enter Tryz.func94, Tryz.ntmps94
  go_wp2
  go_ret
  exact ⟨rfl, rfl⟩
theorem bit_raw (k : Nat) : IntKind.u64.wrap (2 ^ k) = u (1#64 <<< k) := by
  have := shl_u 1#64 k
  rwa [show u 1#64 = 1 from rfl, Int.one_mul] at this
theorem bit_any (k : Nat) (hk : k ≤ 4096) (w : World) :
    Calls Tryz.prog 152 #[.int .i64 (k : Int)] w fun e w' => e = .returned (.int .u64 (u (1#64 <<< (k % 64)))) ∧ w = w' := by
  go_enter Tryz.func152, Tryz.ntmps152
  go_wp2
  go_ret
  exact ⟨ret_u (bit_raw _), rfl⟩

/-! ### The library's two -/
theorem tz_core (x : BitVec 64) (k idx : Nat) (w : World) (hx0 : (u x == 0) = false)
    (key : IntKind.u64.wrap (bits BinOp.and IntKind.u64 (u x) (IntKind.u64.wrap (-(u x))) * 285870213051353865) / 288230376151711744 = (idx : Int))
    (hi : idx < 64) (hk : k < 64) (hcell : w.cell? ⟨1, idx, none⟩ = some (.int .u8 k)) :
    Calls Tryz.prog 93 #[.int .u64 (u x)] w fun e w' => e = .returned (.int .i64 k) ∧ w = w' := by
  go_enter Tryz.func93, Tryz.ntmps93
  go_wp2_with (simp only [key])
  go_ret
  exact ⟨rfl, rfl⟩
theorem tz_key (x a : Nat) (hx : x < 18446744073709551616) (hx0 : x ≠ 0) (hlow : x &&& (18446744073709551616 - x) = a) :
    IntKind.u64.wrap (bits BinOp.and IntKind.u64 (x : Int) (IntKind.u64.wrap (-(x : Int))) * 285870213051353865) / 288230376151711744 = ((a * 285870213051353865 % 18446744073709551616 / 288230376151711744 : Nat) : Int) := by
  have e1 : IntKind.u64.wrap (-(x : Int)) = ((18446744073709551616 - x : Nat) : Int) := by rw [IntKind.wrap_u64]; omega
  rw [e1, u64_and_nat x _ hx (by omega), hlow, IntKind.wrap_u64]
  omega
theorem tz_any (x : BitVec 64) (w : World) (hx : x ≠ 0#64) (hT : Tab w) :
    Calls Tryz.prog 93 #[.int .u64 (u x)] w fun e w' => e = .returned (.int .i64 (Lib.ctz 64 x.toNat : Int)) ∧ w = w' := by
  have h0 : x.toNat ≠ 0 := fun e => hx (BitVec.eq_of_toNat_eq (by simpa using e))
  obtain ⟨hlow, hk⟩ := Lib.lowest_bit 64 x.toNat h0 x.isLt
  obtain ⟨hi, htab⟩ := Lib.deBruijn64_at _ hk
  have hcell := hT _ hi
  rw [htab] at hcell
  exact tz_core x _ _ w (by simp [u]; omega) (tz_key x.toNat _ x.isLt h0 hlow) hi hk hcell

theorem ones_raw1 (n : Nat) (hn : n < 18446744073709551616) :
    IntKind.u64.wrap (bits .and .u64 ((n : Int) / 2) 6148914691236517205 + bits .and .u64 (n : Int) 6148914691236517205) = ((((n / 2) &&& 6148914691236517205) + (n &&& 6148914691236517205) : Nat) : Int) := by
  have e1 : (n : Int) / 2 = ((n / 2 : Nat) : Int) := by omega
  have h1 : (n / 2) &&& 6148914691236517205 ≤ 6148914691236517205 := Nat.and_le_right
  have h2 : n &&& 6148914691236517205 ≤ 6148914691236517205 := Nat.and_le_right
  have k1 := u64_and_nat (n / 2) 6148914691236517205 (by omega) (by omega)
  have k2 := u64_and_nat n 6148914691236517205 hn (by omega)
  rw [e1, show (6148914691236517205 : Int) = ((6148914691236517205 : Nat) : Int) from rfl, k1, k2, IntKind.wrap_u64]
  omega
theorem ones_raw2 (n : Nat) (hn : n < 18446744073709551616) :
    IntKind.u64.wrap (bits .and .u64 ((n : Int) / 4) 3689348814741910323 + bits .and .u64 (n : Int) 3689348814741910323) = ((((n / 4) &&& 3689348814741910323) + (n &&& 3689348814741910323) : Nat) : Int) := by
  have e1 : (n : Int) / 4 = ((n / 4 : Nat) : Int) := by omega
  have h1 : (n / 4) &&& 3689348814741910323 ≤ 3689348814741910323 := Nat.and_le_right
  have h2 : n &&& 3689348814741910323 ≤ 3689348814741910323 := Nat.and_le_right
  have k1 := u64_and_nat (n / 4) 3689348814741910323 (by omega) (by omega)
  have k2 := u64_and_nat n 3689348814741910323 hn (by omega)
  rw [e1, show (3689348814741910323 : Int) = ((3689348814741910323 : Nat) : Int) from rfl, k1, k2, IntKind.wrap_u64]
  omega
theorem ones_raw3 (n : Nat) (hn : n ≤ 7378697629483820646) :
    bits .and .u64 (IntKind.u64.wrap ((n : Int) / 16 + (n : Int))) 1085102592571150095 = (((n / 16 + n) &&& 1085102592571150095 : Nat) : Int) := by
  have e1 : IntKind.u64.wrap ((n : Int) / 16 + (n : Int)) = ((n / 16 + n : Nat) : Int) := by rw [IntKind.wrap_u64]; omega
  have k1 := u64_and_nat (n / 16 + n) 1085102592571150095 (by omega) (by omega)
  rw [e1, show (1085102592571150095 : Int) = ((1085102592571150095 : Nat) : Int) from rfl, k1]
theorem ones_raw4 (c s : Nat) (h : End4 c s) :
    bits .and .i64 (wrap64 (IntKind.u64.wrap (IntKind.u64.wrap (IntKind.u64.wrap ((c : Int) + (c : Int) / 256) + IntKind.u64.wrap ((c : Int) + (c : Int) / 256) / 65536) + IntKind.u64.wrap (IntKind.u64.wrap ((c : Int) + (c : Int) / 256) + IntKind.u64.wrap ((c : Int) + (c : Int) / 256) / 65536) / 4294967296))) 127 = (s : Int) := by
  obtain ⟨_, h1, h2, h3, h4⟩ := h
  have e1 : IntKind.u64.wrap ((c : Int) + (c : Int) / 256) = ((c + c / 256 : Nat) : Int) := by rw [IntKind.wrap_u64]; omega
  rw [e1]
  clear e1
  generalize c + c / 256 = d at *
  have e2 : IntKind.u64.wrap ((d : Int) + (d : Int) / 65536) = ((d + d / 65536 : Nat) : Int) := by rw [IntKind.wrap_u64]; omega
  rw [e2]
  clear e2
  generalize d + d / 65536 = e at *
  have e3 : IntKind.u64.wrap ((e : Int) + (e : Int) / 4294967296) = ((e + e / 4294967296 : Nat) : Int) := by rw [IntKind.wrap_u64]; omega
  rw [e3]
  clear e3
  generalize e + e / 4294967296 = f at *
  have e4 : wrap64 ((f : Nat) : Int) = (f : Int) := by unfold wrap64; omega
  rw [e4, i64_and127]
  omega
theorem ones_any (x : BitVec 64) (w : World) :
    Calls Tryz.prog 95 #[.int .u64 (u x)] w fun e w' => e = .returned (.int .i64 ((sw x).length : Int)) ∧ w = w' := by
  go_enter Tryz.func95, Tryz.ntmps95
  go_wp2
  go_ret
  refine ⟨ret_i ?_, rfl⟩
  have hb : (((((x.toNat / 2) &&& 6148914691236517205) + (x.toNat &&& 6148914691236517205)) / 4) &&& 3689348814741910323) + ((((x.toNat / 2) &&& 6148914691236517205) + (x.toNat &&& 6148914691236517205)) &&& 3689348814741910323) ≤ 7378697629483820646 := by
    have h1 : ((((x.toNat / 2) &&& 6148914691236517205) + (x.toNat &&& 6148914691236517205)) / 4) &&& 3689348814741910323 ≤ 3689348814741910323 := Nat.and_le_right
    have h2 : (((x.toNat / 2) &&& 6148914691236517205) + (x.toNat &&& 6148914691236517205)) &&& 3689348814741910323 ≤ 3689348814741910323 := Nat.and_le_right
    omega
  have ha : ((x.toNat / 2) &&& 6148914691236517205) + (x.toNat &&& 6148914691236517205) < 18446744073709551616 := by
    have h1 : (x.toNat / 2) &&& 6148914691236517205 ≤ 6148914691236517205 := Nat.and_le_right
    have h2 : x.toNat &&& 6148914691236517205 ≤ 6148914691236517205 := Nat.and_le_right
    omega
  have hend := swar_ends x
  unfold swar at hend
  simp only [] at hend
  rw [show u x = (x.toNat : Int) from rfl, ones_raw1 _ x.isLt, ones_raw2 _ ha, ones_raw3 _ hb]
  exact ones_raw4 _ _ hend
end Go.Proofs.YtckcgaliphpgeaaGreatDoor.Bi

/-
  What Test, Set and Clear do: contracts that the claimed proofs use.
-/
namespace Go.Proofs.YtckcgaliphpgeaaGreatDoor.Bi
set_option maxRecDepth 100000
open Go.RowKit

theorem andNot_u (a b : BitVec 64) : bits .andNot .u64 (u a) (u b) = u (a &&& ~~~ b) := by
  unfold u; rw [u64_andNot_nat _ _ a.isLt b.isLt, BitVec.toNat_and, BitVec.toNat_not]
def Drawn (w wr : World) : Prop := ∃ j, wr = w.drewN j
theorem Drawn.refl (w : World) : Drawn w w := ⟨0, rfl⟩
theorem Drawn.on {w wr : World} (h : Drawn w wr) (n : Nat) : Drawn w (wr.drewN n) := by
  obtain ⟨j, rfl⟩ := h; exact ⟨j + n, by rw [World.drewN_drewN]⟩
theorem Drawn.trans {a b c : World} (h : Drawn a b) (k : Drawn b c) : Drawn a c := by
  obtain ⟨j, rfl⟩ := k; exact h.on j
theorem Drawn.below {w wr : World} (h : Drawn w wr) : Below w.heap.size w wr := by
  obtain ⟨j, rfl⟩ := h; exact up_drew (Below.refl _ w) j
theorem drewN_heap (w : World) : ∀ j, (w.drewN j).heap = w.heap
  | 0 => rfl
  | j + 1 => drewN_heap w j
theorem Drawn.heap {w wr : World} (h : Drawn w wr) : wr.heap = w.heap := by
  obtain ⟨j, rfl⟩ := h; exact drewN_heap w j

theorem bit_word (x : BitVec 64) (k : Nat) (hk : k < 64) : (x &&& (1#64 <<< k) != 0#64) = x.getLsbD k := by
  cases h : x.getLsbD k
  · simp only [bne_eq_false_iff_eq]
    apply BitVec.eq_of_getLsbD_eq
    intro j hj
    rw [BitVec.getLsbD_and, BitVec.getLsbD_shiftLeft, BitVec.getLsbD_zero]
    by_cases e : j = k
    · subst e; simp [h]
    · by_cases e2 : j < k
      · simp [e2]
      · have : j - k ≠ 0 := by omega
        simp [this]
  · simp only [bne_iff_ne]
    intro e
    have := congrArg (fun z => z.getLsbD k) e
    rw [BitVec.getLsbD_and, BitVec.getLsbD_shiftLeft] at this
    rw [h] at this
    simp [hk] at this
theorem bit_raw2 (x : BitVec 64) (k : Nat) (hk : k < 64) : (bits .and .u64 (u x) (u (1#64 <<< k)) != 0) = x.getLsbD k := by
  rw [and_u, show (0 : Int) = u 0#64 from rfl, u_bne, bit_word x k hk]

theorem tdiv64 (k : Nat) : (k : Int).tdiv 64 = ((k / 64 : Nat) : Int) := by rw [Int.tdiv_eq_ediv_of_nonneg (by omega)]; omega
/-- Is a bit set? -/
def tst (l : List Bool) (k : Int) : Bool := hasB l.length k && l.getD k.toNat false
theorem tst_nat (l : List Bool) (k : Nat) : tst l (k : Int) = l.getD k false := by
  unfold tst
  by_cases h : k < l.length
  · rw [hasB_iff.2 (by omega)]; simp
  · rw [hasB_not.2 (by omega), Bool.false_and, List.getD_eq_getElem?_getD, List.getElem?_eq_none (by omega)]; rfl
theorem has_quiet (q n : Nat) (k : Int) (b : Bool) (w : World) (a : Nat) (hc : w.cell? ⟨q, 0, none⟩ = some (.int .i64 (n : Int))) (hb : hasB n k = b) :
    Calls Tryz.prog 151 #[.pointer (some ⟨q, 0, none⟩), .int .i64 k] (w.drewN a) fun e w' => e = .returned (.bool b) ∧ ∃ m, w' = w.drewN m :=
  (has_any q n k _ (((up_drew (Below.refl _ w) a).cell (World.block_lt_of_cell? w _ hc)).trans hc)).mono fun _ _ ⟨he, hw⟩ => ⟨hb ▸ he, a, hw.symm⟩
theorem bit_quiet (k : Nat) (w : World) (a : Nat) (hk : k ≤ 4096) :
    Calls Tryz.prog 152 #[.int .i64 (k : Int)] (w.drewN a) fun e w' => e = .returned (.int .u64 (u (1#64 <<< (k % 64)))) ∧ ∃ m, w' = w.drewN m :=
  (bit_any k hk _).mono fun _ _ ⟨he, hw⟩ => ⟨he, a, hw.symm⟩

theorem test_no (q n : Nat) (k : Int) (w : World) (hc : w.cell? ⟨q, 0, none⟩ = some (.int .i64 (n : Int))) (hno : hasB n k = false) :
    Calls Tryz.prog 155 #[.pointer (some ⟨q, 0, none⟩), .int .i64 k] w fun e w' => e = .returned (.bool false) ∧ Drawn w w' := by
  go_enter Tryz.func155, Tryz.ntmps155
  go_wp2_with fail
  go_quiet ((go_at_call 151; exact has_quiet q n _ _ _ _ hc hno))
  go_wp2
  go_ret
  exact ⟨rfl, _, rfl⟩
theorem test_yes (q g n L k : Nat) (x : BitVec 64) (w : World) (hc : w.cell? ⟨q, 0, none⟩ = some (.int .i64 (n : Int))) (hs : w.cell? ⟨q, 1, none⟩ = some (.slice (some ⟨g, 0, none⟩) L L))
    (hx : w.cell? ⟨g, k / 64, none⟩ = some (.int .u64 (u x))) (hk : k < n) (hn : n ≤ 4096) (hL : k / 64 < L) :
    Calls Tryz.prog 155 #[.pointer (some ⟨q, 0, none⟩), .int .i64 (k : Int)] w fun e w' => e = .returned (.bool (x.getLsbD (k % 64))) ∧ Drawn w w' := by
  have hy : hasB n (k : Int) = true := hasB_iff.2 (by omega)
  have e1 := tdiv64 k
  obtain ⟨i, hi⟩ : ∃ i, k / 64 = i := ⟨_, rfl⟩
  rw [hi] at hx hL e1
  have HI := Lib.hid hi
  have k1 : (0 : Int) ≤ (i : Int) := by omega
  have k2 : (i : Int) < (L : Int) := by omega
  have hwi := i64_in (i : Int) (by omega) (by omega)
  clear hi
  go_enter Tryz.func155, Tryz.ntmps155
  go_wp2_with fail
  go_quiet ((first | (go_at_call 151; exact has_quiet q n _ _ _ _ hc hy) | (go_at_call 152; exact bit_quiet k _ _ (by omega))))
  go_wp2
  go_ret
  exact ⟨ret_b (bit_raw2 x (k % 64) (by omega)), _, rfl⟩
theorem fits_lt {l : List Bool} {ws : List (BitVec 64)} (h : Fits l ws) {k : Nat} (hk : k < l.length) : k / 64 < ws.length := by have := h.1; omega
theorem fits_at {l : List Bool} {ws : List (BitVec 64)} (h : Fits l ws) (k : Nat) : (ws.getD (k / 64) 0#64).getLsbD (k % 64) = l.getD k false := by
  rw [h.2 _ _ (by omega)]; congr 1; omega
theorem test_any (q g : Nat) (l : List Bool) (ws : List (BitVec 64)) (k : Int) (w : World) (hm : Bits w q g l ws) :
    Calls Tryz.prog 155 #[.pointer (some ⟨q, 0, none⟩), .int .i64 k] w fun e w' => e = .returned (.bool (tst l k)) ∧ Drawn w w' := by
  unfold tst
  cases h : hasB l.length k
  · exact test_no q _ k w hm.n h
  · obtain ⟨h0, h1⟩ := hasB_iff.1 h
    obtain ⟨k, rfl⟩ := Int.eq_ofNat_of_zero_le h0
    have hk : k < l.length := by omega
    have := test_yes q g _ _ k _ w hm.n hm.words (hm.word (fits_lt hm.2.2.1 hk)) hk hm.2.2.2.1 (fits_lt hm.2.2.1 hk)
    rw [fits_at hm.2.2.1] at this
    simpa using this

/-- What is left behind a row whose bits have been turned. -/
def Turned (q g : Nat) (l : List Bool) (b : Bool) (w : World) (e : Ending) (w' : World) : Prop :=
  e = .returned (.bool b) ∧ (∃ ws, Bits w' q g l ws) ∧ w.grownBy w' (some g)
/-- A word of a row has been turned. -/
def Put (g i : Nat) (x : BitVec 64) (w : World) (e : Ending) (w' : World) : Prop := e = .returned (.bool true) ∧ ∃ wd, Drawn w wd ∧ Drawn (wd.setCell ⟨g, i, none⟩ (.int .u64 (u x))) w'
theorem ret_put {g i : Nat} {x : BitVec 64} {v : Int} {w wd : World} (hd : Drawn w wd) (e : v = u x) : Put g i x w (.returned (.bool true)) (wd.setCell ⟨g, i, none⟩ (.int .u64 v)).drew :=
  ⟨rfl, wd, hd, 1, by rw [e]; rfl⟩
theorem set_yes (q g n L k : Nat) (x : BitVec 64) (w : World) (hc : w.cell? ⟨q, 0, none⟩ = some (.int .i64 (n : Int))) (hs : w.cell? ⟨q, 1, none⟩ = some (.slice (some ⟨g, 0, none⟩) L L))
    (hx : w.cell? ⟨g, k / 64, none⟩ = some (.int .u64 (u x))) (hk : k < n) (hn : n ≤ 4096) (hL : k / 64 < L) (hoff : x.getLsbD (k % 64) = false) (hfz : w.frozen? ⟨g, k / 64, none⟩ = false) :
    Calls Tryz.prog 116 #[.pointer (some ⟨q, 0, none⟩), .int .i64 (k : Int)] w (Put g (k / 64) (x ||| 1#64 <<< (k % 64)) w) := by
  have hy : hasB n (k : Int) = true := hasB_iff.2 (by omega)
  have ht := test_yes q g n L k x w hc hs hx hk hn hL
  rw [hoff] at ht
  have HT := Lib.hid ht
  have e1 := tdiv64 k
  obtain ⟨i, hi⟩ : ∃ i, k / 64 = i := ⟨_, rfl⟩
  rw [hi] at hx hL e1 hfz ⊢
  have HI := Lib.hid hi
  have k1 : (0 : Int) ≤ (i : Int) := by omega
  have k2 : (i : Int) < (L : Int) := by omega
  have hwi := i64_in (i : Int) (by omega) (by omega)
  clear hi ht hoff
  go_enter Tryz.func116, Tryz.ntmps116
  go_wp2_with fail
  refine (has_any q n _ _ hc).mono ?_; rw [hy]; rintro e w' ⟨rfl, rfl⟩
  go_wp2_with fail
  refine HT.out.mono ?_; rintro e w' ⟨rfl, hdr⟩
  have HC := Lib.hid hc
  have r1 := (hdr.below.cell (World.block_lt_of_cell? w _ hs)).trans hs
  have r2 := (hdr.below.cell (World.block_lt_of_cell? w _ hx)).trans hx
  have r3 : w'.frozen? ⟨g, i, none⟩ = false := by rw [World.frozen?, hdr.heap]; exact hfz
  have HD := Lib.hid hdr
  clear hdr hc hs hx hfz
  go_wp2_with fail
  go_region_law (first | (go_simp; go_at_call 152; refine (bit_any k (by omega) _).mono ?_; rintro e w' ⟨rfl, rfl⟩))
  all_goals go_wp2
  all_goals go_ret
  all_goals exact ret_put HD.out (or_u _ _)
theorem set_was (q g n L k : Nat) (x : BitVec 64) (w : World) (hc : w.cell? ⟨q, 0, none⟩ = some (.int .i64 (n : Int))) (hs : w.cell? ⟨q, 1, none⟩ = some (.slice (some ⟨g, 0, none⟩) L L))
    (hx : w.cell? ⟨g, k / 64, none⟩ = some (.int .u64 (u x))) (hk : k < n) (hn : n ≤ 4096) (hL : k / 64 < L) (hon : x.getLsbD (k % 64) = true) :
    Calls Tryz.prog 116 #[.pointer (some ⟨q, 0, none⟩), .int .i64 (k : Int)] w fun e w' => e = .returned (.bool false) ∧ Drawn w w' := by
  have hy : hasB n (k : Int) = true := hasB_iff.2 (by omega)
  have ht := test_yes q g n L k x w hc hs hx hk hn hL
  rw [hon] at ht
  have HT := Lib.hid ht
  clear ht hon
  go_enter Tryz.func116, Tryz.ntmps116
  go_wp2_with fail
  refine (has_any q n _ _ hc).mono ?_; rw [hy]; rintro e w' ⟨rfl, rfl⟩
  go_wp2_with fail
  refine HT.out.mono ?_; rintro e w' ⟨rfl, hdr⟩
  go_wp2
  go_ret
  exact ⟨rfl, hdr⟩
theorem set_no (q n : Nat) (k : Int) (w : World) (hc : w.cell? ⟨q, 0, none⟩ = some (.int .i64 (n : Int))) (hno : hasB n k = false) :
    Calls Tryz.prog 116 #[.pointer (some ⟨q, 0, none⟩), .int .i64 k] w fun e w' => e = .returned (.bool false) ∧ Drawn w w' := by
  go_enter Tryz.func116, Tryz.ntmps116
  go_wp2_with fail
  refine (has_any q n _ _ hc).mono ?_; rw [hno]; rintro e w' ⟨rfl, rfl⟩
  go_wp2
  go_ret
  exact ⟨rfl, Drawn.refl _⟩
theorem clear_yes (q g n L k : Nat) (x : BitVec 64) (w : World) (hc : w.cell? ⟨q, 0, none⟩ = some (.int .i64 (n : Int))) (hs : w.cell? ⟨q, 1, none⟩ = some (.slice (some ⟨g, 0, none⟩) L L))
    (hx : w.cell? ⟨g, k / 64, none⟩ = some (.int .u64 (u x))) (hk : k < n) (hn : n ≤ 4096) (hL : k / 64 < L) (hon : x.getLsbD (k % 64) = true) (hfz : w.frozen? ⟨g, k / 64, none⟩ = false) :
    Calls Tryz.prog 141 #[.pointer (some ⟨q, 0, none⟩), .int .i64 (k : Int)] w (Put g (k / 64) (x &&& ~~~ (1#64 <<< (k % 64))) w) := by
  have ht := test_yes q g n L k x w hc hs hx hk hn hL
  rw [hon] at ht
  have HT := Lib.hid ht
  have e1 := tdiv64 k
  obtain ⟨i, hi⟩ : ∃ i, k / 64 = i := ⟨_, rfl⟩
  rw [hi] at hx hL e1 hfz ⊢
  have HI := Lib.hid hi
  have k1 : (0 : Int) ≤ (i : Int) := by omega
  have k2 : (i : Int) < (L : Int) := by omega
  have hwi := i64_in (i : Int) (by omega) (by omega)
  clear hi ht hon
  go_enter Tryz.func141, Tryz.ntmps141
  go_wp2_with fail
  refine HT.out.mono ?_; rintro e w' ⟨rfl, hdr⟩
  have HC := Lib.hid hc
  have r1 := (hdr.below.cell (World.block_lt_of_cell? w _ hs)).trans hs
  have r2 := (hdr.below.cell (World.block_lt_of_cell? w _ hx)).trans hx
  have r3 : w'.frozen? ⟨g, i, none⟩ = false := by rw [World.frozen?, hdr.heap]; exact hfz
  have HD := Lib.hid hdr
  clear hdr hc hs hx hfz
  go_wp2_with fail
  go_region_law (first | (go_simp; go_at_call 152; refine (bit_any k (by omega) _).mono ?_; rintro e w' ⟨rfl, rfl⟩))
  all_goals go_wp2
  all_goals go_ret
  all_goals exact ret_put HD.out (andNot_u _ _)
theorem clear_no (q g : Nat) (l : List Bool) (ws : List (BitVec 64)) (k : Int) (w : World) (hm : Bits w q g l ws) (hno : tst l k = false) :
    Calls Tryz.prog 141 #[.pointer (some ⟨q, 0, none⟩), .int .i64 k] w fun e w' => e = .returned (.bool false) ∧ Drawn w w' := by
  have ht := test_any q g l ws k w hm
  rw [hno] at ht
  have HT := Lib.hid ht
  clear ht hm hno
  go_enter Tryz.func141, Tryz.ntmps141
  go_wp2_with fail
  refine HT.out.mono ?_; rintro e w' ⟨rfl, hdr⟩
  go_wp2
  go_ret
  exact ⟨rfl, hdr⟩

theorem put_turned {q g k : Nat} {l : List Bool} {ws : List (BitVec 64)} {w : World} {b : Bool} {x : BitVec 64} (hm : Bits w q g l ws) (hk : k < l.length)
    (hx : ∀ j, j < 64 → x.getLsbD j = if j = k % 64 then b else (ws.getD (k / 64) 0#64).getLsbD j) {e : Ending} {w' : World} (h : Put g (k / 64) x w e w') :
    Turned q g (l.set k b) true w e w' := by
  obtain ⟨rfl, wd, hd, hd2⟩ := h
  have g1 : w.grownBy (wd.setCell ⟨g, k / 64, none⟩ (.int .u64 (u x))) (some g) := grown_set (grown_below hd.below)
  have g2 : w.grownBy w' (some g) := grown_trans g1 (grown_below hd2.below)
  refine ⟨rfl, ⟨ws.set (k / 64) x, ?_, ?_, fits_set hm.2.2.1 k hk b x hx, by simpa using hm.2.2.2.1, hm.2.2.2.2⟩, g2⟩
  · have := hm.1.far g2 hm.ne
    simpa using this
  · have h1 : Blk wd g (wrow ws) 144 := hm.2.1.below hd.below
    have h2 := h1.set (i := k / 64) (.int .u64 (u x))
    rw [wrow_set] at h2
    exact h2.below hd2.below
theorem drawn_turned {q g : Nat} {l l' : List Bool} {ws : List (BitVec 64)} {w : World} (hm : Bits w q g l ws) (hl : l' = l) {e : Ending} {w' : World} (h : e = .returned (.bool false) ∧ Drawn w w') : Turned q g l' false w e w' := by
  subst hl
  exact ⟨h.1, ⟨ws, hm.below h.2.below⟩, grown_below h.2.below⟩
/-- The row behind Set or Clear, and what is answered. -/
def setL (l : List Bool) (k : Int) (b : Bool) : List Bool := if hasB l.length k then l.set k.toNat b else l
def setB (l : List Bool) (k : Int) (b : Bool) : Bool := hasB l.length k && (l.getD k.toNat false != b)
theorem setL_length (l : List Bool) (k : Int) (b : Bool) : (setL l k b).length = l.length := by unfold setL; split <;> simp
theorem set_same (l : List Bool) (k : Nat) (b : Bool) (h : l.getD k false = b) (hk : k < l.length) : l.set k b = l := by
  apply List.ext_getElem?
  intro i
  rw [List.getElem?_set]
  split
  · rename_i e
    subst e
    first | rw [if_pos hk] | skip
    rw [← h, List.getD_eq_getElem?_getD, List.getElem?_eq_getElem hk]; rfl
  · rfl
theorem set_any (q g : Nat) (l : List Bool) (ws : List (BitVec 64)) (k : Int) (w : World) (hm : Bits w q g l ws) :
    Calls Tryz.prog 116 #[.pointer (some ⟨q, 0, none⟩), .int .i64 k] w (Turned q g (setL l k true) (setB l k true) w) := by
  unfold setL setB
  cases h : hasB l.length k
  · rw [if_neg (by simp)]
    exact (set_no q _ k w hm.n h).mono fun e w' he => drawn_turned hm rfl he
  · obtain ⟨h0, h1⟩ := hasB_iff.1 h
    obtain ⟨k, rfl⟩ := Int.eq_ofNat_of_zero_le h0
    have hk : k < l.length := by omega
    have hw := fits_lt hm.2.2.1 hk
    rw [if_pos rfl, Int.toNat_natCast, Bool.true_and]
    cases hb : l.getD k false
    · refine (set_yes q g _ _ k _ w hm.n hm.words (hm.word hw) hk hm.2.2.2.1 hw (by rw [fits_at hm.2.2.1]; exact hb) (hm.2.1.frozen _)).mono fun e w' he => put_turned hm hk (fun j hj => ?_) he
      rw [BitVec.getLsbD_or, BitVec.getLsbD_shiftLeft]
      by_cases e : j = k % 64
      · subst e; simp [hj]
      · rw [if_neg e]
        by_cases e2 : j < k % 64
        · simp [e2]
        · have : j - k % 64 ≠ 0 := by omega
          simp [this]
    · refine (set_was q g _ _ k _ w hm.n hm.words (hm.word hw) hk hm.2.2.2.1 hw (by rw [fits_at hm.2.2.1]; exact hb)).mono fun e w' he => drawn_turned hm (set_same l k true hb hk) he
theorem clear_any (q g : Nat) (l : List Bool) (ws : List (BitVec 64)) (k : Int) (w : World) (hm : Bits w q g l ws) :
    Calls Tryz.prog 141 #[.pointer (some ⟨q, 0, none⟩), .int .i64 k] w (Turned q g (setL l k false) (setB l k false) w) := by
  unfold setL setB
  cases h : hasB l.length k
  · rw [if_neg (by simp)]
    exact (clear_no q g l ws k w hm (by unfold tst; rw [h]; rfl)).mono fun e w' he => drawn_turned hm rfl he
  · obtain ⟨h0, h1⟩ := hasB_iff.1 h
    obtain ⟨k, rfl⟩ := Int.eq_ofNat_of_zero_le h0
    have hk : k < l.length := by omega
    have hw := fits_lt hm.2.2.1 hk
    rw [if_pos rfl, Int.toNat_natCast, Bool.true_and]
    cases hb : l.getD k false
    · exact (clear_no q g l ws k w hm (by rw [tst_nat]; exact hb)).mono fun e w' he => drawn_turned hm (set_same l k false hb hk) he
    · refine (clear_yes q g _ _ k _ w hm.n hm.words (hm.word hw) hk hm.2.2.2.1 hw (by rw [fits_at hm.2.2.1]; exact hb) (hm.2.1.frozen _)).mono fun e w' he => put_turned hm hk (fun j hj => ?_) he
      rw [BitVec.getLsbD_and, BitVec.getLsbD_not, BitVec.getLsbD_shiftLeft]
      by_cases e : j = k % 64
      · subst e; simp
      · rw [if_neg e]
        by_cases e2 : j < k % 64
        · simp [e2, hj]
        · have : j - k % 64 ≠ 0 := by omega
          simp [this, hj]
end Go.Proofs.YtckcgaliphpgeaaGreatDoor.Bi

/-
  What New, Count and Nth do: contracts that the claimed proofs use.
-/
namespace Go.Proofs.YtckcgaliphpgeaaGreatDoor.Bi
set_option maxRecDepth 100000
open Go.RowKit

def bt (l : List Bool) (k : Nat) : Bool := l.getD k false
/-- The set bits, rising. -/
def sets (l : List Bool) : List Nat := on (bt l) l.length
theorem bt_beyond {l : List Bool} {k : Nat} (h : l.length ≤ k) : bt l k = false := by
  unfold bt; rw [List.getD_eq_getElem?_getD, List.getElem?_eq_none h]; rfl
theorem sets_more {l : List Bool} {m : Nat} (h : l.length ≤ m) : on (bt l) m = sets l := on_more h (fun _ hj => bt_beyond hj)
theorem on_word {l : List Bool} {ws : List (BitVec 64)} (h : Fits l ws) (k : Nat) : on (bt l) (64 * (k + 1)) = on (bt l) (64 * k) ++ (sw (ws.getD k 0#64)).map (64 * k + ·) := by
  rw [show 64 * (k + 1) = 64 * k + 64 by omega, on_add]
  congr 2
  exact on_congr (fun j hj => (h.2 k j hj).symm)
theorem on_all {l : List Bool} {ws : List (BitVec 64)} (h : Fits l ws) : on (bt l) (64 * ws.length) = sets l := sets_more (by have := h.1; omega)
theorem on_le (b : Nat → Bool) {n m : Nat} (h : n ≤ m) : ∃ r, on b m = on b n ++ r := by
  obtain ⟨d, rfl⟩ : ∃ d, m = n + d := ⟨m - n, by omega⟩
  exact ⟨_, on_add b n d⟩
theorem sets_length_le (l : List Bool) : (sets l).length ≤ l.length := on_length_le _ _

/-! ### New -/
def Newed (n : Nat) (w : World) (e : Ending) (w' : World) : Prop :=
  e = .returned (.tuple #[.pointer (some ⟨w.heap.size + 1, 0, none⟩), .int .i64 0]) ∧ Bits w' (w.heap.size + 1) w.heap.size (List.replicate n false) (List.replicate ((n + 63) / 64) 0#64) ∧ Below w.heap.size w w' ∧ w'.heap.size = w.heap.size + 2
theorem wrow_none (m : Nat) : List.replicate m (Value.int .u64 0) = wrow (List.replicate m 0#64) := by
  unfold wrow; rw [List.map_replicate]; rfl
theorem new_yes (n : Nat) (hn : n ≤ 4096) (w : World) (hw : 1 < w.heap.size) : Calls Tryz.prog 179 #[.int .i64 (n : Int)] w (Newed n w) := by
  obtain ⟨m, hm⟩ : ∃ m, (n + 63) / 64 = m := ⟨_, rfl⟩
  have e1 : ((n : Int) + 64 - 1) / 64 = (m : Int) := by omega
  have hmk := make_words m (by omega)
  have HW := Lib.hid hw
  have HM := Lib.hid hm
  clear hm hw
  go_enter Tryz.func179, Tryz.ntmps179
  go_wp2
  go_ret2
  refine ⟨rfl, ⟨?_, ?_, fits_none n, by simpa using hn, Nat.lt_succ_of_lt HW.out, HW.out⟩, ((Below.refl _ w).alloc (Nat.le_refl _) _).alloc (by simp) _, by simp⟩
  · have := heap_alloc_new (w.alloc (.cells (madeCells #[.int .u64 0] m) 144)) (.cells #[.int .i64 (n : Int), .slice (some ⟨w.heap.size, 0, none⟩) m m] 149)
    rw [HM.out]
    simpa [Blk] using this
  · rw [HM.out, ← wrow_none]
    exact (Blk.made w (.int .u64 0) m 144).of (Below.heap_alloc _ _ _ (by simp))
theorem new_no (n : Int) (w : World) (h : n < 0) : Calls Tryz.prog 179 #[.int .i64 n] w fun e w' => e = .returned (.tuple #[.pointer none, .int .i64 11]) ∧ w = w' := by
  have hd : decide (n < 0) = true := by simpa using h
  go_enter Tryz.func179, Tryz.ntmps179
  go_wp2
  go_ret2
  exact ⟨rfl, rfl⟩

/-! ### Count -/
theorem count_any (q g : Nat) (l : List Bool) (ws : List (BitVec 64)) (w : World) (hm : Bits w q g l ws) :
    Calls Tryz.prog 47 #[.pointer (some ⟨q, 0, none⟩)] w fun e w' => e = .returned (.int .i64 ((sets l).length : Int)) ∧ w = w' := by
  have hs := hm.words
  have HX : Hid (∀ i, i < ws.length → w.cell? ⟨g, i, none⟩ = some (.int .u64 (u (ws.getD i 0#64)))) := fun i hi => hm.word hi
  have hL := hm.many.2.1
  have HF := Lib.hid hm.2.2.1
  clear hm
  obtain ⟨L, hl⟩ : ∃ L, ws.length = L := ⟨_, rfl⟩
  have HL := Lib.hid hl
  rw [hl] at hs HX hL
  clear hl
  go_enter Tryz.func47, Tryz.ntmps47
  go_wp2
  go_loop [3, 11] (fun c i => ∃ k n : Nat, k ≤ L ∧ i = .int .i64 k ∧ c = .int .i64 n ∧ n = (on (bt l) (64 * k)).length) (fun _ i => L - (intOf i).toNat)
  case atStart => exact ⟨0, 0, by omega, rfl, rfl, rfl⟩
  case round =>
    obtain ⟨k, n, hk, rfl, rfl, hn⟩ := hrel
    have HN := Lib.hid hn
    have hnb : n ≤ 64 * k := by rw [hn]; exact on_length_le _ _
    clear hn
    by_cases hlt : k < L
    · have q1 := HX.out k hlt
      obtain ⟨x, hx⟩ : ∃ x, ws.getD k 0#64 = x := ⟨_, rfl⟩
      rw [hx] at q1
      have HXX := Lib.hid hx
      obtain ⟨m, hmm⟩ : ∃ m, (sw x).length = m := ⟨_, rfl⟩
      have hmb : m ≤ 64 := by rw [← hmm]; exact on_length_le _ _
      have HM := Lib.hid hmm
      have hc := ones_any x w
      rw [hmm] at hc
      have HC := Lib.hid hc
      clear hx hmm hc
      go_wp2_with (go_at_call 95; refine HC.out.mono ?_; rintro e w' ⟨rfl, rfl⟩)
      go_round
      case rel =>
        refine ⟨k + 1, n + m, by omega, by go_num, by go_num, ?_⟩
        rw [on_word HF.out k, HXX.out, List.length_append, List.length_map, HM.out, ← HN.out]
      case measure => simp [intOf]; omega
    · obtain rfl : k = L := by omega
      go_wp2
      go_ret
      exact ⟨ret_i (by rw [HN.out, ← HL.out, on_all HF.out]), rfl⟩

/-! ### The n-th set bit -/
theorem and_raw (y : BitVec 64) : bits .and .u64 (u y) (IntKind.u64.wrap (u y - 1)) = u (y &&& (y - 1#64)) := by
  rw [show (1 : Int) = u 1#64 from rfl, sub_u, and_u]
/-- The n-th of a list; -1, if there is none. -/
def nthI (xs : List Nat) (n : Int) : Int := if 0 ≤ n then (match xs[n.toNat]? with | some k => (k : Int) | none => -1) else -1
theorem nthI_some {xs : List Nat} {n k : Nat} (h : xs[n]? = some k) : nthI xs n = k := by
  unfold nthI; rw [if_pos (by omega), Int.toNat_natCast, h]
theorem nthI_none {xs : List Nat} {n : Nat} (h : xs.length ≤ n) : nthI xs n = -1 := by
  unfold nthI; rw [if_pos (by omega), Int.toNat_natCast, List.getElem?_eq_none h]
end Go.Proofs.YtckcgaliphpgeaaGreatDoor.Bi

/-
  What First does: a contract that the claimed proofs use.
-/
namespace Go.Proofs.YtckcgaliphpgeaaGreatDoor.Bi
set_option maxRecDepth 100000
open Go.RowKit

/-! ### The least bit -/
def firstI (l : List Bool) (set : Bool) : Nat → Nat → Int
  | _, 0 => -1
  | k, d + 1 => if bt l k = set then (k : Int) else firstI l set (k + 1) d
/-- The least bit from one on that is set, or clear; -1, if there is none. -/
def first (l : List Bool) (from' : Nat) (set : Bool) : Int := firstI l set from' (l.length - from')
def IsFirst (l : List Bool) (f : Nat) (set : Bool) (r : Int) : Prop :=
  (r = -1 ∧ ∀ k, f ≤ k → k < l.length → bt l k ≠ set) ∨ (∃ k : Nat, r = k ∧ f ≤ k ∧ k < l.length ∧ bt l k = set ∧ ∀ j, f ≤ j → j < k → bt l j ≠ set)
theorem isFirst_I (l : List Bool) (set : Bool) : ∀ (d f : Nat), l.length - f = d → IsFirst l f set (firstI l set f d)
  | 0, f, h => Or.inl ⟨rfl, fun k h1 h2 => by omega⟩
  | d + 1, f, h => by
    rw [firstI]
    split
    · rename_i e
      exact Or.inr ⟨f, rfl, Nat.le_refl _, by omega, e, fun j h1 h2 => by omega⟩
    · rename_i e
      rcases isFirst_I l set d (f + 1) (by omega) with ⟨h1, h2⟩ | ⟨k, h1, h2, h3, h4, h5⟩
      · refine Or.inl ⟨h1, fun k hk hl => ?_⟩
        by_cases ek : k = f
        · rw [ek]; exact e
        · exact h2 k (by omega) hl
      · refine Or.inr ⟨k, h1, by omega, h3, h4, fun j hj hl => ?_⟩
        by_cases ek : j = f
        · rw [ek]; exact e
        · exact h5 j (by omega) hl
theorem isFirst_first (l : List Bool) (f : Nat) (set : Bool) : IsFirst l f set (first l f set) := isFirst_I l set _ f rfl
theorem isFirst_one {l : List Bool} {f : Nat} {set : Bool} {r s : Int} (h : IsFirst l f set r) (k : IsFirst l f set s) : r = s := by
  rcases h with ⟨rfl, a⟩ | ⟨i, rfl, a1, a2, a3, a4⟩
  · rcases k with ⟨rfl, _⟩ | ⟨j, rfl, b1, b2, b3, _⟩
    · rfl
    · exact absurd b3 (a j b1 b2)
  · rcases k with ⟨rfl, b⟩ | ⟨j, rfl, b1, b2, b3, b4⟩
    · exact absurd a3 (b i a1 a2)
    · rcases Nat.lt_trichotomy i j with h | h | h
      · exact absurd a3 (b4 i a1 h)
      · rw [h]
      · exact absurd b3 (a4 j b1 h)

theorem low_mask (m : Nat) (hm : m < 64) (j : Nat) : (1#64 <<< m - 1#64).getLsbD j = decide (j < m) := by
  have e : (1#64 <<< m - 1#64).toNat = 2 ^ m - 1 := by
    have h1 : (1#64 <<< m).toNat = 2 ^ m := by
      rw [BitVec.toNat_shiftLeft, Nat.shiftLeft_eq, show (1#64).toNat = 1 from rfl, Nat.one_mul]
      exact Nat.mod_eq_of_lt (Nat.pow_lt_pow_right (by decide) hm)
    have h2 : 2 ^ m < 2 ^ 64 := Nat.pow_lt_pow_right (by decide) hm
    have h3 : 0 < 2 ^ m := Nat.two_pow_pos m
    rw [BitVec.toNat_sub, h1, show (1#64).toNat = 1 from rfl]
    omega
  rw [BitVec.getLsbD, e, Nat.testBit_two_pow_sub_one]

def seek (x : BitVec 64) (set : Bool) : BitVec 64 := if set then x else ~~~ x
theorem not_u (x : BitVec 64) : bits .xor .u64 IntKind.u64.max (u x) = u (~~~ x) := by
  have e : IntKind.u64.max = (((BitVec.allOnes 64).toNat : Nat) : Int) := by decide +kernel
  unfold u
  rw [e, u64_xor_nat _ _ (BitVec.isLt _) x.isLt, ← BitVec.toNat_xor, BitVec.allOnes_xor]
theorem sought_any (q g L k : Nat) (x : BitVec 64) (set : Bool) (w : World) (hs : w.cell? ⟨q, 1, none⟩ = some (.slice (some ⟨g, 0, none⟩) L L)) (hx : w.cell? ⟨g, k, none⟩ = some (.int .u64 (u x))) (hk : k < L) :
    Calls Tryz.prog 153 #[.pointer (some ⟨q, 0, none⟩), .int .i64 (k : Int), .bool set] w fun e w' => e = .returned (.int .u64 (u (seek x set))) ∧ w = w' := by
  cases set
  · go_enter Tryz.func153, Tryz.ntmps153
    go_wp2
    go_ret
    exact ⟨ret_u (not_u x), rfl⟩
  · go_enter Tryz.func153, Tryz.ntmps153
    go_wp2
    go_ret
    exact ⟨rfl, rfl⟩
theorem within_any (q n : Nat) (k : Int) (w : World) (hc : w.cell? ⟨q, 0, none⟩ = some (.int .i64 (n : Int))) :
    Calls Tryz.prog 154 #[.pointer (some ⟨q, 0, none⟩), .int .i64 k] w fun e w' => e = .returned (.int .i64 (if hasB n k then k else -1)) ∧ w = w' := by
  cases h : hasB n k
  · go_enter Tryz.func154, Tryz.ntmps154
    go_wp2_with (go_at_call 151; refine (has_any q n _ _ hc).mono ?_; rw [h]; rintro e w' ⟨rfl, rfl⟩)
    go_ret
    exact ⟨rfl, rfl⟩
  · go_enter Tryz.func154, Tryz.ntmps154
    go_wp2_with (go_at_call 151; refine (has_any q n _ _ hc).mono ?_; rw [h]; rintro e w' ⟨rfl, rfl⟩)
    go_ret
    exact ⟨rfl, rfl⟩
theorem seek_bit {l : List Bool} {ws : List (BitVec 64)} (h : Fits l ws) (k j : Nat) (set : Bool) (hj : j < 64) : (seek (ws.getD k 0#64) set).getLsbD j = (bt l (64 * k + j) == set) := by
  have := h.2 k j hj
  unfold seek
  cases set
  · rw [if_neg (by simp), BitVec.getLsbD_not, this]; simp [hj, bt]
  · rw [if_pos rfl, this]; simp [bt]
/-- The bits that are looked for in a word. -/
theorem word_bit {l : List Bool} {ws : List (BitVec 64)} (h : Fits l ws) (k F j : Nat) (set : Bool) (hj : j < 64) (B : BitVec 64) (hB : ∀ j, j < 64 → B.getLsbD j = decide (64 * k + j < F)) :
    (seek (ws.getD k 0#64) set &&& ~~~ B).getLsbD j = ((bt l (64 * k + j) == set) && decide (F ≤ 64 * k + j)) := by
  rw [BitVec.getLsbD_and, seek_bit h k j set hj, BitVec.getLsbD_not, hB j hj]
  have e : (!decide (64 * k + j < F)) = decide (F ≤ 64 * k + j) := by rw [← decide_not]; simp
  rw [e]; simp [hj]
def Mask (k F : Nat) (B : BitVec 64) : Prop := ∀ j, j < 64 → B.getLsbD j = decide (64 * k + j < F)
def NoneTo (l : List Bool) (F k : Nat) (set : Bool) : Prop := ∀ j, F ≤ j → j < k → j < l.length → bt l j ≠ set
theorem first_no (q n : Nat) (f : Int) (set : Bool) (w : World) (hc : w.cell? ⟨q, 0, none⟩ = some (.int .i64 (n : Int))) (hf : (n : Int) ≤ f) :
    Calls Tryz.prog 115 #[.pointer (some ⟨q, 0, none⟩), .int .i64 f, .bool set] w fun e w' => e = .returned (.int .i64 (-1)) ∧ w = w' := by
  have hno : hasB n f = false := hasB_not.2 (by omega)
  go_enter Tryz.func115, Tryz.ntmps115
  go_wp2_with (go_at_call 151; refine (has_any q n _ _ hc).mono ?_; rw [hno]; rintro e w' ⟨rfl, rfl⟩)
  go_ret
  exact ⟨rfl, rfl⟩
theorem first_none (q n : Nat) (f : Int) (set : Bool) (w : World) (hc : w.cell? ⟨q, 0, none⟩ = some (.int .i64 (n : Int))) (hf : f < 0) (hn : n = 0) :
    Calls Tryz.prog 115 #[.pointer (some ⟨q, 0, none⟩), .int .i64 f, .bool set] w fun e w' => e = .returned (.int .i64 (-1)) ∧ w = w' := by
  have hno : hasB n 0 = false := hasB_not.2 (by omega)
  go_enter Tryz.func115, Tryz.ntmps115
  go_wp2_with (go_at_call 151; refine (has_any q n _ _ hc).mono ?_; rw [hno]; rintro e w' ⟨rfl, rfl⟩)
  go_ret
  exact ⟨rfl, rfl⟩
theorem first_yes (q g F : Nat) (l : List Bool) (ws : List (BitVec 64)) (set : Bool) (w : World) (hm : Bits w q g l ws) (hT : Tab w) (hF : F < l.length) :
    Calls Tryz.prog 115 #[.pointer (some ⟨q, 0, none⟩), .int .i64 (F : Int), .bool set] w fun e w' => e = .returned (.int .i64 (first l F set)) ∧ w = w' := by
  have hs := hm.words
  have hc := hm.n
  have hy : hasB l.length (F : Int) = true := hasB_iff.2 (by omega)
  have HX : Hid (∀ i, i < ws.length → w.cell? ⟨g, i, none⟩ = some (.int .u64 (u (ws.getD i 0#64)))) := fun i hi => hm.word hi
  have hL := hm.many.2.1
  have hn := hm.2.2.2.1
  have HLn := Lib.hid hm.2.2.1.1
  have HF := Lib.hid hm.2.2.1
  have HT := Lib.hid hT
  clear hm hT
  obtain ⟨L, hl⟩ : ∃ L, ws.length = L := ⟨_, rfl⟩
  have HL := Lib.hid hl
  rw [hl] at hs HX hL HLn
  obtain ⟨n, hl2⟩ : ∃ n, l.length = n := ⟨_, rfl⟩
  have HN := Lib.hid hl2
  rw [hl2] at hc hy hn hF HLn
  have hFL : F / 64 ≤ L := by have := HLn.out; omega
  clear hl hl2
  have hbit := bit_any F (by omega) w
  have HB := Lib.hid hbit
  clear hbit
  go_enter Tryz.func115, Tryz.ntmps115
  go_wp2_with (first | (go_at_call 151; refine (has_any q n _ _ hc).mono ?_; rw [hy]; rintro e w' ⟨rfl, rfl⟩) | (go_at_call 152; refine HB.out.mono ?_; rintro e w' ⟨rfl, rfl⟩))
  go_loop [7, 8] (fun c i => ∃ (k : Nat) (B : BitVec 64), F / 64 ≤ k ∧ k ≤ L ∧ i = .int .i64 k ∧ c = .int .u64 (u B) ∧ Mask k F B ∧ NoneTo l F (64 * k) set) (fun _ i => L - (intOf i).toNat)
  case atStart =>
    refine ⟨F / 64, 1#64 <<< (F % 64) - 1#64, by omega, hFL, by go_num, ?_, fun j hj => ?_, fun j h1 h2 h3 => by omega⟩
    · rw [show (1 : Int) = u 1#64 from rfl, sub_u]
    · rw [low_mask _ (by omega)]; congr 1; rw [eq_iff_iff]; omega
  case round =>
    obtain ⟨k, B, hk0, hk, rfl, rfl, hB, hnone⟩ := hrel
    have HBm := Lib.hid hB
    have HNo := Lib.hid hnone
    clear hB hnone
    by_cases hlt : k < L
    · have q1 := HX.out k hlt
      have hwb : ∀ j, j < 64 → _ := fun j hj => word_bit HF.out k F j set hj B HBm.out
      obtain ⟨x, hx⟩ : ∃ x, ws.getD k 0#64 = x := ⟨_, rfl⟩
      rw [hx] at q1 hwb
      have hso := sought_any q g L k x set w hs q1 hlt
      obtain ⟨S, hS⟩ : ∃ S, seek x set = S := ⟨_, rfl⟩
      rw [hS] at hso hwb
      have HSO := Lib.hid hso
      have hR := andNot_u S B
      obtain ⟨V, hV⟩ : ∃ V, S &&& ~~~ B = V := ⟨_, rfl⟩
      rw [hV] at hR hwb
      have HWB := Lib.hid hwb
      clear hx hso hS hV hwb
      by_cases hv : V = 0#64
      · have hne : (u V != 0) = false := by rw [hv]; rfl
        have HV := Lib.hid hv
        clear hv
        go_wp2_with (go_at_call 153; refine HSO.out.mono ?_; rintro e w' ⟨rfl, rfl⟩)
        go_round
        case rel =>
          refine ⟨k + 1, 0#64, by omega, by omega, by go_num, rfl, fun j hj => ?_, fun j h1 h2 h3 => ?_⟩
          · rw [BitVec.getLsbD_zero]; symm; rw [decide_eq_false_iff_not]; omega
          · by_cases h4 : j < 64 * k
            · exact HNo.out j h1 h4 h3
            · have := HWB.out (j - 64 * k) (by omega)
              rw [HV.out, BitVec.getLsbD_zero, show 64 * k + (j - 64 * k) = j by omega, decide_eq_true h1, Bool.and_true] at this
              exact fun e => by rw [e] at this; simp at this
        case measure => simp [intOf]; omega
      · have hne : (u V != 0) = true := by rw [show (0 : Int) = u 0#64 from rfl, u_bne]; simpa using hv
        have htz := tz_any V w hv HT.out
        have hlow := low_is V hv
        obtain ⟨m, hm', hcb⟩ := low_bit V hv
        obtain ⟨c, hcc⟩ : ∃ c, Lib.ctz 64 V.toNat = c := ⟨_, rfl⟩
        rw [hcc] at htz hlow hcb
        have HTZ := Lib.hid htz
        have HLO := Lib.hid hlow
        have hwi := within_any q n ((k : Int) * 64 + (c : Int)) w hc
        obtain ⟨r, hr⟩ : ∃ r, (if hasB n ((k : Int) * 64 + (c : Int)) = true then (k : Int) * 64 + (c : Int) else -1) = r := ⟨_, rfl⟩
        rw [hr] at hwi
        have HWI := Lib.hid hwi
        have HR := Lib.hid hr
        clear hv htz hlow hm' hcc hwi hr
        go_wp2_with (first | (go_at_call 153; refine HSO.out.mono ?_; rintro e w' ⟨rfl, rfl⟩) | (go_at_call 93; refine HTZ.out.mono ?_; rintro e w' ⟨rfl, rfl⟩) | (go_at_call 154; refine HWI.out.mono ?_; rintro e w' ⟨rfl, rfl⟩))
        go_ret
        refine ⟨ret_i (isFirst_one (l := l) (f := F) (set := set) ?_ (isFirst_first l F set)), rfl⟩
        have low : ∀ j, F ≤ j → j < 64 * k + c → j < l.length → bt l j ≠ set := fun j h1 h2 h3 => by
          by_cases h4 : j < 64 * k
          · exact HNo.out j h1 h4 h3
          · have := HWB.out (j - 64 * k) (by omega)
            rw [HLO.out.2 _ (by omega), show 64 * k + (j - 64 * k) = j by omega, decide_eq_true h1, Bool.and_true] at this
            exact fun e => by rw [e] at this; simp at this
        have hit := HWB.out c hcb
        rw [HLO.out.1] at hit
        simp only [Bool.true_eq, Bool.and_eq_true, beq_iff_eq, decide_eq_true_eq] at hit
        rw [← HR.out]
        by_cases hin : 64 * k + c < n
        · rw [if_pos (hasB_iff.2 (by omega))]
          exact Or.inr ⟨64 * k + c, by omega, hit.2, by rw [HN.out]; exact hin, hit.1, fun j h1 h2 => low j h1 h2 (by rw [HN.out]; omega)⟩
        · rw [if_neg (by rw [hasB_not.2 (by omega)]; simp)]
          exact Or.inl ⟨rfl, fun j h1 h2 => low j h1 (by rw [HN.out] at h2; omega) h2⟩
    · obtain rfl : k = L := by omega
      go_wp2
      go_ret
      refine ⟨ret_i (isFirst_one (l := l) (f := F) (set := set) (Or.inl ⟨rfl, fun j h1 h2 => HNo.out j h1 ?_ h2⟩) (isFirst_first l F set)), rfl⟩
      have := HLn.out; rw [HN.out] at h2; omega
theorem first_below (q g : Nat) (f : Int) (l : List Bool) (ws : List (BitVec 64)) (set : Bool) (w : World) (hm : Bits w q g l ws) (hT : Tab w) (hF : 0 < l.length) (hf : f < 0) :
    Calls Tryz.prog 115 #[.pointer (some ⟨q, 0, none⟩), .int .i64 f, .bool set] w fun e w' => e = .returned (.int .i64 (first l 0 set)) ∧ w = w' := by
  have hs := hm.words
  have hc := hm.n
  have hy : hasB l.length 0 = true := hasB_iff.2 (by omega)
  have HX : Hid (∀ i, i < ws.length → w.cell? ⟨g, i, none⟩ = some (.int .u64 (u (ws.getD i 0#64)))) := fun i hi => hm.word hi
  have hL := hm.many.2.1
  have hn := hm.2.2.2.1
  have HLn := Lib.hid hm.2.2.1.1
  have HF := Lib.hid hm.2.2.1
  have HT := Lib.hid hT
  clear hm hT
  obtain ⟨L, hl⟩ : ∃ L, ws.length = L := ⟨_, rfl⟩
  have HL := Lib.hid hl
  rw [hl] at hs HX hL HLn
  obtain ⟨n, hl2⟩ : ∃ n, l.length = n := ⟨_, rfl⟩
  have HN := Lib.hid hl2
  rw [hl2] at hc hy hn hF HLn
  have hFL : 0 / 64 ≤ L := by omega
  clear hl hl2
  have hbit : Calls Tryz.prog 152 #[.int .i64 0] w _ := bit_any 0 (by omega) w
  have HB := Lib.hid hbit
  clear hbit
  go_enter Tryz.func115, Tryz.ntmps115
  go_wp2_with (first | (go_at_call 151; refine (has_any q n _ _ hc).mono ?_; rw [hy]; rintro e w' ⟨rfl, rfl⟩) | (go_at_call 152; refine HB.out.mono ?_; rintro e w' ⟨rfl, rfl⟩))
  go_loop [7, 8] (fun c i => ∃ (k : Nat) (B : BitVec 64), 0 / 64 ≤ k ∧ k ≤ L ∧ i = .int .i64 k ∧ c = .int .u64 (u B) ∧ Mask k 0 B ∧ NoneTo l 0 (64 * k) set) (fun _ i => L - (intOf i).toNat)
  case atStart =>
    refine ⟨0 / 64, 1#64 <<< (0 % 64) - 1#64, by omega, hFL, by go_num, ?_, fun j hj => ?_, fun j h1 h2 h3 => by omega⟩
    · rw [show (1 : Int) = u 1#64 from rfl, sub_u]; rfl
    · rw [low_mask _ (by omega)]; congr 1; rw [eq_iff_iff]; omega
  case round =>
    obtain ⟨k, B, hk0, hk, rfl, rfl, hB, hnone⟩ := hrel
    have HBm := Lib.hid hB
    have HNo := Lib.hid hnone
    clear hB hnone
    by_cases hlt : k < L
    · have q1 := HX.out k hlt
      have hwb : ∀ j, j < 64 → _ := fun j hj => word_bit HF.out k 0 j set hj B HBm.out
      obtain ⟨x, hx⟩ : ∃ x, ws.getD k 0#64 = x := ⟨_, rfl⟩
      rw [hx] at q1 hwb
      have hso := sought_any q g L k x set w hs q1 hlt
      obtain ⟨S, hS⟩ : ∃ S, seek x set = S := ⟨_, rfl⟩
      rw [hS] at hso hwb
      have HSO := Lib.hid hso
      have hR := andNot_u S B
      obtain ⟨V, hV⟩ : ∃ V, S &&& ~~~ B = V := ⟨_, rfl⟩
      rw [hV] at hR hwb
      have HWB := Lib.hid hwb
      clear hx hso hS hV hwb
      by_cases hv : V = 0#64
      · have hne : (u V != 0) = false := by rw [hv]; rfl
        have HV := Lib.hid hv
        clear hv
        go_wp2_with (go_at_call 153; refine HSO.out.mono ?_; rintro e w' ⟨rfl, rfl⟩)
        go_round
        case rel =>
          refine ⟨k + 1, 0#64, by omega, by omega, by go_num, rfl, fun j hj => ?_, fun j h1 h2 h3 => ?_⟩
          · rw [BitVec.getLsbD_zero]; symm; rw [decide_eq_false_iff_not]; omega
          · by_cases h4 : j < 64 * k
            · exact HNo.out j h1 h4 h3
            · have := HWB.out (j - 64 * k) (by omega)
              rw [HV.out, BitVec.getLsbD_zero, show 64 * k + (j - 64 * k) = j by omega, decide_eq_true h1, Bool.and_true] at this
              exact fun e => by rw [e] at this; simp at this
        case measure => simp [intOf]; omega
      · have hne : (u V != 0) = true := by rw [show (0 : Int) = u 0#64 from rfl, u_bne]; simpa using hv
        have htz := tz_any V w hv HT.out
        have hlow := low_is V hv
        obtain ⟨m, hm', hcb⟩ := low_bit V hv
        obtain ⟨c, hcc⟩ : ∃ c, Lib.ctz 64 V.toNat = c := ⟨_, rfl⟩
        rw [hcc] at htz hlow hcb
        have HTZ := Lib.hid htz
        have HLO := Lib.hid hlow
        have hwi := within_any q n ((k : Int) * 64 + (c : Int)) w hc
        obtain ⟨r, hr⟩ : ∃ r, (if hasB n ((k : Int) * 64 + (c : Int)) = true then (k : Int) * 64 + (c : Int) else -1) = r := ⟨_, rfl⟩
        rw [hr] at hwi
        have HWI := Lib.hid hwi
        have HR := Lib.hid hr
        clear hv htz hlow hm' hcc hwi hr
        go_wp2_with (first | (go_at_call 153; refine HSO.out.mono ?_; rintro e w' ⟨rfl, rfl⟩) | (go_at_call 93; refine HTZ.out.mono ?_; rintro e w' ⟨rfl, rfl⟩) | (go_at_call 154; refine HWI.out.mono ?_; rintro e w' ⟨rfl, rfl⟩))
        go_ret
        refine ⟨ret_i (isFirst_one (l := l) (f := 0) (set := set) ?_ (isFirst_first l 0 set)), rfl⟩
        have low : ∀ j, 0 ≤ j → j < 64 * k + c → j < l.length → bt l j ≠ set := fun j h1 h2 h3 => by
          by_cases h4 : j < 64 * k
          · exact HNo.out j h1 h4 h3
          · have := HWB.out (j - 64 * k) (by omega)
            rw [HLO.out.2 _ (by omega), show 64 * k + (j - 64 * k) = j by omega, decide_eq_true h1, Bool.and_true] at this
            exact fun e => by rw [e] at this; simp at this
        have hit := HWB.out c hcb
        rw [HLO.out.1] at hit
        simp only [Bool.true_eq, Bool.and_eq_true, beq_iff_eq, decide_eq_true_eq] at hit
        rw [← HR.out]
        by_cases hin : 64 * k + c < n
        · rw [if_pos (hasB_iff.2 (by omega))]
          exact Or.inr ⟨64 * k + c, by omega, hit.2, by rw [HN.out]; exact hin, hit.1, fun j h1 h2 => low j h1 h2 (by rw [HN.out]; omega)⟩
        · rw [if_neg (by rw [hasB_not.2 (by omega)]; simp)]
          exact Or.inl ⟨rfl, fun j h1 h2 => low j h1 (by rw [HN.out] at h2; omega) h2⟩
    · obtain rfl : k = L := by omega
      go_wp2
      go_ret
      refine ⟨ret_i (isFirst_one (l := l) (f := 0) (set := set) (Or.inl ⟨rfl, fun j h1 h2 => HNo.out j h1 ?_ h2⟩) (isFirst_first l 0 set)), rfl⟩
      have := HLn.out; rw [HN.out] at h2; omega
/-- First. -/
theorem first_any (q g : Nat) (f : Int) (l : List Bool) (ws : List (BitVec 64)) (set : Bool) (w : World) (hm : Bits w q g l ws) (hT : Tab w) :
    Calls Tryz.prog 115 #[.pointer (some ⟨q, 0, none⟩), .int .i64 f, .bool set] w fun e w' => e = .returned (.int .i64 (first l f.toNat set)) ∧ w = w' := by
  by_cases hn : (l.length : Int) ≤ f
  · have := first_no q l.length f set w hm.n hn
    have e : first l f.toNat set = -1 := isFirst_one (isFirst_first _ _ _) (Or.inl ⟨rfl, fun k h1 h2 => by omega⟩)
    rw [e]; exact this
  · by_cases h0 : 0 ≤ f
    · obtain ⟨F, rfl⟩ := Int.eq_ofNat_of_zero_le h0
      exact first_yes q g F l ws set w hm hT (by omega)
    · have e : f.toNat = 0 := by omega
      rw [e]
      by_cases hl : 0 < l.length
      · exact first_below q g f l ws set w hm hT hl (by omega)
      · exact first_none q l.length f set w hm.n (by omega) (by omega) |>.mono fun e w' h => by
          have e : first l 0 set = -1 := isFirst_one (isFirst_first _ _ _) (Or.inl ⟨rfl, fun k h1 h2 => by omega⟩)
          rw [e]; exact h
end Go.Proofs.YtckcgaliphpgeaaGreatDoor.Bi

/-
  What List, the references' List and SameInts do: contracts that the claimed proofs use.
-/
namespace Go.Proofs.YtckcgaliphpgeaaGreatDoor.Bi
set_option maxRecDepth 100000
open Go.RowKit

/-! ### Lists of numbers -/
def irow (xs : List Nat) : List Value := xs.map fun (x : Nat) => Value.int .i64 (x : Int)
theorem irow_length (xs : List Nat) : (irow xs).length = xs.length := by simp [irow]
theorem irow_get {xs : List Nat} {i : Nat} (h : i < xs.length) : (irow xs)[i]? = some (.int .i64 ((xs.getD i 0 : Nat) : Int)) := by
  rw [irow, List.getElem?_map, List.getD_eq_getElem?_getD, List.getElem?_eq_getElem h]; rfl
/-- A list of numbers: of its address something is said only where there is an element. -/
def IA (B : Nat) (w : World) (A : Option Addr) (xs : List Nat) : Prop :=
  0 < xs.length → ∃ b o, A = some ⟨b, o, none⟩ ∧ b < B ∧ ∀ j, j < xs.length → w.cell? ⟨b, o + j, none⟩ = some (.int .i64 ((xs.getD j 0 : Nat) : Int))
theorem IA.below {B : Nat} {w w' : World} {A : Option Addr} {xs : List Nat} (h : IA B w A xs) (hb : Below B w w') : IA B w' A xs := fun hp => by
  obtain ⟨b, o, e, hg, hc⟩ := h hp
  exact ⟨b, o, e, hg, fun i hi => (hb.cell (p := ⟨b, o + i, none⟩) hg).trans (hc i hi)⟩
theorem IA.more {B B' : Nat} {w : World} {A : Option Addr} {xs : List Nat} (h : IA B w A xs) (hb : B ≤ B') : IA B' w A xs := fun hp => by
  obtain ⟨b, o, e, hg, hc⟩ := h hp
  exact ⟨b, o, e, by omega, hc⟩
theorem Drawn.cell {w wr : World} (h : Drawn w wr) {p : Addr} {v : Value} (hc : w.cell? p = some v) : wr.cell? p = some v :=
  (h.below.cell (World.block_lt_of_cell? w p hc)).trans hc

theorem info_parts {t : TypeId} {z : Value} {s b : Nat} (h : (Tryz.prog.info? t).map (fun i => (i.zero, i.size, i.bytes)) = some (some z, s, b)) : ∃ i, Tryz.prog.info? t = some i ∧ i.zero = some z ∧ i.size = s ∧ i.bytes = b := by
  obtain ⟨i, hi, hp⟩ := Option.map_eq_some_iff.1 h
  simp only [Prod.mk.injEq] at hp
  exact ⟨i, hi, hp.1, hp.2.1, hp.2.2⟩
theorem own_base {w : World} {base : Nat} {e : TypeId} {size : Nat} {v : Value} {n : Nat} {xs : List Value} (h : w.ownsRow base e size v n xs) : ∀ g, v.ownBlock = some g → base ≤ g := by
  intro g hg
  rcases h.2 with ⟨rfl, _⟩ | ⟨g', cap, cur, rfl, hb, _⟩
  · simp [Value.ownBlock] at hg
  · simp [Value.ownBlock] at hg; omega
theorem own_lt {w : World} {base g cap n : Nat} {e : TypeId} {size : Nat} {xs : List Value} (h : w.ownsRow base e size (.slice (some ⟨g, 0, none⟩) n cap) n xs) : g < w.heap.size := by
  rcases h.2 with ⟨h', _⟩ | ⟨g', cap', cur, h', _, hb, _⟩
  · simp at h'
  · simp only [Value.slice.injEq, Option.some.injEq, Addr.mk.injEq, and_true, true_and] at h'
    obtain ⟨rfl, rfl⟩ := h'
    exact (Array.getElem?_eq_some_iff.1 hb).1
theorem own_ints {w : World} {base g cap n : Nat} {xs : List Nat} (h : w.ownsRow base 3 1 (.slice (some ⟨g, 0, none⟩) n cap) n (irow xs)) (hn : xs.length = n) : IA w.heap.size w (some ⟨g, 0, none⟩) xs := fun _ =>
  ⟨g, 0, rfl, own_lt h, fun j hj => by rw [Nat.zero_add, h.cellAt j (by omega)]; exact irow_get hj⟩
theorem new_at {w : World} {o : Obj} {n : Nat} (h : w.heap.size = n) : (w.alloc o).heap[n]? = some o := by subst h; exact heap_alloc_new w o
theorem append_int {W : World} {ops : Array Oper} {rest : List Oper} {o : Oper} {a : Act} {Q : Exit → Act → World → Prop} (hgd : o.guard = none) (s x : Operand)
    (ho : o.op = .call { callee := .builtin .append, args := #[s, x], argTypes := #[29, 29] }) (base g cap n m : Nat) (l : List Nat) (p : Nat)
    (hs : a.eval s = .slice (some ⟨g, 0, none⟩) m cap) (hown : W.ownsRow base 3 1 (.slice (some ⟨g, 0, none⟩) m cap) m (irow l))
    (hx : a.eval x = .slice (some ⟨n, 0, none⟩) 1 1) (hn : W.heap[n]? = some (.cells #[.int .i64 (p : Int)] 3 (0, 0))) (hl : m ≤ 1048577) (hbase : base ≤ W.heap.size)
    (h : ∀ g' cap' w', Hid (w'.ownsRow base 3 1 (.slice (some ⟨g', 0, none⟩) (m + 1) cap') (m + 1) (irow (l ++ [p]))) → Hid (Below base W w') →
      wpList Tryz.prog ops Q rest (a.put o.dst (.slice (some ⟨g', 0, none⟩) (m + 1) cap')) w') : wpList Tryz.prog ops Q (o :: rest) a W := by
  obtain ⟨i0, hi0, hz0, hz1, hz2⟩ := info_parts int_info
  refine wpList_append_lies W hgd s x 29 ho base 3 i0 _ 1 8 Tryz.underlying29 hi0 hz0 hz1 hz2 rfl (by omega) _ m (irow l) hs hown ⟨n, 0, none⟩ 1 1 [.int .i64 (p : Int)] hx rfl
    (World.news_of_block (cs := #[.int .i64 (p : Int)]) (t := 3) (fr := (0, 0)) hn) (by simp [Value.oneCell']) (by omega) (by simp only [maxLen]; omega) (by omega) hbase _ rfl ?_
  intro g' cap' w' h2 h3 _ _
  refine h g' cap' w' ?_ ((Below.refl _ W).grown h3 hbase (own_base hown))
  show World.ownsRow _ _ _ _ _ _ _
  rw [irow, List.map_append]
  exact h2

/-- What is left behind a call that answers a list of numbers of its own. -/
def Gave (xs : List Nat) (w : World) (e : Ending) (w' : World) : Prop :=
  ∃ g cap, e = .returned (.slice (some ⟨g, 0, none⟩) xs.length cap) ∧ w.heap.size ≤ g ∧ IA w'.heap.size w' (some ⟨g, 0, none⟩) xs ∧ Below w.heap.size w w'

/-! ### The references' List -/
/-! ### SameInts -/
theorem same_unlike (A B : Option Addr) (n m c d : Nat) (w : World) (h : n ≠ m) :
    Calls Tryz.prog 26 #[.slice A n c, .slice B m d] w fun e w' => e = .returned (.bool false) ∧ Drawn w w' := by
  have hd : ((n : Int) != (m : Int)) = true := by simp; omega
  go_enter Tryz.func26, Tryz.ntmps26
  go_wp2
  go_ret
  exact ⟨rfl, Drawn.refl _⟩
theorem same_none (A B : Option Addr) (c d : Nat) (w : World) :
    Calls Tryz.prog 26 #[.slice A 0 c, .slice B 0 d] w fun e w' => e = .returned (.bool true) ∧ Drawn w w' := by
  go_enter Tryz.func26, Tryz.ntmps26
  go_wp2
  go_loop [5] (fun i => i = .int .i64 0) (fun _ => 0)
  case atStart => rfl
  case round =>
    obtain rfl := hrel
    go_wp2
    go_ret
    exact ⟨rfl, Drawn.refl _⟩
theorem same_some (b o b2 o2 : Nat) (xs ys : List Nat) (c d n : Nat) (w : World) (h1 : ∀ j, j < n → w.cell? ⟨b, o + j, none⟩ = some (.int .i64 ((xs.getD j 0 : Nat) : Int)))
    (h2 : ∀ j, j < n → w.cell? ⟨b2, o2 + j, none⟩ = some (.int .i64 ((ys.getD j 0 : Nat) : Int))) (hl : n ≤ 4096) (hx : xs.length = n) (hy : ys.length = n) :
    Calls Tryz.prog 26 #[.slice (some ⟨b, o, none⟩) n c, .slice (some ⟨b2, o2, none⟩) n d] w fun e w' => e = .returned (.bool (decide (xs = ys))) ∧ Drawn w w' := by
  have H1 := Lib.hid h1
  have H2 := Lib.hid h2
  have HX := Lib.hid hx
  have HY := Lib.hid hy
  have hd : ((n : Int) != (n : Int)) = false := by simp
  clear h1 h2 hx hy
  go_enter Tryz.func26, Tryz.ntmps26
  go_wp2
  go_loopw [5] (fun i wr => ∃ k : Nat, k ≤ n ∧ i = .int .i64 k ∧ (∀ j, j < k → xs.getD j 0 = ys.getD j 0) ∧ Drawn w wr) (fun i _ => n - (intOf i).toNat)
  case atStart => exact ⟨0, by omega, rfl, fun j hj => by omega, Drawn.refl _⟩
  case round =>
    obtain ⟨k, hk, rfl, heq, hdr⟩ := hrel
    have HD := Lib.hid hdr
    have HE := Lib.hid heq
    clear hdr heq
    by_cases hlt : k < n
    · have q1 := HD.out.cell (H1.out k hlt)
      have q2 := HD.out.cell (H2.out k hlt)
      have k1 : (0 : Int) ≤ (k : Int) := by omega
      have k2 : (k : Int) < (n : Int) := by omega
      obtain ⟨x, hx⟩ : ∃ x, xs.getD k 0 = x := ⟨_, rfl⟩
      obtain ⟨z, hz⟩ : ∃ z, ys.getD k 0 = z := ⟨_, rfl⟩
      rw [hx] at q1
      rw [hz] at q2
      have HXX := Lib.hid hx
      have HZ := Lib.hid hz
      clear hx hz
      by_cases e : x = z
      · have hxx : ((x : Int) != (z : Int)) = false := by rw [e]; simp
        have HEE := Lib.hid e
        clear e
        go_wp2_with fail
        go_quiet (fail)
        go_wp2
        go_roundw
        case rel =>
          refine ⟨k + 1, by omega, by go_num, fun j hj => ?_, HD.out.on _⟩
          by_cases ej : j = k
          · rw [ej, HXX.out, HZ.out, HEE.out]
          · exact HE.out j (by omega)
        case measure => simp [intOf]; omega
      · have hxx : ((x : Int) != (z : Int)) = true := by simp; omega
        have HEE := Lib.hid e
        clear e
        go_wp2_with fail
        go_quiet (fail)
        go_wp2
        go_ret
        exact ⟨ret_b (by symm; rw [decide_eq_false_iff_not]; intro e; apply HEE.out; rw [← HXX.out, ← HZ.out, e]), HD.out.on _⟩
    · obtain rfl : k = n := by omega
      go_wp2
      go_ret
      refine ⟨ret_b ?_, HD.out⟩
      symm; rw [decide_eq_true_eq]
      apply List.ext_getElem?
      intro j
      by_cases hj : j < k
      · have := HE.out j hj
        rw [List.getD_eq_getElem?_getD, List.getD_eq_getElem?_getD, List.getElem?_eq_getElem (by rw [HX.out]; exact hj), List.getElem?_eq_getElem (by rw [HY.out]; exact hj)] at this
        rw [List.getElem?_eq_getElem (by rw [HX.out]; exact hj), List.getElem?_eq_getElem (by rw [HY.out]; exact hj)]
        exact congrArg some this
      · rw [List.getElem?_eq_none (by rw [HX.out]; omega), List.getElem?_eq_none (by rw [HY.out]; omega)]
theorem same_any (A B : Option Addr) (xs ys : List Nat) (c d N N2 : Nat) (w : World) (h1 : IA N w A xs) (h2 : IA N2 w B ys) (hl : xs.length ≤ 4096) :
    Calls Tryz.prog 26 #[.slice A xs.length c, .slice B ys.length d] w fun e w' => e = .returned (.bool (decide (xs = ys))) ∧ Drawn w w' := by
  by_cases hxy : xs.length = ys.length
  · rcases Nat.eq_zero_or_pos xs.length with h0 | hp
    · have e1 := List.eq_nil_of_length_eq_zero h0
      have e2 := List.eq_nil_of_length_eq_zero (hxy ▸ h0)
      subst e1 e2
      exact same_none A B c d w
    · obtain ⟨b, o, rfl, _, q1⟩ := h1 hp
      obtain ⟨b2, o2, rfl, _, q2⟩ := h2 (by omega)
      rw [← hxy] at q2 ⊢
      exact same_some b o b2 o2 xs ys c d _ w q1 q2 hl rfl hxy.symm
  · have e : decide (xs = ys) = false := by rw [decide_eq_false_iff_not]; intro e; exact hxy (by rw [e])
    rw [e]
    exact same_unlike A B _ _ c d w hxy
end Go.Proofs.YtckcgaliphpgeaaGreatDoor.Bi

/-
  What List does: a contract that the claimed proofs use.
-/
namespace Go.Proofs.YtckcgaliphpgeaaGreatDoor.Bi
set_option maxRecDepth 100000
open Go.RowKit

theorem ofInt_u (y : BitVec 64) : BitVec.ofInt 64 (u y) = y := by
  unfold u; rw [BitVec.ofInt_natCast]; exact BitVec.ofNat_toNat ..
theorem Tab.drop {w w' : World} {B : Nat} (h : Tab w) (hb : Below B w w') (hB : 1 < B) : Tab w' := fun j hj => (hb.cell (p := ⟨1, j, none⟩) hB).trans (h j hj)
theorem made_own (w : World) (c : Nat) (hc : c ≤ 4096) : (w.alloc (.cells (madeCells #[.int .i64 0] c) 3)).ownsRow w.heap.size 3 1 (.slice (some ⟨w.heap.size, 0, none⟩) 0 c) 0 (irow []) :=
  World.ownsRow_made w _ c (Nat.le_refl _) (by simp only [maxLen]; omega) (by rw [size_madeCells]; simp)
set_option maxHeartbeats 2000000 in
theorem list_any (q g : Nat) (l : List Bool) (ws : List (BitVec 64)) (w : World) (hm : Bits w q g l ws) (hT : Tab w) :
    Calls Tryz.prog 45 #[.pointer (some ⟨q, 0, none⟩)] w (Gave (sets l) w) := by
  have hs := hm.words
  have hq := hm.1.lt
  have hg := hm.2.1.lt
  have HX : Hid (∀ i, i < ws.length → w.cell? ⟨g, i, none⟩ = some (.int .u64 (u (ws.getD i 0#64)))) := fun i hi => hm.word hi
  have hL := hm.many.2.1
  have HF := Lib.hid hm.2.2.1
  have HT := Lib.hid hT
  have hcnt := count_any q g l ws w hm
  have hcb := Nat.le_trans (sets_length_le l) hm.2.2.2.1
  obtain ⟨c, hc⟩ : ∃ c, (sets l).length = c := ⟨_, rfl⟩
  rw [hc] at hcnt hcb
  have HC := Lib.hid hc
  have HCnt := Lib.hid hcnt
  have hmk := make_ints c hcb
  have hs3 : (w.alloc (.cells (madeCells #[.int .i64 0] c) 3)).cell? ⟨q, 1, none⟩ = _ := (cell_alloc _ hq).trans hs
  have hst := made_own w c hcb
  have HS := Lib.hid hst
  clear hm hT hcnt hc hst
  obtain ⟨L, hl⟩ : ∃ L, ws.length = L := ⟨_, rfl⟩
  have HL := Lib.hid hl
  rw [hl] at hs hs3 HX hL
  clear hl
  have hpos := HT.out.lt
  go_enter Tryz.func45, Tryz.ntmps45
  go_wp2_with (go_at_call 47; refine HCnt.out.mono ?_; rintro e w' ⟨rfl, rfl⟩)
  go_loopw [3, 14] (fun o i wr => ∃ k m g' cap : Nat, k ≤ L ∧ m ≤ 64 * k ∧ i = .int .i64 k ∧ o = .slice (some ⟨g', 0, none⟩) m cap ∧ (on (bt l) (64 * k)).length = m ∧ wr.ownsRow w.heap.size 3 1 (.slice (some ⟨g', 0, none⟩) m cap) m (irow (on (bt l) (64 * k))) ∧ Below w.heap.size w wr) (fun _ i _ => L - (intOf i).toNat)
  case atStart => exact ⟨0, 0, w.heap.size, c, by omega, by omega, rfl, rfl, rfl, HS.out, up_alloc (Below.refl _ _) _⟩
  case round =>
    obtain ⟨k, m, g', cap, hk, hmk, rfl, rfl, hm, hown, hbel⟩ := hrel
    have HO := Lib.hid hown
    have HBe := Lib.hid hbel
    have HM := Lib.hid hm
    have hsz := hbel.size
    clear hown hbel HS hm hs3
    by_cases hlt : k < L
    · have q1 := (HBe.out.cell (p := ⟨g, k, none⟩) hg).trans (HX.out k hlt)
      have how := on_word HF.out k
      obtain ⟨x, hx⟩ : ∃ x, ws.getD k 0#64 = x := ⟨_, rfl⟩
      rw [hx] at q1 how
      have HOW := Lib.hid how
      clear hx how
      go_wp2
      go_loopw [3, 5] (fun o c wr2 => ∃ (m g' cap : Nat) (y : BitVec 64) (xs : List Nat), m ≤ 64 * (k + 1) ∧ o = .slice (some ⟨g', 0, none⟩) m cap ∧ c = .int .u64 (u y) ∧ xs.length = m ∧ wr2.ownsRow w.heap.size 3 1 (.slice (some ⟨g', 0, none⟩) m cap) m (irow xs) ∧ xs ++ (sw y).map (64 * k + ·) = on (bt l) (64 * (k + 1)) ∧ Below w.heap.size w wr2) (fun _ c _ => (sw (BitVec.ofInt 64 (intOf c))).length)
      case atStart => exact ⟨m, g', cap, x, _, by omega, rfl, rfl, HM.out, HO.out, HOW.out.symm, HBe.out⟩
      case round =>
        obtain ⟨m2, g2, cap2, y, xs, hm2, rfl, rfl, hxs, hown2, hxy, hbel2⟩ := hrel
        have HO2 := Lib.hid hown2
        have HB2 := Lib.hid hbel2
        have HXs := Lib.hid hxs
        have HXY := Lib.hid hxy
        have hsz2 := hbel2.size
        have HT2 := Lib.hid (HT.out.drop hbel2 hpos)
        clear hown2 hbel2 hxs hxy
        by_cases hy : y = 0#64
        · have hne : (u y != 0) = false := by rw [hy]; rfl
          have HY := Lib.hid hy
          clear hy
          go_wp2
          go_roundw
          case rel =>
            have e : xs = on (bt l) (64 * (k + 1)) := by rw [← HXY.out, HY.out, sw_zero]; simp
            exact ⟨k + 1, m2, g2, cap2, by omega, by omega, by go_num, rfl, by rw [← e]; exact HXs.out, by rw [← e]; exact HO2.out, HB2.out⟩
          case measure => simp [intOf]; omega
        · have hne : (u y != 0) = true := by rw [show (0 : Int) = u 0#64 from rfl, u_bne]; simpa using hy
          have htz := tz_any y wr hy HT2.out
          have hcons := sw_cons y hy
          obtain ⟨mm, _, hcc⟩ := low_bit y hy
          obtain ⟨t, ht⟩ : ∃ t, Lib.ctz 64 y.toNat = t := ⟨_, rfl⟩
          rw [ht] at htz hcons hcc
          have HTZ := Lib.hid htz
          have HCo := Lib.hid hcons
          have hlen : m2 + 1 ≤ 64 * (k + 1) := by
            have e := congrArg List.length HXY.out
            rw [List.length_append, List.length_map, HXs.out, HCo.out, List.length_cons] at e
            have := on_length_le (bt l) (64 * (k + 1))
            omega
          have ecast : (((k * 64 + t : Nat)) : Int) = (k : Int) * 64 + (t : Int) := by omega
          have HEc := Lib.hid ecast
          clear hy htz hcons ht ecast
          go_wp2_with (first | (go_at_call 93; refine HTZ.out.mono ?_; rintro e w' ⟨rfl, rfl⟩) | (at_builtin; refine append_int (by rfl) _ _ (by rfl) w.heap.size g2 cap2 wr.heap.size m2 xs (k * 64 + t) (by rfl) (HO2.out.alloc _) (by rfl) (by rw [HEc.out]; exact new_at (by simp)) (by omega) (by simp; omega) ?_; intro g3 cap3 w3 HO3 HB3))
          go_roundw
          case rel =>
            refine ⟨m2 + 1, g3, cap3, y &&& (y - 1#64), xs ++ [k * 64 + t], hlen, rfl, by rw [and_raw], by rw [List.length_append, HXs.out]; rfl, HO3.out, ?_, (up_alloc HB2.out _).trans HB3.out⟩
            rw [← HXY.out, HCo.out, List.map_cons, List.append_assoc, Nat.mul_comm k 64]; rfl
          case measure =>
            show (sw (BitVec.ofInt 64 (bits .and .u64 (u y) (IntKind.u64.wrap (u y - 1))))).length < (sw (BitVec.ofInt 64 (u y))).length
            rw [and_raw, ofInt_u, ofInt_u, HCo.out]
            simp
    · obtain rfl : k = L := by omega
      have hgb : w.heap.size ≤ g' := own_base HO.out g' rfl
      go_wp2
      go_ret
      have e : on (bt l) (64 * k) = sets l := by rw [← HL.out]; exact on_all HF.out
      rw [e] at HO HM
      exact ⟨g', cap, by rw [HM.out]; rfl, hgb, own_ints HO.out HM.out, HBe.out⟩
end Go.Proofs.YtckcgaliphpgeaaGreatDoor.Bi

/-
  What Words, Key and Clone do: contracts that the claimed proofs use.
-/
namespace Go.Proofs.YtckcgaliphpgeaaGreatDoor.Bi
set_option maxRecDepth 100000
open Go.RowKit

theorem splice_all {α : Type} (L cs : List α) (h : cs.length = L.length) : splice L 0 cs = cs := by simp [splice, h]
theorem splice_nil {α : Type} (L : List α) (off : Nat) : splice L off [] = L := by simp [splice]
theorem wrow_splice (L cs : List (BitVec 64)) (off : Nat) : splice (wrow L) off (wrow cs) = wrow (splice L off cs) := by simp [splice, wrow]
/-- copy into a row that is known whole. -/
theorem copy_run (w : World) (ty : TypeId) (dp sp : Option Addr) (dLen dCap sLen sCap : Nat) (bt' : TypeId)
    (g off : Nat) (cur cs : List (BitVec 64)) (hg : Blk w g (wrow cur) bt') (hn : cs.length = Nat.min sLen dLen)
    (hpos : 0 < cs.length → dp = some ⟨g, off, none⟩ ∧ ∃ sb so, sp = some ⟨sb, so, none⟩ ∧ ∀ j, j < cs.length → w.cell? ⟨sb, so + j, none⟩ = some (.int .u64 (u (cs.getD j 0#64))))
    (hfit : off + cs.length ≤ cur.length) :
    ∃ w', (Builtin.copy_ #[147, 147] ty #[.slice dp dLen dCap, .slice sp sLen sCap]).run Tryz.prog w = .ok (goInt cs.length) w' ∧ Blk w' g (wrow (splice cur off cs)) bt' ∧ w.grownBy w' (some g) := by
  by_cases h0 : cs.length = 0
  · obtain rfl : cs = [] := List.eq_nil_of_length_eq_zero h0
    exact ⟨w, run_copy_none (P := Tryz.prog) w 147 147 ty 144 dp sp dLen dCap sLen sCap Tryz.underlying147 word_size (by simpa using hn.symm), by rw [splice_nil]; exact hg, grown_refl _ _⟩
  · obtain ⟨rfl, sb, so, rfl, hsrc⟩ := hpos (by omega)
    have hsrc' : ∀ j v, (wrow cs)[j]? = some v → w.cell? ((⟨sb, so, none⟩ : Addr).add j) = some v := by
      intro j v hv
      have hj : j < cs.length := by
        rcases Nat.lt_or_ge j cs.length with hj | hj
        · exact hj
        · rw [List.getElem?_eq_none (by rw [wrow_length]; exact hj)] at hv; cases hv
      rw [wrow_get hj] at hv
      cases hv
      have e : (⟨sb, so, none⟩ : Addr).add j = ⟨sb, so + j, none⟩ := by unfold Addr.add; split <;> simp_all
      rw [e]; exact hsrc j hj
    have hrun := run_copy_row (P := Tryz.prog) w 147 147 ty 144 g off dLen dCap ⟨sb, so, none⟩ sLen sCap (wrow cur).toArray bt' (wrow cs) Tryz.underlying147 word_size hg (by rw [wrow_length]; exact hn) hsrc' (by simpa [wrow_length] using hfit) (wrow_one cs)
    rw [wrow_length] at hrun
    refine ⟨_, hrun, show _ = _ from ?_, ⟨rfl, rfl, rfl, by simp [World.setRow], fun k _ hk => setRow_other w g k _ (fun e => hk (by rw [e]))⟩⟩
    have := setRow_heap w g _ ((wrow cur).take off ++ wrow cs ++ (wrow cur).drop (off + cs.length)).toArray bt' _ hg
    rw [show (wrow cur).toArray.toList = wrow cur from rfl, this, ← wrow_splice, splice, wrow_length, List.append_assoc]
theorem step_copy {w : World} {ops : Array Oper} {o : Oper} {a : Act} {K : Act → World → Prop} {Q : Exit → Act → World → Prop} {E : Prop} (hgd : o.guard = none) (d s : Operand)
    (ho : o.op = .call { callee := .builtin .copy, args := #[d, s], argTypes := #[147, 147] })
    (dp sp : Option Addr) (dLen dCap sLen sCap : Nat) (hd : a.eval d = .slice dp dLen dCap) (hs : a.eval s = .slice sp sLen sCap) (bt' : TypeId)
    (g off : Nat) (cur cs : List (BitVec 64)) (hg : Blk w g (wrow cur) bt') (hn : cs.length = Nat.min sLen dLen)
    (hpos : 0 < cs.length → dp = some ⟨g, off, none⟩ ∧ ∃ sb so, sp = some ⟨sb, so, none⟩ ∧ ∀ j, j < cs.length → w.cell? ⟨sb, so + j, none⟩ = some (.int .u64 (u (cs.getD j 0#64))))
    (hfit : off + cs.length ≤ cur.length)
    (h : ∀ w', Hid (Blk w' g (wrow (splice cur off cs)) bt') → Hid (w.grownBy w' (some g)) → K (a.put o.dst (goInt cs.length)) w') :
    if Region.wanted o (yielded ops a.tmps) = true then Oper.wp Tryz.prog o a w K Q else E := by
  rw [if_pos (by simp [Region.wanted, hgd])]
  obtain ⟨w', hr, h1, h2⟩ := copy_run w o.type dp sp dLen dCap sLen sCap bt' g off cur cs hg hn hpos hfit
  unfold Oper.wp
  simp [execOp, ho, resolve, invoke, builtin, hd, hs, hr, Result.andThen]
  exact h _ h1 h2

/-! ### Words -/
def GaveW (ws : List (BitVec 64)) (w : World) (e : Ending) (w' : World) : Prop :=
  e = .returned (.slice (some ⟨w.heap.size, 0, none⟩) ws.length ws.length) ∧ Blk w' w.heap.size (wrow ws) 144 ∧ Below w.heap.size w w'
theorem words_any (q g : Nat) (l : List Bool) (ws : List (BitVec 64)) (w : World) (hm : Bits w q g l ws) :
    Calls Tryz.prog 135 #[.pointer (some ⟨q, 0, none⟩)] w (GaveW ws w) := by
  have hs := hm.words
  have hq := hm.1.lt
  have hg := hm.2.1.lt
  have hL := hm.many.2.1
  have HM := Lib.hid hm
  clear hm
  obtain ⟨L, hl⟩ : ∃ L, ws.length = L := ⟨_, rfl⟩
  have HL := Lib.hid hl
  rw [hl] at hs hL
  clear hl
  have hmk := make_words L (by omega)
  have hc3 : (w.alloc (.cells (madeCells #[.int .u64 0] L) 144)).cell? ⟨q, 1, none⟩ = some (.slice (some ⟨g, 0, none⟩) L L) := (cell_alloc _ hq).trans hs
  go_enter Tryz.func135, Tryz.ntmps135
  go_wp2
  have hmade := Blk.made w (.int .u64 0) L 144
  rw [wrow_none] at hmade
  obtain ⟨w2, hr, hrow, hgr⟩ := copy_run (w.alloc (.cells (madeCells #[.int .u64 0] L) 144)) 3 (some ⟨w.heap.size, 0, none⟩) (some ⟨g, 0, none⟩) L L L L 144 w.heap.size 0 _ ws hmade
    (by rw [HL.out]; exact (Nat.min_self _).symm) (fun _ => ⟨rfl, g, 0, rfl, fun j hj => by rw [Nat.zero_add]; exact (cell_alloc _ hg).trans (HM.out.word hj)⟩) (by rw [HL.out]; simp)
  rw [hr]
  clear hr
  go_wp2
  go_ret
  rw [splice_all _ _ (by rw [HL.out]; simp)] at hrow
  exact ⟨by rw [HL.out]; rfl, hrow, below_grown ((Below.refl _ w).alloc (Nat.le_refl _) _) hgr (by simp) (Nat.le_refl _)⟩
/-! ### Clone -/
def Cloned (l : List Bool) (ws : List (BitVec 64)) (w : World) (e : Ending) (w' : World) : Prop :=
  ∃ q g, e = .returned (.pointer (some ⟨q, 0, none⟩)) ∧ w.heap.size ≤ q ∧ w.heap.size ≤ g ∧ Bits w' q g l ws ∧ Below w.heap.size w w'
theorem clone_any (q g : Nat) (l : List Bool) (ws : List (BitVec 64)) (w : World) (hm : Bits w q g l ws) :
    Calls Tryz.prog 90 #[.pointer (some ⟨q, 0, none⟩)] w (Cloned l ws w) := by
  have hc := hm.n
  have hq := hm.1.lt
  have HM := Lib.hid hm
  have hL := hm.many.2.1
  clear hm
  obtain ⟨L, hl⟩ : ∃ L, ws.length = L := ⟨_, rfl⟩
  have HL := Lib.hid hl
  obtain ⟨n, hn⟩ : ∃ n, l.length = n := ⟨_, rfl⟩
  have HN := Lib.hid hn
  rw [hn] at hc
  clear hl hn
  have HW : Hid (Calls Tryz.prog 135 #[.pointer (some ⟨q, 0, none⟩)] w.drew fun e w' => e = .returned (.slice (some ⟨w.heap.size, 0, none⟩) L L) ∧ Blk w' w.heap.size (wrow ws) 144 ∧ Below w.heap.size w.drew w') := by
    have := words_any q g l ws w.drew HM.out
    unfold GaveW at this
    rw [HL.out] at this
    exact this
  go_enter Tryz.func90, Tryz.ntmps90
  go_wp2_with fail
  go_region_held3 (fun w' => w'.cell? ⟨q, 0, none⟩ = some (.int .i64 n))
    (first | exact (cell_alloc _ (Nat.lt_of_lt_of_le hq hb2.size)).trans ((hb2.cell (p := ⟨q, 0, none⟩) hq).trans hc) | exact (hb2.cell (p := ⟨q, 0, none⟩) hq).trans hc | exact hc)
    ((go_at_call 135; refine HW.out.mono ?_; rintro e w2 ⟨rfl, hrow, hb2⟩))
  go_wp2
  go_ret
  have hm := HM.out
  have hpos : 1 < w.heap.size := Nat.lt_trans hm.2.2.2.2.1 hq
  have hsz : w.heap.size < w2.heap.size := hrow.lt
  refine ⟨w2.heap.size, w.heap.size, rfl, hb2.size, Nat.le_refl _, ⟨?_, ?_, hm.2.2.1, hm.2.2.2.1, by omega, hpos⟩, (up_alloc ((Below.refl _ w).drew.trans hb2) _)⟩
  · rw [HN.out, HL.out]; exact heap_alloc_new w2 _
  · exact hrow.of (Below.heap_alloc _ _ _ hsz)
end Go.Proofs.YtckcgaliphpgeaaGreatDoor.Bi
