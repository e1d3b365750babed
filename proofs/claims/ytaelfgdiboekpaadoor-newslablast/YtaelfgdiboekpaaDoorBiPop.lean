/-
  How many bits of a word are set, reckoned as the library does it: a plain fact that the claimed proofs use.
-/
import Derived.Test.YtaelfgdiboekpaaDoorBiBase
namespace Go.Proofs.YtaelfgdiboekpaaDoor.Bi
set_option maxRecDepth 100000

def dig (g : Nat → Nat) : Nat → Nat → Nat
  | 0, _ => 0
  | k + 1, x => g (x % 256) + 256 * dig g k (x / 256)
def sm (g : Nat → Nat) : Nat → Nat → Nat
  | 0, _ => 0
  | k + 1, x => g (x % 256) + sm g k (x / 256)
def mk (c : Nat) : Nat → Nat
  | 0 => 0
  | k + 1 => c + 256 * mk c k
theorem and_split (a b : Nat) : a &&& b = ((a % 256) &&& (b % 256)) + 256 * ((a / 256) &&& (b / 256)) := by
  have h1 : (a &&& b) % 2 ^ 8 = (a % 2 ^ 8) &&& (b % 2 ^ 8) := Nat.and_mod_two_pow
  have h2 : (a &&& b) / 2 ^ 8 = (a / 2 ^ 8) &&& (b / 2 ^ 8) := Nat.and_div_two_pow
  have h3 : (2 : Nat) ^ 8 = 256 := rfl
  rw [h3] at h1 h2
  rw [← h1, ← h2]
  omega
theorem mk_parts (c k : Nat) (h : c < 256) : mk c (k + 1) % 256 = c ∧ mk c (k + 1) / 256 = mk c k := by
  rw [mk]; omega
theorem one_shift : ∀ B, B < 256 → ∀ c, c < 2 → (B / 2 + 128 * c) &&& 85 = (B / 2) &&& 85 := by decide +kernel
theorem two_shift : ∀ B, B < 256 → ∀ c, c < 4 → (B / 4 + 64 * c) &&& 51 = (B / 4) &&& 51 := by decide +kernel
theorem four_shift : ∀ G, G < 256 → ∀ c, c < 5 → (G / 16 + 16 * c + G) &&& 15 = (G / 16 + G) &&& 15 := by decide +kernel
def g1 (B : Nat) : Nat := ((B / 2) &&& 85) + (B &&& 85)
def g2 (B : Nat) : Nat := ((B / 4) &&& 51) + (B &&& 51)
def g3 (B : Nat) : Nat := (B / 16 + B) &&& 15
theorem pass1 : ∀ k x, ((x / 2) &&& mk 85 k) + (x &&& mk 85 k) = dig g1 k x
  | 0, x => by simp [mk, dig]
  | k + 1, x => by
    obtain ⟨m1, m2⟩ := mk_parts 85 k (by omega)
    have ih := pass1 k (x / 256)
    rw [and_split (x / 2), and_split x, m1, m2, dig, ← ih, g1]
    have e1 : x / 2 % 256 = x % 256 / 2 + 128 * (x / 256 % 2) := by omega
    have e2 : x / 2 / 256 = x / 256 / 2 := by omega
    rw [e1, e2, one_shift _ (by omega) _ (by omega)]
    omega
theorem pass2 : ∀ k x, ((x / 4) &&& mk 51 k) + (x &&& mk 51 k) = dig g2 k x
  | 0, x => by simp [mk, dig]
  | k + 1, x => by
    obtain ⟨m1, m2⟩ := mk_parts 51 k (by omega)
    have ih := pass2 k (x / 256)
    rw [and_split (x / 4), and_split x, m1, m2, dig, ← ih, g2]
    have e1 : x / 4 % 256 = x % 256 / 4 + 64 * (x / 256 % 4) := by omega
    have e2 : x / 4 / 256 = x / 256 / 4 := by omega
    rw [e1, e2, two_shift _ (by omega) _ (by omega)]
    omega
theorem dig_low (g : Nat → Nat) (hg : ∀ B, B < 256 → g B % 16 ≤ 4) : ∀ k x, dig g k x % 16 ≤ 4
  | 0, x => by simp [dig]
  | k + 1, x => by
    have := hg (x % 256) (by omega)
    rw [dig]; omega
theorem pass3 (g : Nat → Nat) (hg : ∀ B, B < 256 → g B % 16 ≤ 4 ∧ g B / 16 ≤ 4) : ∀ k x, (dig g k x / 16 + dig g k x) &&& mk 15 k = dig (fun B => g3 (g B)) k x
  | 0, x => by simp [mk, dig]
  | k + 1, x => by
    obtain ⟨m1, m2⟩ := mk_parts 15 k (by omega)
    have ih := pass3 g hg k (x / 256)
    have hl := dig_low g (fun B hB => (hg B hB).1) k (x / 256)
    obtain ⟨a1, a2⟩ := hg (x % 256) (by omega)
    rw [and_split, m1, m2, dig, dig, ← ih, g3]
    generalize dig g k (x / 256) = d at *
    generalize g (x % 256) = G at *
    have e1 : ((G + 256 * d) / 16 + (G + 256 * d)) % 256 = G / 16 + 16 * (d % 16) + G := by omega
    have e2 : ((G + 256 * d) / 16 + (G + 256 * d)) / 256 = d / 16 + d := by omega
    rw [e1, e2, four_shift _ (by omega) _ (by omega)]
theorem dig_dig (g h : Nat → Nat) (hh : ∀ B, B < 256 → h B < 256) : ∀ k x, dig g k (dig h k x) = dig (fun B => g (h B)) k x
  | 0, x => rfl
  | k + 1, x => by
    have := hh (x % 256) (by omega)
    rw [dig, dig, dig]
    have e1 : (h (x % 256) + 256 * dig h k (x / 256)) % 256 = h (x % 256) := by omega
    have e2 : (h (x % 256) + 256 * dig h k (x / 256)) / 256 = dig h k (x / 256) := by omega
    rw [e1, e2, dig_dig g h hh k]
def g4 (B : Nat) : Nat := g3 (g2 (g1 B))
theorem g1_lt : ∀ B, B < 256 → g1 B < 256 := by decide +kernel
theorem g2_ok : ∀ B, B < 256 → g2 (g1 B) % 16 ≤ 4 ∧ g2 (g1 B) / 16 ≤ 4 := by decide +kernel
theorem g4_is : ∀ B, B < 256 → g4 B = (on B.testBit 8).length := by decide +kernel
theorem g4_le (B : Nat) (h : B < 256) : g4 B ≤ 8 := by rw [g4_is B h]; exact on_length_le _ _
theorem sm_is : ∀ k x, sm g4 k x = (on x.testBit (8 * k)).length
  | 0, x => rfl
  | k + 1, x => by
    rw [sm, sm_is k, show 8 * (k + 1) = 8 + 8 * k by omega, on_add, List.length_append, List.length_map, g4_is _ (by omega)]
    congr 2
    · exact on_congr (fun j hj => by rw [show (256 : Nat) = 2 ^ 8 from rfl, Nat.testBit_mod_two_pow]; simp [hj])
    · exact on_congr (fun j hj => by rw [show (256 : Nat) = 2 ^ 8 from rfl, Nat.testBit_div_two_pow, Nat.add_comm])
def swar (x : Nat) : Nat :=
  let a := ((x / 2) &&& 6148914691236517205) + (x &&& 6148914691236517205)
  let b := ((a / 4) &&& 3689348814741910323) + (a &&& 3689348814741910323)
  (b / 16 + b) &&& 1085102592571150095
theorem swar_is (x : Nat) : swar x = dig g4 8 x := by
  have m1 : mk 85 8 = 6148914691236517205 := by decide +kernel
  have m2 : mk 51 8 = 3689348814741910323 := by decide +kernel
  have m3 : mk 15 8 = 1085102592571150095 := by decide +kernel
  unfold swar
  simp only []
  rw [← m1, ← m2, ← m3, pass1, pass2, dig_dig g2 g1 g1_lt, pass3 _ g2_ok]
  rfl
theorem sum_a (c0 r c : Nat) (h0 : c0 ≤ 8) (hc : c = c0 + 256 * r) : c / 256 = r := by omega
theorem sum_b (c0 c1 r d : Nat) (h0 : c0 ≤ 16) (h1 : c1 ≤ 16) (hd : d = c0 + 256 * (c1 + 256 * r)) : d / 65536 = r := by omega
theorem sum_c (c0 c1 c2 c3 r d : Nat) (h0 : c0 ≤ 32) (h1 : c1 ≤ 32) (h2 : c2 ≤ 32) (h3 : c3 ≤ 32) (hd : d = c0 + 256 * (c1 + 256 * (c2 + 256 * (c3 + 256 * r)))) : d / 4294967296 = r := by omega
theorem sum_d (s r : Nat) (h : s ≤ 64) : (s + 256 * r) % 128 = s := by omega
def End4 (c s : Nat) : Prop := c < 18446744073709551616 ∧ c + c / 256 < 18446744073709551616 ∧ (c + c / 256) + (c + c / 256) / 65536 < 18446744073709551616 ∧
  ((c + c / 256) + (c + c / 256) / 65536) + ((c + c / 256) + (c + c / 256) / 65536) / 4294967296 < 9223372036854775808 ∧
  (((c + c / 256) + (c + c / 256) / 65536) + ((c + c / 256) + (c + c / 256) / 65536) / 4294967296) % 128 = s
theorem End4.to {c s t : Nat} (h : End4 c s) (e : s = t) : End4 c t := e ▸ h
theorem nest_lt (a0 a1 a2 a3 a4 a5 a6 a7 : Nat) (h0 : a0 ≤ 64) (h1 : a1 ≤ 64) (h2 : a2 ≤ 64) (h3 : a3 ≤ 64) (h4 : a4 ≤ 64) (h5 : a5 ≤ 64) (h6 : a6 ≤ 64) (h7 : a7 ≤ 64) :
    a0 + 256 * (a1 + 256 * (a2 + 256 * (a3 + 256 * (a4 + 256 * (a5 + 256 * (a6 + 256 * (a7))))))) < 9223372036854775808 := by omega
theorem nest1 (c0 c1 c2 c3 c4 c5 c6 c7 : Nat) : (c0 + 256 * (c1 + 256 * (c2 + 256 * (c3 + 256 * (c4 + 256 * (c5 + 256 * (c6 + 256 * (c7)))))))) + (c1 + 256 * (c2 + 256 * (c3 + 256 * (c4 + 256 * (c5 + 256 * (c6 + 256 * (c7))))))) = (c0 + c1) + 256 * ((c1 + c2) + 256 * ((c2 + c3) + 256 * ((c3 + c4) + 256 * ((c4 + c5) + 256 * ((c5 + c6) + 256 * ((c6 + c7) + 256 * ((c7)))))))) := by omega
theorem nest2 (c0 c1 c2 c3 c4 c5 c6 c7 : Nat) : ((c0 + c1) + 256 * ((c1 + c2) + 256 * ((c2 + c3) + 256 * ((c3 + c4) + 256 * ((c4 + c5) + 256 * ((c5 + c6) + 256 * ((c6 + c7) + 256 * ((c7))))))))) + ((c2 + c3) + 256 * ((c3 + c4) + 256 * ((c4 + c5) + 256 * ((c5 + c6) + 256 * ((c6 + c7) + 256 * ((c7))))))) = (c0 + c1 + c2 + c3) + 256 * ((c1 + c2 + c3 + c4) + 256 * ((c2 + c3 + c4 + c5) + 256 * ((c3 + c4 + c5 + c6) + 256 * ((c4 + c5 + c6 + c7) + 256 * ((c5 + c6 + c7) + 256 * ((c6 + c7) + 256 * ((c7)))))))) := by omega
theorem nest3 (c0 c1 c2 c3 c4 c5 c6 c7 : Nat) : ((c0 + c1 + c2 + c3) + 256 * ((c1 + c2 + c3 + c4) + 256 * ((c2 + c3 + c4 + c5) + 256 * ((c3 + c4 + c5 + c6) + 256 * ((c4 + c5 + c6 + c7) + 256 * ((c5 + c6 + c7) + 256 * ((c6 + c7) + 256 * ((c7))))))))) + ((c4 + c5 + c6 + c7) + 256 * ((c5 + c6 + c7) + 256 * ((c6 + c7) + 256 * ((c7))))) = (c0 + c1 + c2 + c3 + c4 + c5 + c6 + c7) + 256 * ((c1 + c2 + c3 + c4 + c5 + c6 + c7) + 256 * ((c2 + c3 + c4 + c5 + c6 + c7) + 256 * ((c3 + c4 + c5 + c6 + c7) + 256 * ((c4 + c5 + c6 + c7) + 256 * ((c5 + c6 + c7) + 256 * ((c6 + c7) + 256 * ((c7)))))))) := by omega
theorem ends_of (c d e f s : Nat) (h1 : c / 256 + c = d) (h2 : d / 65536 + d = e) (h3 : e / 4294967296 + e = f) (b1 : c < 9223372036854775808) (b2 : d < 9223372036854775808) (b3 : e < 9223372036854775808) (b4 : f < 9223372036854775808) (hs : f % 128 = s) : End4 c s := by
  have k1 : c + c / 256 = d := by rw [Nat.add_comm]; exact h1
  have k2 : d + d / 65536 = e := by rw [Nat.add_comm]; exact h2
  have k3 : e + e / 4294967296 = f := by rw [Nat.add_comm]; exact h3
  unfold End4
  rw [k1, k2, k3]
  exact ⟨Nat.lt_trans b1 (by decide), Nat.lt_trans b2 (by decide), Nat.lt_trans b3 (by decide), b4, hs⟩
theorem sum_all (c0 c1 c2 c3 c4 c5 c6 c7 c : Nat) (h0 : c0 ≤ 8) (h1 : c1 ≤ 8) (h2 : c2 ≤ 8) (h3 : c3 ≤ 8) (h4 : c4 ≤ 8) (h5 : c5 ≤ 8) (h6 : c6 ≤ 8) (h7 : c7 ≤ 8)
    (hc : c = c0 + 256 * (c1 + 256 * (c2 + 256 * (c3 + 256 * (c4 + 256 * (c5 + 256 * (c6 + 256 * (c7)))))))) : End4 c (c0 + c1 + c2 + c3 + c4 + c5 + c6 + c7) := by
  refine ends_of c ((c0 + c1) + 256 * ((c1 + c2) + 256 * ((c2 + c3) + 256 * ((c3 + c4) + 256 * ((c4 + c5) + 256 * ((c5 + c6) + 256 * ((c6 + c7) + 256 * ((c7))))))))) ((c0 + c1 + c2 + c3) + 256 * ((c1 + c2 + c3 + c4) + 256 * ((c2 + c3 + c4 + c5) + 256 * ((c3 + c4 + c5 + c6) + 256 * ((c4 + c5 + c6 + c7) + 256 * ((c5 + c6 + c7) + 256 * ((c6 + c7) + 256 * ((c7))))))))) ((c0 + c1 + c2 + c3 + c4 + c5 + c6 + c7) + 256 * ((c1 + c2 + c3 + c4 + c5 + c6 + c7) + 256 * ((c2 + c3 + c4 + c5 + c6 + c7) + 256 * ((c3 + c4 + c5 + c6 + c7) + 256 * ((c4 + c5 + c6 + c7) + 256 * ((c5 + c6 + c7) + 256 * ((c6 + c7) + 256 * ((c7))))))))) _ ?_ ?_ ?_ ?_ ?_ ?_ ?_ ?_
  · rw [sum_a _ _ _ h0 hc, hc, Nat.add_comm]; exact nest1 ..
  · rw [sum_b _ _ _ _ (by clear hc; omega) (by clear hc; omega) rfl, Nat.add_comm]; exact nest2 ..
  · rw [sum_c _ _ _ _ _ _ (by clear hc; omega) (by clear hc; omega) (by clear hc; omega) (by clear hc; omega) rfl, Nat.add_comm]; exact nest3 ..
  · rw [hc]; apply nest_lt <;> (clear hc; omega)
  · apply nest_lt <;> (clear hc; omega)
  · apply nest_lt <;> (clear hc; omega)
  · apply nest_lt <;> (clear hc; omega)
  · exact sum_d _ _ (by clear hc; omega)
theorem dig_sum (x : Nat) : End4 (dig g4 8 x) (sm g4 8 x) := by
  have h0 := g4_le (x % 256) (by omega)
  have h1 := g4_le (x / 256 % 256) (by omega)
  have h2 := g4_le (x / 256 / 256 % 256) (by omega)
  have h3 := g4_le (x / 256 / 256 / 256 % 256) (by omega)
  have h4 := g4_le (x / 256 / 256 / 256 / 256 % 256) (by omega)
  have h5 := g4_le (x / 256 / 256 / 256 / 256 / 256 % 256) (by omega)
  have h6 := g4_le (x / 256 / 256 / 256 / 256 / 256 / 256 % 256) (by omega)
  have h7 := g4_le (x / 256 / 256 / 256 / 256 / 256 / 256 / 256 % 256) (by omega)
  refine (show End4 (dig g4 8 x) _ from sum_all _ _ _ _ _ _ _ _ _ h0 h1 h2 h3 h4 h5 h6 h7 ?_).to ?_
  · simp only [dig, Nat.mul_zero, Nat.add_zero]
  · simp only [sm, Nat.add_zero, Nat.add_assoc]
/-- The library's way to count a word's bits counts them. -/
theorem swar_ends (x : BitVec 64) : End4 (swar x.toNat) (sw x).length := by
  rw [swar_is]
  have := dig_sum x.toNat
  rw [sm_is] at this
  exact this
end Go.Proofs.YtaelfgdiboekpaaDoor.Bi
