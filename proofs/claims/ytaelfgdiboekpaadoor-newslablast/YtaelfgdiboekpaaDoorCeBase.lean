/-
  Plain facts on bytes and words, of which no statement of its own is claimed: words as bit vectors, rows of bytes, numbers that are made of bytes.
-/
import Derived.Laws.BitsAllLaws
import Derived.Laws.BitsLemmas
import Derived.Laws.CopyOwn
namespace Go.Proofs.YtaelfgdiboekpaaDoor.Ce
set_option maxRecDepth 100000

/-- A word as the number that it is. -/
def u (x : BitVec 64) : Int := (x.toNat : Int)
/-- A byte as the number that it is. -/
def y (x : BitVec 8) : Int := (x.toNat : Int)

theorem u_inj {a b : BitVec 64} (h : u a = u b) : a = b := by
  unfold u at h; exact BitVec.eq_of_toNat_eq (by omega)
theorem u_beq (a b : BitVec 64) : (u a == u b) = (a == b) := by
  rw [Bool.eq_iff_iff]; simp only [beq_iff_eq]; exact ⟨u_inj, fun h => by rw [h]⟩
theorem u_bne (a b : BitVec 64) : (u a != u b) = (a != b) := by rw [bne, bne, u_beq]
theorem u_of (n : Int) (h0 : 0 ≤ n) (h1 : n < 18446744073709551616) : ∃ x : BitVec 64, n = u x :=
  ⟨BitVec.ofNat 64 n.toNat, by unfold u; rw [BitVec.toNat_ofNat, Nat.mod_eq_of_lt (by omega)]; omega⟩
theorem y_inj {a b : BitVec 8} (h : y a = y b) : a = b := by
  unfold y at h; exact BitVec.eq_of_toNat_eq (by omega)
theorem y_beq (a b : BitVec 8) : (y a == y b) = (a == b) := by
  rw [Bool.eq_iff_iff]; simp only [beq_iff_eq]; exact ⟨y_inj, fun h => by rw [h]⟩
theorem y_bne (a b : BitVec 8) : (y a != y b) = (a != b) := by rw [bne, bne, y_beq]
theorem y_of (n : Int) (h0 : 0 ≤ n) (h1 : n < 256) : ∃ x : BitVec 8, n = y x :=
  ⟨BitVec.ofNat 8 n.toNat, by unfold y; rw [BitVec.toNat_ofNat, Nat.mod_eq_of_lt (by omega)]; omega⟩
theorem y_nonneg (a : BitVec 8) : 0 ≤ y a := by unfold y; omega
theorem y_lt (a : BitVec 8) : y a < 256 := by unfold y; have := a.isLt; omega
theorem and_u (a b : BitVec 64) : bits .and .u64 (u a) (u b) = u (a &&& b) := by
  unfold u; rw [u64_and_nat _ _ a.isLt b.isLt, BitVec.toNat_and]
theorem or_u (a b : BitVec 64) : bits .or .u64 (u a) (u b) = u (a ||| b) := by
  unfold u; rw [u64_or_nat _ _ a.isLt b.isLt, BitVec.toNat_or]
theorem shl_u (x : BitVec 64) (n : Nat) : IntKind.u64.wrap (u x * 2 ^ n) = u (x <<< n) := by
  unfold u; rw [IntKind.wrap_u64, BitVec.toNat_shiftLeft, Nat.shiftLeft_eq]
  have : ((x.toNat : Int) * 2 ^ n) = ((x.toNat * 2 ^ n : Nat) : Int) := by rw [Int.natCast_mul, Int.natCast_pow]; rfl
  rw [this]; omega
theorem shr_u (x : BitVec 64) (n : Nat) : u x / 2 ^ n = u (x >>> n) := by
  unfold u; rw [BitVec.toNat_ushiftRight, Nat.shiftRight_eq_div_pow]
  have : ((2 : Int) ^ n) = ((2 ^ n : Nat) : Int) := by rw [Int.natCast_pow]; rfl
  rw [this, Int.natCast_ediv]
theorem u_y (a : BitVec 8) : y a = u (a.setWidth 64) := by
  unfold u y; rw [BitVec.toNat_setWidth, Nat.mod_eq_of_lt (by have := a.isLt; omega)]
theorem y_u (x : BitVec 64) : IntKind.u8.wrap (u x) = y (x.setWidth 8) := by
  unfold u y; rw [IntKind.wrap_u8, BitVec.toNat_setWidth]; omega
theorem mul_u (a b : BitVec 64) : IntKind.u64.wrap (u a * u b) = u (a * b) := by
  unfold u; rw [IntKind.wrap_u64, BitVec.toNat_mul, ← Int.natCast_mul]; omega
theorem add_u (a b : BitVec 64) : IntKind.u64.wrap (u a + u b) = u (a + b) := by
  unfold u; rw [IntKind.wrap_u64, BitVec.toNat_add]; omega
theorem sub_u (a b : BitVec 64) : IntKind.u64.wrap (u a - u b) = u (a - b) := by
  unfold u; rw [IntKind.wrap_u64, BitVec.toNat_sub]; have := a.isLt; have := b.isLt; omega

/-! ### Numbers that are made of bytes -/
/-- From the lowest byte on. -/
def ld (f : Nat → BitVec 8) : Nat → BitVec 64
  | 0 => 0#64
  | k + 1 => ld f k ||| ((f k).setWidth 64 <<< (8 * k))
/-- From the highest byte on: k bytes up to n. -/
def hd (f : Nat → BitVec 8) (n : Nat) : Nat → BitVec 64
  | 0 => 0#64
  | k + 1 => hd f n k * 256#64 + (f (n - (k + 1))).setWidth 64
/-- One byte of a word. -/
def by8 (v : BitVec 64) (i : Nat) : BitVec 8 := (v >>> (8 * i)).setWidth 8
/-- The lowest bytes of a word. -/
def bytesOf (v : BitVec 64) (n : Nat) : List (BitVec 8) := (List.range n).map (by8 v)
theorem bytesOf_length (v : BitVec 64) (n : Nat) : (bytesOf v n).length = n := by simp [bytesOf]
theorem bytesOf_succ (v : BitVec 64) (n : Nat) : bytesOf v (n + 1) = bytesOf v n ++ [by8 v n] := by simp [bytesOf, List.range_succ]
theorem bytesOf_getD (v : BitVec 64) (n i : Nat) (h : i < n) : (bytesOf v n).getD i 0#8 = by8 v i := by
  rw [List.getD_eq_getElem?_getD, bytesOf, List.getElem?_map, List.getElem?_range h]; rfl

theorem ld_bit (f : Nat → BitVec 8) : ∀ (n : Nat), n ≤ 8 → ∀ i, (ld f n).getLsbD i = (decide (i < 8 * n) && (f (i / 8)).getLsbD (i % 8))
  | 0, _, i => by simp [ld]
  | k + 1, hk, i => by
    rw [ld, BitVec.getLsbD_or, ld_bit f k (by omega) i, BitVec.getLsbD_shiftLeft, BitVec.getLsbD_setWidth]
    by_cases h1 : i < 8 * k
    · have h2 : i < 8 * (k + 1) := by omega
      simp [h1, h2]
    · by_cases h2 : i < 8 * (k + 1)
      · have e1 : i / 8 = k := by omega
        have e2 : i % 8 = i - 8 * k := by omega
        have h3 : i < 64 := by omega
        have h4 : i - 8 * k < 64 := by omega
        simp [h1, h2, h3, h4, e1, e2]
      · have : (f k).getLsbD (i - 8 * k) = false := BitVec.getLsbD_of_ge _ _ (by omega)
        simp [h1, h2, this]
theorem mul256 (x : BitVec 64) : x * 256#64 = x <<< 8 := by
  apply BitVec.eq_of_toNat_eq; rw [BitVec.toNat_mul, BitVec.toNat_shiftLeft, Nat.shiftLeft_eq]; rfl
theorem shl_add (x : BitVec 64) (b : BitVec 8) : x <<< 8 + b.setWidth 64 = x <<< 8 ||| b.setWidth 64 := by
  apply BitVec.add_eq_or_of_and_eq_zero
  apply BitVec.eq_of_getLsbD_eq
  intro i hi
  rw [BitVec.getLsbD_and, BitVec.getLsbD_shiftLeft, BitVec.getLsbD_setWidth, BitVec.getLsbD_zero]
  by_cases h : i < 8
  · simp [h]
  · rw [BitVec.getLsbD_of_ge b i (by omega)]; simp
theorem hd_bit (f : Nat → BitVec 8) (n : Nat) (hn : n ≤ 8) : ∀ (k : Nat), k ≤ n → ∀ i, (hd f n k).getLsbD i = (decide (i < 8 * k) && (f (n - k + i / 8)).getLsbD (i % 8))
  | 0, _, i => by simp [hd]
  | k + 1, hk, i => by
    rw [hd, mul256, shl_add, BitVec.getLsbD_or, BitVec.getLsbD_shiftLeft, BitVec.getLsbD_setWidth]
    by_cases h1 : i < 8
    · have e1 : i / 8 = 0 := by omega
      have e2 : i % 8 = i := by omega
      have h2 : i < 8 * (k + 1) := by omega
      have h3 : i < 64 := by omega
      simp [h1, h2, h3, e1, e2]
    · rw [hd_bit f n hn k (by omega) (i - 8), BitVec.getLsbD_of_ge (f (n - (k + 1))) i (by omega)]
      by_cases h2 : i < 8 * (k + 1)
      · have e1 : n - k + (i - 8) / 8 = n - (k + 1) + i / 8 := by omega
        have e2 : (i - 8) % 8 = i % 8 := by omega
        have h3 : i < 64 := by omega
        have h4 : i - 8 < 8 * k := by omega
        simp [h1, h2, h3, h4, e1, e2]
      · have h4 : ¬ i - 8 < 8 * k := by omega
        simp [h1, h2, h4]
theorem hd_ld (f : Nat → BitVec 8) (n : Nat) (hn : n ≤ 8) : hd f n n = ld f n := by
  apply BitVec.eq_of_getLsbD_eq
  intro i _
  rw [hd_bit f n hn n (Nat.le_refl _) i, ld_bit f n hn i, Nat.sub_self, Nat.zero_add]
theorem by8_bit (v : BitVec 64) (k i : Nat) : (by8 v k).getLsbD i = (decide (i < 8) && v.getLsbD (8 * k + i)) := by
  unfold by8; rw [BitVec.getLsbD_setWidth, BitVec.getLsbD_ushiftRight]
/-- What is stored is loaded: the lowest bytes of the word. -/
theorem ld_congr {f g : Nat → BitVec 8} : ∀ {n : Nat}, (∀ i, i < n → f i = g i) → ld f n = ld g n
  | 0, _ => rfl
  | k + 1, h => by rw [ld, ld, ld_congr (n := k) (fun i hi => h i (by omega)), h k (by omega)]
theorem ld_by8 (v : BitVec 64) (n : Nat) (hn : n ≤ 8) (i : Nat) : (ld (by8 v) n).getLsbD i = (decide (i < 8 * n) && v.getLsbD i) := by
  rw [ld_bit _ n hn i, by8_bit]
  have e1 : 8 * (i / 8) + i % 8 = i := by omega
  have h : i % 8 < 8 := by omega
  rw [e1]; simp [h]
theorem ld_by8_whole (v : BitVec 64) : ld (by8 v) 8 = v := by
  apply BitVec.eq_of_getLsbD_eq
  intro i hi
  rw [ld_by8 v 8 (Nat.le_refl _) i]
  have : i < 8 * 8 := by omega
  simp [this]
theorem ld_by8_low (v : BitVec 64) (n : Nat) (hn : n < 8) : ld (by8 v) n = v &&& (1#64 <<< (8 * n) - 1#64) := by
  apply BitVec.eq_of_getLsbD_eq
  intro i hi
  have e : 1#64 <<< (8 * n) - 1#64 = BitVec.ofNat 64 (2 ^ (8 * n) - 1) := by
    rcases (by omega : n = 0 ∨ n = 1 ∨ n = 2 ∨ n = 3 ∨ n = 4 ∨ n = 5 ∨ n = 6 ∨ n = 7) with rfl | rfl | rfl | rfl | rfl | rfl | rfl | rfl <;> decide
  rw [ld_by8 v n (by omega) i, BitVec.getLsbD_and, e, BitVec.getLsbD_ofNat, Nat.testBit_two_pow_sub_one]
  simp [hi, Bool.and_comm]

/-! ### Rows of bytes -/
theorem splice_length {α : Type} {L cs : List α} {off : Nat} (h : off + cs.length ≤ L.length) : (splice L off cs).length = L.length := length_splice L off cs h
theorem splice_nil {α : Type} (L : List α) (off : Nat) : splice L off [] = L := by simp [splice]
theorem splice_getElem? {α : Type} (L cs : List α) (off i : Nat) (h : off + cs.length ≤ L.length) :
    (splice L off cs)[i]? = if off ≤ i ∧ i < off + cs.length then cs[i - off]? else L[i]? := by
  have e : min off L.length = off := by omega
  unfold splice
  rw [List.getElem?_append, List.length_take, e]
  by_cases h1 : i < off
  · rw [if_pos h1, if_neg (by omega), List.getElem?_take, if_pos h1]
  · rw [if_neg h1, List.getElem?_append]
    by_cases h2 : i - off < cs.length
    · rw [if_pos h2, if_pos (by omega)]
    · rw [if_neg h2, if_neg (by omega), List.getElem?_drop]; congr 1; omega
theorem splice_getD (L cs : List (BitVec 8)) (off i : Nat) (h : off + cs.length ≤ L.length) :
    (splice L off cs).getD i 0#8 = if off ≤ i ∧ i < off + cs.length then cs.getD (i - off) 0#8 else L.getD i 0#8 := by
  simp only [List.getD_eq_getElem?_getD, splice_getElem? L cs off i h]; split <;> rfl
theorem splice_set {α : Type} (L cs : List α) (off : Nat) (x : α) (h : off + cs.length < L.length) :
    (splice L off cs).set (off + cs.length) x = splice L off (cs ++ [x]) := by
  apply List.ext_getElem?
  intro i
  rw [List.getElem?_set, splice_length (by omega), splice_getElem? L cs off i (by omega), splice_getElem? L _ off i (by simp; omega), List.length_append, List.length_singleton]
  by_cases h1 : off + cs.length = i
  · subst h1
    rw [if_pos rfl, if_pos h, if_pos (by omega), List.getElem?_append_right (by omega)]
    simp
  · rw [if_neg h1]
    by_cases h2 : off ≤ i ∧ i < off + cs.length
    · rw [if_pos h2, if_pos (by omega), List.getElem?_append_left (by omega)]
    · rw [if_neg h2, if_neg (by omega)]

end Go.Proofs.YtaelfgdiboekpaaDoor.Ce
