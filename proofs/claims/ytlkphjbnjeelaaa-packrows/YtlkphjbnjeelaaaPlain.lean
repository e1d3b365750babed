/-
  Plain facts on words of 64 bits, of which no statement of its own is claimed: words as bit vectors, fields, cuts and turns of them.
-/
import Derived.Laws.BitsAllLaws
import Derived.Laws.BitsLemmas
namespace Go.Proofs.Ytlkphjbnjeelaaa

/-- A word as the number that it is, unsigned. -/
def u (x : BitVec 64) : Int := (x.toNat : Int)
/-- A word as the number that it is, signed. -/
def sg (x : BitVec 64) : Int := x.toInt

theorem u_nonneg (x : BitVec 64) : 0 ≤ u x := by unfold u; omega
theorem u_lt (x : BitVec 64) : u x < 18446744073709551616 := by unfold u; have := x.isLt; omega
theorem u_inj {x y : BitVec 64} (h : u x = u y) : x = y := by
  unfold u at h; exact BitVec.eq_of_toNat_eq (by omega)
theorem u_beq (x y : BitVec 64) : (u x == u y) = (x == y) := by
  rw [Bool.eq_iff_iff]; simp only [beq_iff_eq]; exact ⟨u_inj, fun h => by rw [h]⟩
theorem u_of (n : Int) (h0 : 0 ≤ n) (h1 : n < 18446744073709551616) : ∃ x : BitVec 64, n = u x :=
  ⟨BitVec.ofNat 64 n.toNat, by unfold u; rw [BitVec.toNat_ofNat, Nat.mod_eq_of_lt (by omega)]; omega⟩
theorem sg_of (n : Int) (h0 : -9223372036854775808 ≤ n) (h1 : n ≤ 9223372036854775807) : ∃ x : BitVec 64, n = sg x :=
  ⟨BitVec.ofInt 64 n, by unfold sg; rw [BitVec.toInt_ofInt, Int.bmod_def]; omega⟩
theorem sg_bd (x : BitVec 64) : -9223372036854775808 ≤ sg x ∧ sg x ≤ 9223372036854775807 := by
  unfold sg; have h1 := @BitVec.toInt_lt 64 x; have h2 := @BitVec.le_toInt 64 x; omega
theorem sg_inj {x y : BitVec 64} (h : sg x = sg y) : x = y := BitVec.eq_of_toInt_eq h
theorem sg_beq (x y : BitVec 64) : (sg x == sg y) = (x == y) := by
  rw [Bool.eq_iff_iff]; simp only [beq_iff_eq]; exact ⟨sg_inj, fun h => by rw [h]⟩

theorem and_u (x y : BitVec 64) : bits .and .u64 (u x) (u y) = u (x &&& y) := by
  unfold u; rw [u64_and_nat _ _ x.isLt y.isLt, BitVec.toNat_and]
theorem or_u (x y : BitVec 64) : bits .or .u64 (u x) (u y) = u (x ||| y) := by
  unfold u; rw [u64_or_nat _ _ x.isLt y.isLt, BitVec.toNat_or]
theorem andNot_u (x y : BitVec 64) : bits .andNot .u64 (u x) (u y) = u (x &&& ~~~y) := by
  unfold u; rw [u64_andNot_nat _ _ x.isLt y.isLt, BitVec.toNat_and, BitVec.toNat_not]
theorem shl_u (x : BitVec 64) (n : Nat) : IntKind.u64.wrap (u x * 2 ^ n) = u (x <<< n) := by
  unfold u; rw [IntKind.wrap_u64, BitVec.toNat_shiftLeft, Nat.shiftLeft_eq]
  have : ((x.toNat : Int) * 2 ^ n) = ((x.toNat * 2 ^ n : Nat) : Int) := by rw [Int.natCast_mul, Int.natCast_pow]; rfl
  rw [this]; omega
theorem shr_u (x : BitVec 64) (n : Nat) : u x / 2 ^ n = u (x >>> n) := by
  unfold u; rw [BitVec.toNat_ushiftRight, Nat.shiftRight_eq_div_pow]
  have : ((2 : Int) ^ n) = ((2 ^ n : Nat) : Int) := by rw [Int.natCast_pow]; rfl
  rw [this, Int.natCast_ediv]
theorem shr_sg (x : BitVec 64) (n : Nat) : sg x / 2 ^ n = sg (x.sshiftRight n) := by
  unfold sg; rw [BitVec.toInt_sshiftRight, Int.shiftRight_eq_div_pow]
  have : ((2 : Int) ^ n) = ((2 ^ n : Nat) : Int) := by rw [Int.natCast_pow]; rfl
  rw [this]
theorem sg_of_u (x : BitVec 64) : IntKind.i64.wrap (u x) = sg x := by
  unfold u sg; rw [IntKind.wrap_i64, BitVec.toInt_eq_toNat_cond]; have := x.isLt; split <;> omega
theorem u_of_sg (x : BitVec 64) : IntKind.u64.wrap (sg x) = u x := by
  unfold u sg; rw [IntKind.wrap_u64, BitVec.toInt_eq_toNat_cond]; have := x.isLt; split <;> omega

/-! ### Fields -/
/-- The lowest n bits. -/
def low (n : Nat) : BitVec 64 := BitVec.allOnes 64 >>> (64 - n)
theorem low_bit (n i : Nat) (h : n ≤ 64) : (low n).getLsbD i = decide (i < n) := by
  unfold low; rw [BitVec.getLsbD_ushiftRight, BitVec.getLsbD_allOnes]; rw [Bool.eq_iff_iff]; simp; omega
/-- One bit of a word, as a word. -/
def bitW (x : BitVec 64) (n : Nat) : BitVec 64 := (x >>> n) &&& 1#64
theorem bitW_bit (x : BitVec 64) (n i : Nat) : (bitW x n).getLsbD i = (decide (i = 0) && x.getLsbD n) := by
  unfold bitW; rw [BitVec.getLsbD_and, BitVec.getLsbD_ushiftRight, BitVec.getLsbD_one]
  by_cases h : i = 0
  · subst h; simp
  · simp [h]
theorem bitW_eq_one (x : BitVec 64) (n : Nat) : (bitW x n == 1#64) = x.getLsbD n := by
  rw [Bool.eq_iff_iff, beq_iff_eq]
  constructor
  · intro h; have := bitW_bit x n 0; rw [h] at this; simpa using this.symm
  · intro h; apply BitVec.eq_of_getLsbD_eq; intro i _; rw [bitW_bit, h, BitVec.getLsbD_one]; simp
/-- Bits gathered one behind the other. -/
def acc (f : Nat → BitVec 64) : Nat → BitVec 64
  | 0 => 0#64
  | k + 1 => acc f k ||| (f k <<< k)
theorem acc_bit (f : Nat → BitVec 64) (g : Nat → Bool) (h : ∀ i j, (f i).getLsbD j = (decide (j = 0) && g i)) (k j : Nat) :
    (acc f k).getLsbD j = (decide (j < k) && decide (j < 64) && g j) := by
  induction k with
  | zero => simp [acc]
  | succ k ih =>
    rw [acc, BitVec.getLsbD_or, ih, BitVec.getLsbD_shiftLeft, h]
    by_cases hj : j = k
    · subst hj; simp
    · by_cases hl : j < k
      · simp [hl, Nat.lt_succ_of_lt hl]
      · have h1 : ¬ j < k + 1 := by omega
        have h2 : ¬ j - k = 0 := by omega
        simp [hl, h1, h2]
/-- No bit above a width. -/
def fits (v : BitVec 64) (n : Nat) : Bool := decide (v ≤ low n)
theorem low_toNat (n : Nat) (h : n ≤ 64) : (low n).toNat = 2 ^ n - 1 := by
  unfold low; rw [BitVec.toNat_ushiftRight, BitVec.toNat_allOnes, Nat.shiftRight_eq_div_pow]
  have e : 2 ^ 64 = 2 ^ n * 2 ^ (64 - n) := by rw [← Nat.pow_add]; congr 1; omega
  have p : 0 < 2 ^ (64 - n) := Nat.two_pow_pos _
  rw [e]
  apply Nat.div_eq_of_lt_le
  · rw [Nat.sub_mul]; omega
  · have q : 0 < 2 ^ n := Nat.two_pow_pos _
    have : 2 ^ n - 1 + 1 = 2 ^ n := by omega
    rw [this]; have := Nat.mul_pos q p; omega
theorem fits_iff (v : BitVec 64) (n : Nat) (h : n ≤ 64) : fits v n = true ↔ ∀ i, n ≤ i → v.getLsbD i = false := by
  unfold fits; rw [decide_eq_true_iff, BitVec.le_def, low_toNat n h]
  have p : 0 < 2 ^ n := Nat.two_pow_pos _
  constructor
  · intro hv i hi
    rw [BitVec.getLsbD]
    exact Nat.testBit_lt_two_pow (Nat.lt_of_lt_of_le (by omega) (Nat.pow_le_pow_right (by omega) hi))
  · intro hv
    have : v.toNat < 2 ^ n := by
      apply Nat.lt_pow_two_of_testBit
      intro i hi; exact hv i hi
    omega
theorem u_le_low (v : BitVec 64) (n : Nat) : decide (u v ≤ u (low n)) = fits v n := by
  unfold fits u; rw [Bool.eq_iff_iff, decide_eq_true_iff, decide_eq_true_iff, BitVec.le_def]; omega
def getW (x : BitVec 64) (s n : Nat) : BitVec 64 := (x >>> s) &&& low n
def maskW (s n : Nat) : BitVec 64 := low n <<< s
def putW (x : BitVec 64) (s n : Nat) (v : BitVec 64) : BitVec 64 := (x &&& ~~~(maskW s n)) ||| (v <<< s)
theorem get_acc (x : BitVec 64) (s n : Nat) (h : n ≤ 64) : acc (fun i => bitW x (s + i)) n = getW x s n := by
  apply BitVec.eq_of_getLsbD_eq
  intro i hi
  rw [acc_bit _ (fun i => x.getLsbD (s + i)) (fun i j => bitW_bit x (s + i) j), getW, BitVec.getLsbD_and, BitVec.getLsbD_ushiftRight, low_bit n i h]
  simp [hi, Bool.and_comm]
def putBit (x : BitVec 64) (s n : Nat) (v : BitVec 64) (i : Nat) : BitVec 64 := if s ≤ i ∧ i < s + n then bitW v (i - s) else bitW x i
theorem put_acc (x : BitVec 64) (s n : Nat) (v : BitVec 64) (h : n ≤ 64) (hv : fits v n = true) : acc (putBit x s n v) 64 = putW x s n v := by
  apply BitVec.eq_of_getLsbD_eq
  intro i hi
  have hv' := (fits_iff v n h).1 hv
  rw [acc_bit _ (fun i => if s ≤ i ∧ i < s + n then v.getLsbD (i - s) else x.getLsbD i) (fun i j => by unfold putBit; split <;> rw [bitW_bit])]
  rw [putW, maskW, BitVec.getLsbD_or, BitVec.getLsbD_and, BitVec.getLsbD_not, BitVec.getLsbD_shiftLeft, BitVec.getLsbD_shiftLeft, low_bit n _ h]
  by_cases h1 : s ≤ i
  · by_cases h2 : i < s + n
    · have h3 : i - s < n := by omega
      have h4 : ¬ i < s := by omega
      simp [hi, h1, h2, h3, h4]
    · have h3 : ¬ i - s < n := by omega
      simp [hi, h2, h3, hv' (i - s) (by omega)]
  · have h4 : i < s := by omega
    simp [hi, h1, h4]

/-! ### Cuts -/
def signW (x : BitVec 64) (n : Nat) : BitVec 64 := (x <<< (64 - n)).sshiftRight (64 - n)
def unsW (x : BitVec 64) (n : Nat) : BitVec 64 := x &&& low n
def cutBit (x : BitVec 64) (n : Nat) (sd : Bool) (i : Nat) : BitVec 64 := if i < n then bitW x i else if sd = true then bitW x (n - 1) else 0#64
theorem cut_acc_u (x : BitVec 64) (n : Nat) (h : n ≤ 64) : acc (cutBit x n false) 64 = unsW x n := by
  apply BitVec.eq_of_getLsbD_eq
  intro i hi
  rw [acc_bit _ (fun i => if i < n then x.getLsbD i else false) (fun i j => by unfold cutBit; split <;> simp [bitW_bit]), unsW, BitVec.getLsbD_and, low_bit n i h]
  by_cases h1 : i < n <;> simp [h1, hi]
theorem sign_bit (x : BitVec 64) (n i : Nat) (h0 : 1 ≤ n) (h : n ≤ 64) (hi : i < 64) : (signW x n).getLsbD i = if i < n then x.getLsbD i else x.getLsbD (n - 1) := by
  unfold signW
  rw [BitVec.getLsbD_sshiftRight, BitVec.msb_eq_getLsbD_last, BitVec.getLsbD_shiftLeft, BitVec.getLsbD_shiftLeft]
  by_cases h1 : i < n
  · have h2 : 64 - n + i < 64 := by omega
    have h3 : 64 - n + i - (64 - n) = i := by omega
    have h4 : ¬ 64 ≤ i := by omega
    have h5 : ¬ 64 - n + i < 64 - n := by omega
    simp [h1, h2, hi, h3, h4, h5]
  · have h2 : ¬ 64 - n + i < 64 := by omega
    have h3 : 63 - (64 - n) = n - 1 := by omega
    have h4 : ¬ 64 ≤ i := by omega
    have h5 : ¬ 63 < 64 - n := by omega
    simp [h1, h2, h3, h4, h5]
theorem cut_acc_s (x : BitVec 64) (n : Nat) (h0 : 1 ≤ n) (h : n ≤ 64) : acc (cutBit x n true) 64 = signW x n := by
  apply BitVec.eq_of_getLsbD_eq
  intro i hi
  rw [acc_bit _ (fun i => if i < n then x.getLsbD i else x.getLsbD (n - 1)) (fun i j => by unfold cutBit; split <;> simp [bitW_bit]), sign_bit x n i h0 h hi]
  simp [hi]
theorem uns_bit (x : BitVec 64) (n i : Nat) (h : n ≤ 64) : (unsW x n).getLsbD i = (x.getLsbD i && decide (i < n)) := by
  unfold unsW; rw [BitVec.getLsbD_and, low_bit n i h]
theorem uns_fits (x : BitVec 64) (n : Nat) (h : n ≤ 64) : fits (unsW x n) n = true :=
  (fits_iff _ n h).2 fun i hi => by rw [uns_bit x n i h]; simp; omega

/-! ### Turns -/
def rotW (v : BitVec 64) (n up : Nat) : BitVec 64 := ((v <<< up) &&& low n) ||| (v >>> (n - up))
theorem rot_bit (v : BitVec 64) (n up i : Nat) (h : n ≤ 64) (hu : up < n) (hv : fits v n = true) :
    (rotW v n up).getLsbD i = (decide (i < n) && v.getLsbD ((i + n - up) % n)) := by
  have hv' := (fits_iff v n h).1 hv
  rw [rotW, BitVec.getLsbD_or, BitVec.getLsbD_and, BitVec.getLsbD_shiftLeft, BitVec.getLsbD_ushiftRight, low_bit n i h]
  by_cases h1 : i < n
  · have hi : i < 64 := by omega
    by_cases h2 : up ≤ i
    · have e : (i + n - up) % n = i - up := by
        have : i + n - up = (i - up) + n := by omega
        rw [this, Nat.add_mod_right, Nat.mod_eq_of_lt (by omega)]
      have h3 : ¬ i < up := by omega
      rw [e, hv' (n - up + i) (by omega)]; simp [h1, hi, h3]
    · have e : (i + n - up) % n = n - up + i := by
        rw [Nat.mod_eq_of_lt (by omega)]; omega
      have h3 : i < up := by omega
      rw [e]; simp [h1, h3]
  · rw [hv' (n - up + i) (by omega)]; simp [h1]
def accP (f : Nat → BitVec 64) (pos : Nat → Nat) : Nat → BitVec 64
  | 0 => 0#64
  | k + 1 => accP f pos k ||| (f k <<< pos k)
theorem accP_bit (f : Nat → BitVec 64) (pos : Nat → Nat) (g : Nat → Bool) (h : ∀ i j, (f i).getLsbD j = (decide (j = 0) && g i)) (k j : Nat) :
    (accP f pos k).getLsbD j = true ↔ j < 64 ∧ ∃ i, i < k ∧ pos i = j ∧ g i = true := by
  induction k with
  | zero => simp [accP]
  | succ k ih =>
    rw [accP, BitVec.getLsbD_or, Bool.or_eq_true, ih, BitVec.getLsbD_shiftLeft, h]
    constructor
    · rintro (⟨h64, i, hi, hp, hg⟩ | hr)
      · exact ⟨h64, i, by omega, hp, hg⟩
      · simp at hr
        obtain ⟨⟨h64, hle⟩, hz, hg⟩ := hr
        exact ⟨h64, k, by omega, by omega, hg⟩
    · rintro ⟨h64, i, hi, hp, hg⟩
      by_cases hk : i = k
      · right; subst hk; subst hp; simp [h64, hg]
      · left; exact ⟨h64, i, by omega, hp, hg⟩
theorem rot_acc (v : BitVec 64) (n up : Nat) (h : n ≤ 64) (hu : up < n) (hv : fits v n = true) :
    accP (fun i => bitW v i) (fun i => (i + up) % n) n = rotW v n up := by
  apply BitVec.eq_of_getLsbD_eq
  intro j hj
  rw [Bool.eq_iff_iff, accP_bit _ _ (fun i => v.getLsbD i) (fun i j => bitW_bit v i j), rot_bit v n up j h hu hv, Bool.and_eq_true, decide_eq_true_iff]
  constructor
  · rintro ⟨_, i, hi, rfl, hg⟩
    refine ⟨Nat.mod_lt _ (by omega), ?_⟩
    have e : ((i + up) % n + n - up) % n = i := by
      by_cases hc : i + up < n
      · rw [Nat.mod_eq_of_lt hc]
        have : i + up + n - up = i + n := by omega
        rw [this, Nat.add_mod_right, Nat.mod_eq_of_lt hi]
      · have : (i + up) % n = i + up - n := by
          rw [Nat.mod_eq_sub_mod (by omega), Nat.mod_eq_of_lt (by omega)]
        rw [this]
        have : i + up - n + n - up = i := by omega
        rw [this, Nat.mod_eq_of_lt hi]
    rw [e]; exact hg
  · rintro ⟨hjn, hg⟩
    refine ⟨hj, (j + n - up) % n, Nat.mod_lt _ (by omega), ?_, hg⟩
    rw [Nat.mod_add_mod]
    have : j + n - up + up = j + n := by omega
    rw [this, Nat.add_mod_right, Nat.mod_eq_of_lt hjn]
def turnW (v : BitVec 64) (n : Nat) (d : Int) : BitVec 64 := rotW v n (d % n).toNat
theorem turn_bit (v : BitVec 64) (n i : Nat) (d : Int) (h0 : 1 ≤ n) (h : n ≤ 64) (hv : fits v n = true) :
    (turnW v n d).getLsbD i = (decide (i < n) && v.getLsbD (((i : Int) - d) % n).toNat) := by
  have a1 : 0 ≤ d % (n : Int) := Int.emod_nonneg _ (by omega)
  have a2 : d % (n : Int) < n := Int.emod_lt_of_pos _ (by omega)
  rw [turnW, rot_bit v n _ i h (by omega) hv]
  congr 2
  have e : ((i + n - (d % (n : Int)).toNat : Nat) : Int) = (i : Int) + n - d % n := by omega
  have : (((i + n - (d % (n : Int)).toNat) % n : Nat) : Int) = ((i : Int) - d) % n := by
    rw [Int.natCast_emod, e]
    have : (i : Int) + n - d % n = (i - d) + n * (d / n + 1) := by
      have := Int.mul_ediv_add_emod d n
      rw [Int.mul_add, Int.mul_one]; omega
    rw [this, Int.add_mul_emod_self_left]
  omega
theorem turn_fits (v : BitVec 64) (n : Nat) (d : Int) (h0 : 1 ≤ n) (h : n ≤ 64) (hv : fits v n = true) : fits (turnW v n d) n = true :=
  (fits_iff _ n h).2 fun i hi => by
    have : ¬ i < n := by omega
    rw [turn_bit v n i d h0 h hv]; simp [this]
theorem turn_turn (v : BitVec 64) (n : Nat) (a b : Int) (h0 : 1 ≤ n) (h : n ≤ 64) (hv : fits v n = true) :
    turnW (turnW v n a) n b = turnW v n (a + b) := by
  apply BitVec.eq_of_getLsbD_eq
  intro i _
  have b1 : 0 ≤ ((i : Int) - b) % n := Int.emod_nonneg _ (by omega)
  have b2 : ((i : Int) - b) % n < n := Int.emod_lt_of_pos _ (by omega)
  have b3 : (((i : Int) - b) % n).toNat < n := by omega
  rw [turn_bit _ n i b h0 h (turn_fits v n a h0 h hv), turn_bit v n _ a h0 h hv, turn_bit v n i (a + b) h0 h hv]
  have e : (((((i : Int) - b) % n).toNat : Int) - a) % n = ((i : Int) - (a + b)) % n := by
    rw [Int.toNat_of_nonneg b1, Int.emod_sub_emod]; congr 1; omega
  rw [e]; simp [b3]
theorem turn_zero (v : BitVec 64) (n : Nat) (h0 : 1 ≤ n) (h : n ≤ 64) (hv : fits v n = true) : turnW v n 0 = v := by
  apply BitVec.eq_of_getLsbD_eq
  intro i _
  rw [turn_bit v n i 0 h0 h hv]
  by_cases hi : i < n
  · have : ((i : Int) - 0) % n = i := by rw [Int.sub_zero, Int.emod_eq_of_lt (by omega) (by omega)]
    rw [this]; simp [hi]
  · rw [(fits_iff v n h).1 hv i (by omega)]; simp [hi]
theorem sign_uns (x : BitVec 64) (n : Nat) (h0 : 1 ≤ n) (h : n ≤ 64) : unsW (signW x n) n = unsW x n := by
  apply BitVec.eq_of_getLsbD_eq
  intro i hi
  rw [uns_bit _ n i h, uns_bit _ n i h, sign_bit x n i h0 h hi]
  by_cases h1 : i < n <;> simp [h1]
theorem sign_sign (x : BitVec 64) (n : Nat) (h0 : 1 ≤ n) (h : n ≤ 64) : signW (signW x n) n = signW x n := by
  apply BitVec.eq_of_getLsbD_eq
  intro i hi
  rw [sign_bit _ n i h0 h hi, sign_bit x n i h0 h hi, sign_bit x n (n - 1) h0 h (by omega)]
  have h2 : n - 1 < n := by omega
  by_cases h1 : i < n <;> simp [h1, h2]
theorem uns_uns (x : BitVec 64) (n : Nat) (h : n ≤ 64) : unsW (unsW x n) n = unsW x n := by
  apply BitVec.eq_of_getLsbD_eq
  intro i _
  rw [uns_bit _ n i h, uns_bit x n i h]; cases x.getLsbD i <;> simp
theorem uns_sg (x : BitVec 64) (n : Nat) (h : n < 64) : 0 ≤ sg (unsW x n) := by
  have hb := uns_bit x n 63 (by omega)
  have : (unsW x n).msb = false := by
    rw [BitVec.msb_eq_getLsbD_last, hb]; have : ¬ 63 < n := by omega
    simp [this]
  unfold sg; rw [BitVec.toInt_eq_msb_cond, this]; simp

end Go.Proofs.Ytlkphjbnjeelaaa
