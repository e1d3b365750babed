/-
  Plain facts on words of 64 bits and on rows of fields, of which no statement of its own is claimed.
-/
import Derived.Laws.BitsAllLaws
import Derived.Laws.BitsLemmas
namespace Go.Proofs.YtaelfgdiboekpaaDoor.Ra
set_option maxRecDepth 100000

/-- A word as the number that it is, unsigned. -/
def u (x : BitVec 64) : Int := (x.toNat : Int)
theorem u_nonneg (x : BitVec 64) : 0 ≤ u x := by unfold u; omega
theorem u_lt (x : BitVec 64) : u x < 18446744073709551616 := by unfold u; have := x.isLt; omega
theorem u_inj {x y : BitVec 64} (h : u x = u y) : x = y := by
  unfold u at h; exact BitVec.eq_of_toNat_eq (by omega)
theorem u_beq (x y : BitVec 64) : (u x == u y) = (x == y) := by
  rw [Bool.eq_iff_iff]; simp only [beq_iff_eq]; exact ⟨u_inj, fun h => by rw [h]⟩
theorem u_of (n : Int) (h0 : 0 ≤ n) (h1 : n < 18446744073709551616) : ∃ x : BitVec 64, n = u x :=
  ⟨BitVec.ofNat 64 n.toNat, by unfold u; rw [BitVec.toNat_ofNat, Nat.mod_eq_of_lt (by omega)]; omega⟩
theorem and_u (x y : BitVec 64) : bits .and .u64 (u x) (u y) = u (x &&& y) := by
  unfold u; rw [u64_and_nat _ _ x.isLt y.isLt, BitVec.toNat_and]
theorem or_u (x y : BitVec 64) : bits .or .u64 (u x) (u y) = u (x ||| y) := by
  unfold u; rw [u64_or_nat _ _ x.isLt y.isLt, BitVec.toNat_or]
theorem andNot_u (x y : BitVec 64) : bits .andNot .u64 (u x) (u y) = u (x &&& ~~~y) := by
  unfold u; rw [u64_andNot_nat _ _ x.isLt y.isLt, BitVec.toNat_and, BitVec.toNat_not]
theorem shl_u (x : BitVec 64) (n : Nat) : IntKind.u64.wrap (u x * 2 ^ n) = u (x <<< n) := by
  unfold u; rw [IntKind.wrap_u64, BitVec.toNat_shiftLeft, Nat.shiftLeft_eq]
  have : ((x.toNat : Int) * 2 ^ n) = ((x.toNat * 2 ^ n : Nat) : Int) := by rw [Int.natCast_mul, Int.natCast_pow]; rfl
  rw [this]; omega
theorem shr_u (x : BitVec 64) (n : Nat) : u x / 2 ^ n = u (x >>> n) := by
  unfold u; rw [BitVec.toNat_ushiftRight, Nat.shiftRight_eq_div_pow]
  have : ((2 : Int) ^ n) = ((2 ^ n : Nat) : Int) := by rw [Int.natCast_pow]; rfl
  rw [this, Int.natCast_ediv]
/-- The lowest n bits. -/
def low (n : Nat) : BitVec 64 := BitVec.allOnes 64 >>> (64 - n)
theorem low_bit (n i : Nat) (h : n ≤ 64) : (low n).getLsbD i = decide (i < n) := by
  unfold low; rw [BitVec.getLsbD_ushiftRight, BitVec.getLsbD_allOnes]; rw [Bool.eq_iff_iff]; simp; omega
/-- No bit above a width. -/
def fits (v : BitVec 64) (n : Nat) : Bool := decide (v ≤ low n)
theorem low_toNat (n : Nat) (h : n ≤ 64) : (low n).toNat = 2 ^ n - 1 := by
  unfold low; rw [BitVec.toNat_ushiftRight, BitVec.toNat_allOnes, Nat.shiftRight_eq_div_pow]
  have e : 2 ^ 64 = 2 ^ n * 2 ^ (64 - n) := by rw [← Nat.pow_add]; congr 1; omega
  have p : 0 < 2 ^ (64 - n) := Nat.two_pow_pos _
  rw [e]
  apply Nat.div_eq_of_lt_le
  · rw [Nat.sub_mul]; omega
  · have q : 0 < 2 ^ n := Nat.two_pow_pos _
    have : 2 ^ n - 1 + 1 = 2 ^ n := by omega
    rw [this]; have := Nat.mul_pos q p; omega
theorem fits_iff (v : BitVec 64) (n : Nat) (h : n ≤ 64) : fits v n = true ↔ ∀ i, n ≤ i → v.getLsbD i = false := by
  unfold fits; rw [decide_eq_true_iff, BitVec.le_def, low_toNat n h]
  have p : 0 < 2 ^ n := Nat.two_pow_pos _
  constructor
  · intro hv i hi
    rw [BitVec.getLsbD]
    exact Nat.testBit_lt_two_pow (Nat.lt_of_lt_of_le (by omega) (Nat.pow_le_pow_right (by omega) hi))
  · intro hv
    have : v.toNat < 2 ^ n := by
      apply Nat.lt_pow_two_of_testBit
      intro i hi; exact hv i hi
    omega
theorem u_le_low (v : BitVec 64) (n : Nat) : decide (u v ≤ u (low n)) = fits v n := by
  unfold fits u; rw [Bool.eq_iff_iff, decide_eq_true_iff, decide_eq_true_iff, BitVec.le_def]; omega
def getW (x : BitVec 64) (s n : Nat) : BitVec 64 := (x >>> s) &&& low n
def maskW (s n : Nat) : BitVec 64 := low n <<< s
def putW (x : BitVec 64) (s n : Nat) (v : BitVec 64) : BitVec 64 := (x &&& ~~~(maskW s n)) ||| (v <<< s)
/-- A field is right. -/
def rightB (s n : Int) : Bool := decide (1 ≤ n ∧ n ≤ 64 ∧ 0 ≤ s ∧ s + n ≤ 64)
theorem rightB_iff {s n : Int} : rightB s n = true ↔ 1 ≤ n ∧ n ≤ 64 ∧ 0 ≤ s ∧ s + n ≤ 64 := by simp [rightB]
/-- The bits of a field. -/
def fm (p : Int × Int) : BitVec 64 := maskW p.1.toNat p.2.toNat
def fr (p : Int × Int) : Bool := rightB p.1 p.2
/-- Are all right, and has no bit two, nor one that is there already? -/
def apartGo (seen : BitVec 64) : List (Int × Int) → Bool
  | [] => true
  | p :: r => fr p && (seen &&& fm p == 0#64) && apartGo (seen ||| fm p) r
/-- The bits of the first k fields. -/
def seenTo (l : List (Int × Int)) : Nat → BitVec 64
  | 0 => 0#64
  | k + 1 => seenTo l k ||| fm (l.getD k (0, 0))
theorem apart_step (l : List (Int × Int)) (k : Nat) (h : k < l.length) :
    apartGo (seenTo l k) (l.drop k) = (fr (l.getD k (0, 0)) && (seenTo l k &&& fm (l.getD k (0, 0)) == 0#64) && apartGo (seenTo l (k + 1)) (l.drop (k + 1))) := by
  rw [List.drop_eq_getElem_cons h, apartGo, seenTo, List.getD_eq_getElem?_getD, List.getElem?_eq_getElem h]; rfl
/-- All but the last question: the fields up to k are right and apart. -/
def okTo (l : List (Int × Int)) (k : Nat) : Prop := apartGo 0#64 l = apartGo (seenTo l k) (l.drop k)
theorem okTo_zero (l : List (Int × Int)) : okTo l 0 := rfl
theorem okTo_succ {l : List (Int × Int)} {k : Nat} (h : okTo l k) (hk : k < l.length) (h1 : fr (l.getD k (0, 0)) = true) (h2 : (seenTo l k &&& fm (l.getD k (0, 0)) == 0#64) = true) : okTo l (k + 1) := by
  unfold okTo at h ⊢; rw [h, apart_step l k hk, h1, h2]; rfl
theorem okTo_wrong {l : List (Int × Int)} {k : Nat} (h : okTo l k) (hk : k < l.length) (h1 : fr (l.getD k (0, 0)) = false) : apartGo 0#64 l = false := by
  unfold okTo at h; rw [h, apart_step l k hk, h1]; rfl
theorem okTo_twice {l : List (Int × Int)} {k : Nat} (h : okTo l k) (hk : k < l.length) (h2 : (seenTo l k &&& fm (l.getD k (0, 0)) == 0#64) = false) : apartGo 0#64 l = false := by
  unfold okTo at h; rw [h, apart_step l k hk, h2]; simp
theorem okTo_end {l : List (Int × Int)} (h : okTo l l.length) : apartGo 0#64 l = true := by
  unfold okTo at h; rw [h, List.drop_length]; rfl
theorem and_or_zero {a b c : BitVec 64} (h : (a ||| b) &&& c = 0#64) : a &&& c = 0#64 ∧ b &&& c = 0#64 := by
  constructor <;> (apply BitVec.eq_of_getLsbD_eq; intro i hi; have := congrArg (·.getLsbD i) h; simp only [BitVec.getLsbD_and, BitVec.getLsbD_or, BitVec.getLsbD_zero] at this ⊢; revert this; cases a.getLsbD i <;> cases b.getLsbD i <;> cases c.getLsbD i <;> simp)
theorem apart_all (l : List (Int × Int)) : ∀ seen, apartGo seen l = true → ∀ p ∈ l, fr p = true ∧ seen &&& fm p = 0#64 := by
  induction l with
  | nil => intro _ _ p hp; cases hp
  | cons q r ih =>
    intro seen h p hp
    rw [apartGo, Bool.and_eq_true, Bool.and_eq_true, beq_iff_eq] at h
    rcases List.mem_cons.1 hp with rfl | hp
    · exact h.1
    · have := ih _ h.2 p hp
      exact ⟨this.1, (and_or_zero this.2).1⟩
/-- The word of fields' values. -/
def packGo (x : BitVec 64) : List (Int × Int) → List (BitVec 64) → Option (BitVec 64)
  | p :: r, v :: vs => if fits v p.2.toNat then packGo (putW x p.1.toNat p.2.toNat v) r vs else none
  | _, _ => some x
/-- The word of the first k fields' values. -/
def packTo (l : List (Int × Int)) (vs : List (BitVec 64)) : Nat → BitVec 64
  | 0 => 0#64
  | k + 1 => putW (packTo l vs k) (l.getD k (0, 0)).1.toNat (l.getD k (0, 0)).2.toNat (vs.getD k 0#64)
def pkTo (l : List (Int × Int)) (vs : List (BitVec 64)) (k : Nat) : Prop := packGo 0#64 l vs = packGo (packTo l vs k) (l.drop k) (vs.drop k)
theorem pkTo_zero (l : List (Int × Int)) (vs : List (BitVec 64)) : pkTo l vs 0 := rfl
theorem pk_step (l : List (Int × Int)) (vs : List (BitVec 64)) (k : Nat) (h : k < l.length) (h' : k < vs.length) :
    packGo (packTo l vs k) (l.drop k) (vs.drop k) = if fits (vs.getD k 0#64) (l.getD k (0, 0)).2.toNat then packGo (packTo l vs (k + 1)) (l.drop (k + 1)) (vs.drop (k + 1)) else none := by
  rw [List.drop_eq_getElem_cons h, List.drop_eq_getElem_cons h', packGo, packTo]
  have e1 : l.getD k (0, 0) = l[k] := by rw [List.getD_eq_getElem?_getD, List.getElem?_eq_getElem h]; rfl
  have e2 : vs.getD k 0#64 = vs[k] := by rw [List.getD_eq_getElem?_getD, List.getElem?_eq_getElem h']; rfl
  rw [e1, e2]
theorem pkTo_succ {l : List (Int × Int)} {vs : List (BitVec 64)} {k : Nat} (h : pkTo l vs k) (hk : k < l.length) (hk' : k < vs.length) (hf : fits (vs.getD k 0#64) (l.getD k (0, 0)).2.toNat = true) : pkTo l vs (k + 1) := by
  unfold pkTo at h ⊢; rw [h, pk_step l vs k hk hk', if_pos hf]
theorem pkTo_wide {l : List (Int × Int)} {vs : List (BitVec 64)} {k : Nat} (h : pkTo l vs k) (hk : k < l.length) (hk' : k < vs.length) (hf : fits (vs.getD k 0#64) (l.getD k (0, 0)).2.toNat = false) : packGo 0#64 l vs = none := by
  unfold pkTo at h; rw [h, pk_step l vs k hk hk', hf]; rfl
theorem pkTo_end {l : List (Int × Int)} {vs : List (BitVec 64)} (h : pkTo l vs l.length) : packGo 0#64 l vs = some (packTo l vs l.length) := by
  unfold pkTo at h; rw [h, List.drop_length]; rfl

end Go.Proofs.YtaelfgdiboekpaaDoor.Ra
