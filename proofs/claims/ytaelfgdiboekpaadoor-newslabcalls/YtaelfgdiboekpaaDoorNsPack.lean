/-
  The word of a free slot out of its fields: plain facts, of which no statement of its own is claimed.
-/
import Derived.Test.YtaelfgdiboekpaaDoorNsBase
import Derived.Test.YtaelfgdiboekpaaDoorRaA
namespace Go.Proofs.YtaelfgdiboekpaaDoor.Ns
set_option maxRecDepth 100000
open Ra (getW putW maskW low low_toNat fits packGo apartGo rightB)
section
open Ra (u low_bit)
theorem put_low (x v : BitVec 64) (s n : Nat) (h : s + n ≤ 64) (hx : x.toNat < 2 ^ s) (hv : fits v n = true) :
    (putW x s n v).toNat = x.toNat + v.toNat * 2 ^ s ∧ (putW x s n v).toNat < 2 ^ (s + n) := by
  have hn : v.toNat < 2 ^ n := by
    unfold fits at hv
    rw [decide_eq_true_iff, BitVec.le_def, low_toNat n (by omega)] at hv
    have : 0 < 2 ^ n := Nat.two_pow_pos n
    omega
  have hm : x &&& ~~~(maskW s n) = x := by
    apply BitVec.eq_of_getLsbD_eq
    intro i hi
    rw [BitVec.getLsbD_and, BitVec.getLsbD_not]
    by_cases his : s ≤ i
    · have : x.getLsbD i = false := by
        rw [BitVec.getLsbD]
        exact Nat.testBit_lt_two_pow (Nat.lt_of_lt_of_le hx (Nat.pow_le_pow_right (by omega) his))
      rw [this]; rfl
    · unfold maskW
      rw [BitVec.getLsbD_shiftLeft]
      have h1 : i < s := by omega
      simp [hi, h1]
  have hp : v.toNat * 2 ^ s < 2 ^ (s + n) := by
    rw [Nat.pow_add, Nat.mul_comm (2 ^ s)]
    exact Nat.mul_lt_mul_of_pos_right hn (Nat.two_pow_pos s)
  have h64 : 2 ^ (s + n) ≤ 2 ^ 64 := Nat.pow_le_pow_right (by omega) h
  have e : (putW x s n v).toNat = x.toNat + v.toNat * 2 ^ s := by
    unfold putW
    rw [hm, BitVec.toNat_or, BitVec.toNat_shiftLeft, Nat.shiftLeft_eq, Nat.mod_eq_of_lt (by omega), Nat.or_comm]
    have := Nat.shiftLeft_add_eq_or_of_lt hx v.toNat
    rw [Nat.shiftLeft_eq] at this
    omega
  refine ⟨e, ?_⟩
  rw [e, Nat.pow_add]
  have h1 : v.toNat + 1 ≤ 2 ^ n := hn
  have := Nat.mul_le_mul_left (2 ^ s) h1
  rw [Nat.mul_add, Nat.mul_one, Nat.mul_comm (2 ^ s) v.toNat] at this
  omega
theorem get_num (x : BitVec 64) (s n : Nat) (h : n ≤ 64) : u (getW x s n) = u x / 2 ^ s % 2 ^ n := by
  unfold u getW
  rw [BitVec.toNat_and, BitVec.toNat_ushiftRight, low_toNat n h, Nat.and_two_pow_sub_one_eq_mod, Nat.shiftRight_eq_div_pow, Int.natCast_emod, Int.natCast_ediv, Int.natCast_pow, Int.natCast_pow]
  rfl
theorem fits_nat (v : BitVec 64) (n : Nat) (h : n ≤ 64) (hv : v.toNat < 2 ^ n) : fits v n = true := by
  unfold fits
  rw [decide_eq_true_iff, BitVec.le_def, low_toNat n h]
  omega
end
def fl : List (Int × Int) := [(0, 8), (8, 8), (16, 8), (24, 40)]
def vl (s n c : Nat) : List (BitVec 64) := [BitVec.ofNat 64 n, BitVec.ofNat 64 s, BitVec.ofNat 64 c, BitVec.ofNat 64 MK]
theorem fl_apart : apartGo 0#64 fl = true := by decide +kernel
theorem pack_ok {s n c : Nat} (hs : s < 256) (hn : n < 256) (hc : c < 256) : packGo 0#64 fl (vl s n c) = some (wd s n c) := by
  have en : (BitVec.ofNat 64 n).toNat = n := by rw [BitVec.toNat_ofNat]; omega
  have es : (BitVec.ofNat 64 s).toNat = s := by rw [BitVec.toNat_ofNat]; omega
  have ec : (BitVec.ofNat 64 c).toNat = c := by rw [BitVec.toNat_ofNat]; omega
  have em : (BitVec.ofNat 64 MK).toNat = MK := by decide +kernel
  have hm : MK < 2 ^ 40 := by decide +kernel
  have fn : fits (BitVec.ofNat 64 n) 8 = true := fits_nat _ 8 (by omega) (by rw [en]; omega)
  have fs : fits (BitVec.ofNat 64 s) 8 = true := fits_nat _ 8 (by omega) (by rw [es]; omega)
  have fc : fits (BitVec.ofNat 64 c) 8 = true := fits_nat _ 8 (by omega) (by rw [ec]; omega)
  have fm : fits (BitVec.ofNat 64 MK) 40 = true := fits_nat _ 40 (by omega) (by rw [em]; omega)
  have p0 := put_low 0#64 (BitVec.ofNat 64 n) 0 8 (by omega) (by decide) fn
  have p1 := put_low _ (BitVec.ofNat 64 s) 8 8 (by omega) p0.2 fs
  have p2 := put_low _ (BitVec.ofNat 64 c) 16 8 (by omega) p1.2 fc
  have p3 := put_low _ (BitVec.ofNat 64 MK) 24 40 (by omega) p2.2 fm
  have e0 := p0.1; have e1 := p1.1; have e2 := p2.1; have e3 := p3.1
  simp only [fl, vl, packGo, Int.reduceToNat]
  rw [if_pos fn, if_pos fs, if_pos fc, if_pos fm]
  refine congrArg some (BitVec.eq_of_toNat_eq ?_)
  rw [wd_nat hs hn hc, e3, e2, e1, e0, en, es, ec, em]
  rw [show (0#64).toNat = 0 from rfl]
  clear e0 e1 e2 e3 p0 p1 p2 p3 fm fn fs fc hm em en es ec
  generalize MK = m
  omega
/-- Conversions of small numbers. -/
theorem u64_raw {n : Nat} (h : n < 18446744073709551616) : IntKind.u64.wrap (n : Int) = Ce.u (BitVec.ofNat 64 n) := by
  unfold Ce.u
  rw [IntKind.wrap_u64, BitVec.toNat_ofNat]
  omega
/-- A field's number. -/
theorem get_is (x : BitVec 64) (s n : Nat) (h : n ≤ 64) : Ce.u (getW x s n) = ((x.toNat / 2 ^ s % 2 ^ n : Nat) : Int) := by
  have := get_num x s n h
  unfold Ra.u at this
  unfold Ce.u
  rw [this, Int.natCast_emod, Int.natCast_ediv, Int.natCast_pow, Int.natCast_pow]; rfl
end Go.Proofs.YtaelfgdiboekpaaDoor.Ns
