/-
  Plain facts on entries, their words, and pages' words, of which no statement of its own is claimed.
-/
import Derived.Test.YtjnknnakllbaaaaGreatRaBits
namespace Go.Proofs.YtjnknnakllbaaaaGreat.Ra
set_option maxRecDepth 100000

/-- A number that an int holds. -/
def I64 (n : Int) : Prop := -9223372036854775808 ≤ n ∧ n ≤ 9223372036854775807
/-- A number that a word holds. -/
def U64 (n : Int) : Prop := 0 ≤ n ∧ n < 18446744073709551616
theorem I64.of {n : Int} (h0 : -9223372036854775808 ≤ n) (h1 : n ≤ 9223372036854775807) : I64 n := ⟨h0, h1⟩

/-! ### Words -/
/-- Is it an entry (span, version, class, state)? -/
def okB (a b c d : Int) : Bool := decide (0 ≤ a ∧ a ≤ 4095 ∧ 0 ≤ b ∧ b ≤ 3 ∧ 0 ≤ c ∧ c ≤ 63 ∧ 0 ≤ d ∧ d ≤ 7)
theorem okB_iff {a b c d : Int} : okB a b c d = true ↔ 0 ≤ a ∧ a ≤ 4095 ∧ 0 ≤ b ∧ b ≤ 3 ∧ 0 ≤ c ∧ c ≤ 63 ∧ 0 ≤ d ∧ d ≤ 7 := by simp [okB]
/-- Its word, with a stamp. -/
def wd (a b c d t : Int) : Int := 1 + 2 * d + 16 * c + 1024 * b + 4096 * a + 16777216 * t
def spanOf (x : Int) : Int := x / 4096 % 4096
def verOf (x : Int) : Int := x / 1024 % 4
def clsOf (x : Int) : Int := x / 16 % 64
def staOf (x : Int) : Int := x / 2 % 8
theorem wd_parts {a b c d t : Int} (h : okB a b c d = true) : spanOf (wd a b c d t) = a ∧ verOf (wd a b c d t) = b ∧ clsOf (wd a b c d t) = c ∧ staOf (wd a b c d t) = d := by
  have := okB_iff.1 h
  unfold spanOf verOf clsOf staOf wd
  omega
theorem wd_bd {a b c d t : Int} (h : okB a b c d = true) (h0 : 0 ≤ t) (h1 : t < 1099511627776) : U64 (wd a b c d t) ∧ wd a b c d t ≠ 0 ∧ wd a b c d t / 16777216 = t := by
  have := okB_iff.1 h
  unfold U64 wd
  omega
theorem part_bd (x : Int) : (0 ≤ spanOf x ∧ spanOf x ≤ 4095) ∧ (0 ≤ verOf x ∧ verOf x ≤ 3) ∧ (0 ≤ clsOf x ∧ clsOf x ≤ 63) ∧ (0 ≤ staOf x ∧ staOf x ≤ 7) := by
  unfold spanOf verOf clsOf staOf; omega
/-- The next stamp. -/
def nx (t : Int) : Int := (t + 1) % 1099511627776
theorem nx_bd (t : Int) : 0 ≤ nx t ∧ nx t < 1099511627776 := by unfold nx; omega

/-! ### Words out of fields -/
theorem put_low (x v : BitVec 64) (s n : Nat) (h : s + n ≤ 64) (hx : x.toNat < 2 ^ s) (hv : fits v n = true) :
    (putW x s n v).toNat = x.toNat + v.toNat * 2 ^ s ∧ (putW x s n v).toNat < 2 ^ (s + n) := by
  have hn : v.toNat < 2 ^ n := by
    unfold fits at hv
    rw [decide_eq_true_iff, BitVec.le_def, low_toNat n (by omega)] at hv
    have : 0 < 2 ^ n := Nat.two_pow_pos n
    omega
  have hm : x &&& ~~~(maskW s n) = x := by
    apply BitVec.eq_of_getLsbD_eq
    intro i hi
    rw [BitVec.getLsbD_and, BitVec.getLsbD_not]
    by_cases his : s ≤ i
    · have : x.getLsbD i = false := by
        rw [BitVec.getLsbD]
        exact Nat.testBit_lt_two_pow (Nat.lt_of_lt_of_le hx (Nat.pow_le_pow_right (by omega) his))
      rw [this]; rfl
    · unfold maskW
      rw [BitVec.getLsbD_shiftLeft]
      have h1 : i < s := by omega
      simp [hi, h1]
  have hp : v.toNat * 2 ^ s < 2 ^ (s + n) := by
    rw [Nat.pow_add, Nat.mul_comm (2 ^ s)]
    exact Nat.mul_lt_mul_of_pos_right hn (Nat.two_pow_pos s)
  have h64 : 2 ^ (s + n) ≤ 2 ^ 64 := Nat.pow_le_pow_right (by omega) h
  have e : (putW x s n v).toNat = x.toNat + v.toNat * 2 ^ s := by
    unfold putW
    rw [hm, BitVec.toNat_or, BitVec.toNat_shiftLeft, Nat.shiftLeft_eq, Nat.mod_eq_of_lt (by omega), Nat.or_comm]
    have := Nat.shiftLeft_add_eq_or_of_lt hx v.toNat
    rw [Nat.shiftLeft_eq] at this
    omega
  refine ⟨e, ?_⟩
  rw [e, Nat.pow_add]
  have h1 : v.toNat + 1 ≤ 2 ^ n := hn
  have := Nat.mul_le_mul_left (2 ^ s) h1
  rw [Nat.mul_add, Nat.mul_one, Nat.mul_comm (2 ^ s) v.toNat] at this
  omega
theorem get_num (x : BitVec 64) (s n : Nat) (h : n ≤ 64) : u (getW x s n) = u x / 2 ^ s % 2 ^ n := by
  unfold u getW
  rw [BitVec.toNat_and, BitVec.toNat_ushiftRight, low_toNat n h, Nat.and_two_pow_sub_one_eq_mod, Nat.shiftRight_eq_div_pow, Int.natCast_emod, Int.natCast_ediv, Int.natCast_pow, Int.natCast_pow]
  rfl
/-- A number as a word. -/
def uW (n : Int) : BitVec 64 := BitVec.ofInt 64 n
theorem u_uW (n : Int) : u (uW n) = n % 18446744073709551616 := by
  unfold u uW; rw [BitVec.toNat_ofInt]; omega
theorem u_uW_in {n : Int} (h : U64 n) : u (uW n) = n := by rw [u_uW]; unfold U64 at h; omega
theorem uW_raw (n : Int) : IntKind.u64.wrap n = u (uW n) := by rw [IntKind.wrap_u64, u_uW]
theorem fits_num (v : BitVec 64) (n : Nat) (h : n ≤ 64) : fits v n = decide (u v < 2 ^ n) := by
  unfold fits u
  rw [decide_eq_decide, BitVec.le_def, low_toNat n h]
  have p : 0 < 2 ^ n := Nat.two_pow_pos n
  have e : ((2 : Int) ^ n) = ((2 ^ n : Nat) : Int) := by rw [Int.natCast_pow]; rfl
  rw [e]; omega
theorem fits_int {d : Int} (n : Nat) (h : n < 63) (hd : I64 d) : fits (uW d) n = decide (0 ≤ d ∧ d < 2 ^ n) := by
  rw [fits_num _ n (by omega), decide_eq_decide, u_uW]
  unfold I64 at hd
  have e : ((2 : Int) ^ n) = ((2 ^ n : Nat) : Int) := by rw [Int.natCast_pow]; rfl
  have p : (2 : Nat) ^ n ≤ 2 ^ 62 := Nat.pow_le_pow_right (by omega) (by omega)
  rw [e]; omega
/-- The fields of an entry's word. -/
def fl : List (Int × Int) := [(0, 1), (1, 3), (4, 6), (10, 2), (12, 12), (24, 40)]
def vl (a b c d : Int) (t : BitVec 64) : List (BitVec 64) := [1#64, uW d, uW c, uW b, uW a, t]
theorem fl_apart : apartGo 0#64 fl = true := by decide +kernel
theorem pack_ok {a b c d : Int} {t : BitVec 64} (h : okB a b c d = true) (ht : u t < 1099511627776) : ∃ y, packGo 0#64 fl (vl a b c d t) = some y ∧ u y = wd a b c d (u t) := by
  obtain ⟨a0, a1, b0, b1, c0, c1, d0, d1⟩ := okB_iff.1 h
  have fd : fits (uW d) 3 = true := by rw [fits_int 3 (by omega) ⟨by omega, by omega⟩]; simp; omega
  have fc : fits (uW c) 6 = true := by rw [fits_int 6 (by omega) ⟨by omega, by omega⟩]; simp; omega
  have fb : fits (uW b) 2 = true := by rw [fits_int 2 (by omega) ⟨by omega, by omega⟩]; simp; omega
  have fa : fits (uW a) 12 = true := by rw [fits_int 12 (by omega) ⟨by omega, by omega⟩]; simp; omega
  have ft : fits t 40 = true := by rw [fits_num _ 40 (by omega)]; simpa using ht
  have f1 : fits 1#64 1 = true := by decide +kernel
  have p0 := put_low 0#64 1#64 0 1 (by omega) (by decide) f1
  have p1 := put_low _ (uW d) 1 3 (by omega) p0.2 fd
  have p2 := put_low _ (uW c) 4 6 (by omega) p1.2 fc
  have p3 := put_low _ (uW b) 10 2 (by omega) p2.2 fb
  have p4 := put_low _ (uW a) 12 12 (by omega) p3.2 fa
  have p5 := put_low _ t 24 40 (by omega) p4.2 ft
  refine ⟨putW (putW (putW (putW (putW (putW 0#64 0 1 1#64) 1 3 (uW d)) 4 6 (uW c)) 10 2 (uW b)) 12 12 (uW a)) 24 40 t, ?_, ?_⟩
  · simp only [fl, vl, packGo, Int.reduceToNat]
    rw [if_pos f1, if_pos fd, if_pos fc, if_pos fb, if_pos fa, if_pos ft]
  · have ed := u_uW_in (n := d) ⟨by omega, by omega⟩
    have ec := u_uW_in (n := c) ⟨by omega, by omega⟩
    have eb := u_uW_in (n := b) ⟨by omega, by omega⟩
    have ea := u_uW_in (n := a) ⟨by omega, by omega⟩
    have e0 := p0.1; have e1 := p1.1; have e2 := p2.1; have e3 := p3.1; have e4 := p4.1; have e5 := p5.1
    unfold u at *
    rw [e4, e3, e2, e1, e0] at e5
    rw [e5]
    unfold wd
    have : (1#64).toNat = 1 := rfl
    have : (0#64).toNat = 0 := rfl
    omega
theorem pack_no {a b c d : Int} {t : BitVec 64} (h : okB a b c d = false) (ia : I64 a) (ib : I64 b) (ic : I64 c) (id : I64 d) : packGo 0#64 fl (vl a b c d t) = none := by
  have h' : ¬ (0 ≤ a ∧ a ≤ 4095 ∧ 0 ≤ b ∧ b ≤ 3 ∧ 0 ≤ c ∧ c ≤ 63 ∧ 0 ≤ d ∧ d ≤ 7) := by simpa [okB] using h
  have f1 : fits 1#64 1 = true := by decide +kernel
  have fd := fits_int (d := d) 3 (by omega) id
  have fc := fits_int (d := c) 6 (by omega) ic
  have fb := fits_int (d := b) 2 (by omega) ib
  have fa := fits_int (d := a) 12 (by omega) ia
  simp only [fl, vl, packGo, Int.reduceToNat]
  rw [if_pos f1]
  by_cases hd : 0 ≤ d ∧ d < 8
  · have : fits (uW d) 3 = true := by rw [fd]; simpa using hd
    rw [if_pos this]
    by_cases hc : 0 ≤ c ∧ c < 64
    · have : fits (uW c) 6 = true := by rw [fc]; simpa using hc
      rw [if_pos this]
      by_cases hb : 0 ≤ b ∧ b < 4
      · have : fits (uW b) 2 = true := by rw [fb]; simpa using hb
        rw [if_pos this]
        have : ¬ fits (uW a) 12 = true := by rw [fa]; simp; omega
        rw [if_neg this]
      · have : ¬ fits (uW b) 2 = true := by rw [fb]; simpa using hb
        rw [if_neg this]
    · have : ¬ fits (uW c) 6 = true := by rw [fc]; simpa using hc
      rw [if_neg this]
  · have : ¬ fits (uW d) 3 = true := by rw [fd]; simpa using hd
    rw [if_neg this]

/-! ### Pages -/
abbrev Ws := Nat → Int
/-- Is there at least one page asked for, and are all there? -/
def inB (n p k : Int) : Bool := decide (1 ≤ k ∧ 0 ≤ p ∧ k ≤ n - p)
theorem inB_iff {n p k : Int} : inB n p k = true ↔ 1 ≤ k ∧ 0 ≤ p ∧ k ≤ n - p := by simp [inB]
theorem inB_no {n p k : Int} : inB n p k = false ↔ ¬ (1 ≤ k ∧ 0 ≤ p ∧ k ≤ n - p) := by simp [inB]
/-- One word turned. -/
def upf (f : Ws) (k : Nat) (x : Int) : Ws := fun i => if i = k then x else f i
/-- So many words turned. -/
def fill (f : Ws) (p k : Nat) (x : Int) : Ws := fun i => if p ≤ i ∧ i < p + k then x else f i
theorem fill_zero (f : Ws) (p : Nat) (x : Int) : fill f p 0 x = f := by funext i; unfold fill; rw [if_neg (by omega)]
theorem fill_succ (f : Ws) (p k : Nat) (x : Int) : fill f p (k + 1) x = upf (fill f p k x) (p + k) x := by
  funext i; unfold fill upf
  by_cases h : i = p + k
  · rw [if_pos (by omega), if_pos h]
  · rw [if_neg h]
    by_cases h2 : p ≤ i ∧ i < p + k
    · rw [if_pos (by omega)]; exact (if_pos h2).symm
    · rw [if_neg (by omega)]; exact (if_neg h2).symm
/-- Have all of so many pages an entry? -/
def allB (f : Ws) (p : Nat) : Nat → Bool
  | 0 => true
  | k + 1 => allB f p k && (f (p + k) != 0)
theorem allB_iff {f : Ws} {p : Nat} : ∀ {k : Nat}, allB f p k = true ↔ ∀ i, i < k → f (p + i) ≠ 0
  | 0 => by simp [allB]
  | k + 1 => by
    rw [allB, Bool.and_eq_true, allB_iff, bne_iff_ne]
    constructor
    · rintro ⟨h1, h2⟩ i hi
      by_cases e : i = k
      · subst e; exact h2
      · exact h1 i (by omega)
    · intro h; exact ⟨fun i hi => h i (by omega), h k (by omega)⟩
theorem allB_no {f : Ws} {p k j : Nat} (hj : j < k) (h : f (p + j) = 0) : allB f p k = false := by
  cases hh : allB f p k
  · rfl
  · exact absurd h (allB_iff.1 hh j hj)
def wAt (n : Int) (f : Ws) (p : Int) : Int := if inB n p 1 = true then f p.toNat else 0
/-- What is known of the pages' words, the stamp and how many pages there are. -/
structure St (n t : Int) (f : Ws) : Prop where
  n0 : 0 ≤ n
  n1 : n ≤ 4096
  t0 : 0 ≤ t
  t1 : t < 1099511627776
  wb : ∀ i, U64 (f i)
  out : ∀ i : Nat, n ≤ (i : Int) → f i = 0
theorem St.at {n t : Int} {f : Ws} (h : St n t f) (p : Int) : U64 (wAt n f p) := by
  unfold wAt; split
  · exact h.wb _
  · exact ⟨by omega, by omega⟩
/-- What Set and Clear answer and leave. -/
def setE (n p k a b c d : Int) : Int := if inB n p k = true ∧ okB a b c d = true then 0 else 11
def clrE (n : Int) (f : Ws) (p k : Int) : Int := if inB n p k = true then (if allB f p.toNat k.toNat = true then 0 else 16) else 11
def setF (t : Int) (f : Ws) (p k a b c d : Int) : Ws := fill f p.toNat k.toNat (wd a b c d (nx t))
def clrF (f : Ws) (p k : Int) : Ws := fill f p.toNat k.toNat 0
theorem St.set {n t : Int} {f : Ws} (h : St n t f) {p k a b c d : Int} (he : setE n p k a b c d = 0) : St n (nx t) (setF t f p k a b c d) := by
  unfold setE at he
  split at he
  · rename_i hh
    obtain ⟨h1, h2⟩ := hh
    obtain ⟨k1, p0, k2⟩ := inB_iff.1 h1
    obtain ⟨n0, n1⟩ := nx_bd t
    refine ⟨h.n0, h.n1, n0, n1, fun i => ?_, fun i hi => ?_⟩
    · unfold setF fill; split
      · exact (wd_bd h2 n0 n1).1
      · exact h.wb i
    · unfold setF fill; rw [if_neg (by omega)]; exact h.out i hi
  · omega
theorem St.clr {n t : Int} {f : Ws} (h : St n t f) {p k : Int} : St n (nx t) (clrF f p k) := by
  obtain ⟨n0, n1⟩ := nx_bd t
  refine ⟨h.n0, h.n1, n0, n1, fun i => ?_, fun i hi => ?_⟩
  · unfold clrF fill; split
    · exact ⟨by omega, by omega⟩
    · exact h.wb i
  · unfold clrF fill; split
    · rfl
    · exact h.out i hi
theorem St.new {n : Int} (h0 : 0 ≤ n) (h1 : n ≤ 4096) : St n 0 (fun _ => 0) := ⟨h0, h1, by omega, by omega, fun _ => ⟨by omega, by omega⟩, fun _ _ => rfl⟩

/-! ### Leaves and counts -/
def lfB (f : Ws) (i : Nat) : Bool := (List.range 64).any fun j => f (64 * i + j) != 0
theorem lfB_iff {f : Ws} {i : Nat} : lfB f i = true ↔ ∃ j, j < 64 ∧ f (64 * i + j) ≠ 0 := by simp [lfB]
theorem lfB_no {f : Ws} {i : Nat} : lfB f i = false ↔ ∀ j, j < 64 → f (64 * i + j) = 0 := by simp [lfB]
def lvs (f : Ws) : Nat → Nat
  | 0 => 0
  | i + 1 => lvs f i + if lfB f i = true then 1 else 0
theorem lvs_le (f : Ws) : ∀ i, lvs f i ≤ i
  | 0 => Nat.le_refl _
  | i + 1 => by have := lvs_le f i; rw [lvs]; split <;> omega
theorem lvs_zero {f : Ws} : ∀ {i : Nat}, (∀ k, k < i → lfB f k = false) → lvs f i = 0
  | 0, _ => rfl
  | i + 1, h => by rw [lvs, lvs_zero (fun k hk => h k (by omega)), h i (by omega)]; rfl
theorem lvs_same {f : Ws} {a : Nat} : ∀ {b : Nat}, a ≤ b → (∀ k, a ≤ k → k < b → lfB f k = false) → lvs f b = lvs f a
  | 0, h, _ => by have : a = 0 := by omega
                  subst this; rfl
  | b + 1, h, hz => by
    by_cases e : a = b + 1
    · subst e; rfl
    · rw [lvs, lvs_same (b := b) (by omega) (fun k h1 h2 => hz k h1 (by omega)), hz b (by omega) (by omega)]; rfl
def hitB (f : Ws) (v s : Int) (i : Nat) : Bool := (f i != 0) && (verOf (f i) == v) && (staOf (f i) == s)
def cnt (f : Ws) (v s : Int) : Nat → Nat
  | 0 => 0
  | i + 1 => cnt f v s i + if hitB f v s i = true then 1 else 0
theorem cnt_le (f : Ws) (v s : Int) : ∀ i, cnt f v s i ≤ i
  | 0 => Nat.le_refl _
  | i + 1 => by have := cnt_le f v s i; rw [cnt]; split <;> omega

end Go.Proofs.YtjnknnakllbaaaaGreat.Ra
