import Derived.Laws.BitsAllLaws
import Derived.Laws.BitsLemmas
import Derived.Test.YtaelfgdiboekpaaDoorRows
import Derived.WalkKit
import Derived.WalkSpells
import Derived.WalkLawsBesides
import Derived.Deep.QuietTactic
import Derived.BigQuiet
import Derived.Deep.RegionHeld3
import Derived.Lib.Hide
/-
  Plain facts on words of 64 bits and on rows of fields, of which no statement of its own is claimed.
-/
namespace Go.Proofs.YtaelfgdiboekpaaDoor.Ra
set_option maxRecDepth 100000

/-- A word as the number that it is, unsigned. -/
def u (x : BitVec 64) : Int := (x.toNat : Int)
theorem u_nonneg (x : BitVec 64) : 0 ≤ u x := by unfold u; omega
theorem u_lt (x : BitVec 64) : u x < 18446744073709551616 := by unfold u; have := x.isLt; omega
theorem u_inj {x y : BitVec 64} (h : u x = u y) : x = y := by
  unfold u at h; exact BitVec.eq_of_toNat_eq (by omega)
theorem u_beq (x y : BitVec 64) : (u x == u y) = (x == y) := by
  rw [Bool.eq_iff_iff]; simp only [beq_iff_eq]; exact ⟨u_inj, fun h => by rw [h]⟩
theorem u_of (n : Int) (h0 : 0 ≤ n) (h1 : n < 18446744073709551616) : ∃ x : BitVec 64, n = u x :=
  ⟨BitVec.ofNat 64 n.toNat, by unfold u; rw [BitVec.toNat_ofNat, Nat.mod_eq_of_lt (by omega)]; omega⟩
theorem and_u (x y : BitVec 64) : bits .and .u64 (u x) (u y) = u (x &&& y) := by
  unfold u; rw [u64_and_nat _ _ x.isLt y.isLt, BitVec.toNat_and]
theorem or_u (x y : BitVec 64) : bits .or .u64 (u x) (u y) = u (x ||| y) := by
  unfold u; rw [u64_or_nat _ _ x.isLt y.isLt, BitVec.toNat_or]
theorem andNot_u (x y : BitVec 64) : bits .andNot .u64 (u x) (u y) = u (x &&& ~~~y) := by
  unfold u; rw [u64_andNot_nat _ _ x.isLt y.isLt, BitVec.toNat_and, BitVec.toNat_not]
theorem shl_u (x : BitVec 64) (n : Nat) : IntKind.u64.wrap (u x * 2 ^ n) = u (x <<< n) := by
  unfold u; rw [IntKind.wrap_u64, BitVec.toNat_shiftLeft, Nat.shiftLeft_eq]
  have : ((x.toNat : Int) * 2 ^ n) = ((x.toNat * 2 ^ n : Nat) : Int) := by rw [Int.natCast_mul, Int.natCast_pow]; rfl
  rw [this]; omega
theorem shr_u (x : BitVec 64) (n : Nat) : u x / 2 ^ n = u (x >>> n) := by
  unfold u; rw [BitVec.toNat_ushiftRight, Nat.shiftRight_eq_div_pow]
  have : ((2 : Int) ^ n) = ((2 ^ n : Nat) : Int) := by rw [Int.natCast_pow]; rfl
  rw [this, Int.natCast_ediv]
/-- The lowest n bits. -/
def low (n : Nat) : BitVec 64 := BitVec.allOnes 64 >>> (64 - n)
theorem low_bit (n i : Nat) (h : n ≤ 64) : (low n).getLsbD i = decide (i < n) := by
  unfold low; rw [BitVec.getLsbD_ushiftRight, BitVec.getLsbD_allOnes]; rw [Bool.eq_iff_iff]; simp; omega
/-- No bit above a width. -/
def fits (v : BitVec 64) (n : Nat) : Bool := decide (v ≤ low n)
theorem low_toNat (n : Nat) (h : n ≤ 64) : (low n).toNat = 2 ^ n - 1 := by
  unfold low; rw [BitVec.toNat_ushiftRight, BitVec.toNat_allOnes, Nat.shiftRight_eq_div_pow]
  have e : 2 ^ 64 = 2 ^ n * 2 ^ (64 - n) := by rw [← Nat.pow_add]; congr 1; omega
  have p : 0 < 2 ^ (64 - n) := Nat.two_pow_pos _
  rw [e]
  apply Nat.div_eq_of_lt_le
  · rw [Nat.sub_mul]; omega
  · have q : 0 < 2 ^ n := Nat.two_pow_pos _
    have : 2 ^ n - 1 + 1 = 2 ^ n := by omega
    rw [this]; have := Nat.mul_pos q p; omega
theorem fits_iff (v : BitVec 64) (n : Nat) (h : n ≤ 64) : fits v n = true ↔ ∀ i, n ≤ i → v.getLsbD i = false := by
  unfold fits; rw [decide_eq_true_iff, BitVec.le_def, low_toNat n h]
  have p : 0 < 2 ^ n := Nat.two_pow_pos _
  constructor
  · intro hv i hi
    rw [BitVec.getLsbD]
    exact Nat.testBit_lt_two_pow (Nat.lt_of_lt_of_le (by omega) (Nat.pow_le_pow_right (by omega) hi))
  · intro hv
    have : v.toNat < 2 ^ n := by
      apply Nat.lt_pow_two_of_testBit
      intro i hi; exact hv i hi
    omega
theorem u_le_low (v : BitVec 64) (n : Nat) : decide (u v ≤ u (low n)) = fits v n := by
  unfold fits u; rw [Bool.eq_iff_iff, decide_eq_true_iff, decide_eq_true_iff, BitVec.le_def]; omega
def getW (x : BitVec 64) (s n : Nat) : BitVec 64 := (x >>> s) &&& low n
def maskW (s n : Nat) : BitVec 64 := low n <<< s
def putW (x : BitVec 64) (s n : Nat) (v : BitVec 64) : BitVec 64 := (x &&& ~~~(maskW s n)) ||| (v <<< s)
/-- A field is right. -/
def rightB (s n : Int) : Bool := decide (1 ≤ n ∧ n ≤ 64 ∧ 0 ≤ s ∧ s + n ≤ 64)
theorem rightB_iff {s n : Int} : rightB s n = true ↔ 1 ≤ n ∧ n ≤ 64 ∧ 0 ≤ s ∧ s + n ≤ 64 := by simp [rightB]
/-- The bits of a field. -/
def fm (p : Int × Int) : BitVec 64 := maskW p.1.toNat p.2.toNat
def fr (p : Int × Int) : Bool := rightB p.1 p.2
/-- Are all right, and has no bit two, nor one that is there already? -/
def apartGo (seen : BitVec 64) : List (Int × Int) → Bool
  | [] => true
  | p :: r => fr p && (seen &&& fm p == 0#64) && apartGo (seen ||| fm p) r
/-- The bits of the first k fields. -/
def seenTo (l : List (Int × Int)) : Nat → BitVec 64
  | 0 => 0#64
  | k + 1 => seenTo l k ||| fm (l.getD k (0, 0))
theorem apart_step (l : List (Int × Int)) (k : Nat) (h : k < l.length) :
    apartGo (seenTo l k) (l.drop k) = (fr (l.getD k (0, 0)) && (seenTo l k &&& fm (l.getD k (0, 0)) == 0#64) && apartGo (seenTo l (k + 1)) (l.drop (k + 1))) := by
  rw [List.drop_eq_getElem_cons h, apartGo, seenTo, List.getD_eq_getElem?_getD, List.getElem?_eq_getElem h]; rfl
/-- All but the last question: the fields up to k are right and apart. -/
def okTo (l : List (Int × Int)) (k : Nat) : Prop := apartGo 0#64 l = apartGo (seenTo l k) (l.drop k)
theorem okTo_zero (l : List (Int × Int)) : okTo l 0 := rfl
theorem okTo_succ {l : List (Int × Int)} {k : Nat} (h : okTo l k) (hk : k < l.length) (h1 : fr (l.getD k (0, 0)) = true) (h2 : (seenTo l k &&& fm (l.getD k (0, 0)) == 0#64) = true) : okTo l (k + 1) := by
  unfold okTo at h ⊢; rw [h, apart_step l k hk, h1, h2]; rfl
theorem okTo_wrong {l : List (Int × Int)} {k : Nat} (h : okTo l k) (hk : k < l.length) (h1 : fr (l.getD k (0, 0)) = false) : apartGo 0#64 l = false := by
  unfold okTo at h; rw [h, apart_step l k hk, h1]; rfl
theorem okTo_twice {l : List (Int × Int)} {k : Nat} (h : okTo l k) (hk : k < l.length) (h2 : (seenTo l k &&& fm (l.getD k (0, 0)) == 0#64) = false) : apartGo 0#64 l = false := by
  unfold okTo at h; rw [h, apart_step l k hk, h2]; simp
theorem okTo_end {l : List (Int × Int)} (h : okTo l l.length) : apartGo 0#64 l = true := by
  unfold okTo at h; rw [h, List.drop_length]; rfl
theorem and_or_zero {a b c : BitVec 64} (h : (a ||| b) &&& c = 0#64) : a &&& c = 0#64 ∧ b &&& c = 0#64 := by
  constructor <;> (apply BitVec.eq_of_getLsbD_eq; intro i hi; have := congrArg (·.getLsbD i) h; simp only [BitVec.getLsbD_and, BitVec.getLsbD_or, BitVec.getLsbD_zero] at this ⊢; revert this; cases a.getLsbD i <;> cases b.getLsbD i <;> cases c.getLsbD i <;> simp)
theorem apart_all (l : List (Int × Int)) : ∀ seen, apartGo seen l = true → ∀ p ∈ l, fr p = true ∧ seen &&& fm p = 0#64 := by
  induction l with
  | nil => intro _ _ p hp; cases hp
  | cons q r ih =>
    intro seen h p hp
    rw [apartGo, Bool.and_eq_true, Bool.and_eq_true, beq_iff_eq] at h
    rcases List.mem_cons.1 hp with rfl | hp
    · exact h.1
    · have := ih _ h.2 p hp
      exact ⟨this.1, (and_or_zero this.2).1⟩
/-- The word of fields' values. -/
def packGo (x : BitVec 64) : List (Int × Int) → List (BitVec 64) → Option (BitVec 64)
  | p :: r, v :: vs => if fits v p.2.toNat then packGo (putW x p.1.toNat p.2.toNat v) r vs else none
  | _, _ => some x
/-- The word of the first k fields' values. -/
def packTo (l : List (Int × Int)) (vs : List (BitVec 64)) : Nat → BitVec 64
  | 0 => 0#64
  | k + 1 => putW (packTo l vs k) (l.getD k (0, 0)).1.toNat (l.getD k (0, 0)).2.toNat (vs.getD k 0#64)
def pkTo (l : List (Int × Int)) (vs : List (BitVec 64)) (k : Nat) : Prop := packGo 0#64 l vs = packGo (packTo l vs k) (l.drop k) (vs.drop k)
theorem pkTo_zero (l : List (Int × Int)) (vs : List (BitVec 64)) : pkTo l vs 0 := rfl
theorem pk_step (l : List (Int × Int)) (vs : List (BitVec 64)) (k : Nat) (h : k < l.length) (h' : k < vs.length) :
    packGo (packTo l vs k) (l.drop k) (vs.drop k) = if fits (vs.getD k 0#64) (l.getD k (0, 0)).2.toNat then packGo (packTo l vs (k + 1)) (l.drop (k + 1)) (vs.drop (k + 1)) else none := by
  rw [List.drop_eq_getElem_cons h, List.drop_eq_getElem_cons h', packGo, packTo]
  have e1 : l.getD k (0, 0) = l[k] := by rw [List.getD_eq_getElem?_getD, List.getElem?_eq_getElem h]; rfl
  have e2 : vs.getD k 0#64 = vs[k] := by rw [List.getD_eq_getElem?_getD, List.getElem?_eq_getElem h']; rfl
  rw [e1, e2]
theorem pkTo_succ {l : List (Int × Int)} {vs : List (BitVec 64)} {k : Nat} (h : pkTo l vs k) (hk : k < l.length) (hk' : k < vs.length) (hf : fits (vs.getD k 0#64) (l.getD k (0, 0)).2.toNat = true) : pkTo l vs (k + 1) := by
  unfold pkTo at h ⊢; rw [h, pk_step l vs k hk hk', if_pos hf]
theorem pkTo_wide {l : List (Int × Int)} {vs : List (BitVec 64)} {k : Nat} (h : pkTo l vs k) (hk : k < l.length) (hk' : k < vs.length) (hf : fits (vs.getD k 0#64) (l.getD k (0, 0)).2.toNat = false) : packGo 0#64 l vs = none := by
  unfold pkTo at h; rw [h, pk_step l vs k hk hk', hf]; rfl
theorem pkTo_end {l : List (Int × Int)} {vs : List (BitVec 64)} (h : pkTo l vs l.length) : packGo 0#64 l vs = some (packTo l vs l.length) := by
  unfold pkTo at h; rw [h, List.drop_length]; rfl

end Go.Proofs.YtaelfgdiboekpaaDoor.Ra

/-
  What package pack does, said of words as bit vectors: contracts that the claimed proofs use.
-/
namespace Go.Proofs.YtaelfgdiboekpaaDoor.Ra
set_option maxRecDepth 100000
open Go.RowKit

theorem ret_u {a b : Int} (h : a = b) : Ending.returned (.int .u64 a) = .returned (.int .u64 b) := by rw [h]
theorem ret_b {a b : Bool} (h : a = b) : Ending.returned (.bool a) = .returned (.bool b) := by rw [h]
theorem ret_ub {a b : Int} {c : Bool} (h : a = b) : Ending.returned (.tuple #[.int .u64 a, .bool c]) = .returned (.tuple #[.int .u64 b, .bool c]) := by rw [h]
/-- pack.lowest. -/
theorem low_raw (n : Int) (h0 : 1 ≤ n) (h1 : n ≤ 64) : 18446744073709551615 / 2 ^ (64 - n).toNat = u (low n.toNat) := by
  have e : (18446744073709551615 : Int) = u (BitVec.allOnes 64) := rfl
  rw [e, shr_u, low]; congr 2; omega
theorem lowest_any (n : Int) (w : World) (h0 : 1 ≤ n) (h1 : n ≤ 64) :
    Calls Tryd.prog 103 #[.int .i64 n] w fun e w' => e = .returned (.int .u64 (u (low n.toNat))) ∧ w = w' := by
  go_enter Tryd.func103, Tryd.ntmps103
  go_wp2
  go_ret
  exact ⟨ret_u (low_raw n h0 h1), rfl⟩
/-- pack.isWidth. -/
theorem isWidth_yes (n : Int) (w : World) (h0 : 1 ≤ n) (h1 : n ≤ 64) :
    Calls Tryd.prog 108 #[.int .i64 n] w fun e w' => e = .returned (.bool true) ∧ w = w' := by
  go_enter Tryd.func108, Tryd.ntmps108
  go_wp2
  go_ret
  exact ⟨rfl, rfl⟩
theorem isWidth_no (n : Int) (w : World) (h : n < 1 ∨ 64 < n) :
    Calls Tryd.prog 108 #[.int .i64 n] w fun e w' => e = .returned (.bool false) ∧ w = w' := by
  rcases h with h | h
  · go_enter Tryd.func108, Tryd.ntmps108
    go_wp2
    go_ret
    exact ⟨rfl, rfl⟩
  · have h' : 1 ≤ n := by omega
    have h2 : decide (n ≤ 64) = false := by simp; omega
    go_enter Tryd.func108, Tryd.ntmps108
    go_wp2
    go_ret
    exact ⟨rfl, rfl⟩
/-- pack.within. -/
theorem within_any (v : BitVec 64) (n : Int) (w : World) (h0 : 1 ≤ n) (h1 : n ≤ 64) :
    Calls Tryd.prog 102 #[.int .u64 (u v), .int .i64 n] w fun e w' => e = .returned (.bool (fits v n.toNat)) ∧ w = w' := by
  go_enter Tryd.func102, Tryd.ntmps102
  go_wp2_with (go_at_call 103; refine (lowest_any _ _ (by omega) (by omega)).mono ?_; rintro e w' ⟨rfl, rfl⟩)
  go_ret
  exact ⟨ret_b (u_le_low v _), rfl⟩
theorem lowest_quiet (n : Int) (w : World) (k : Nat) (h0 : 1 ≤ n) (h1 : n ≤ 64) :
    Calls Tryd.prog 103 #[.int .i64 n] (w.drewN k) fun e w' => e = .returned (.int .u64 (u (low n.toNat))) ∧ ∃ m, w' = w.drewN m :=
  (lowest_any n _ h0 h1).mono fun _ _ ⟨he, hw⟩ => ⟨he, k, hw.symm⟩
/-- pack.mask. -/
theorem mask_any (s n : Int) (w : World) (h0 : 1 ≤ n) (h1 : n ≤ 64) (h2 : 0 ≤ s) (h3 : s ≤ 64) :
    Calls Tryd.prog 101 #[.agg #[.int .i64 s, .int .i64 n]] w fun e w' => e = .returned (.int .u64 (u (maskW s.toNat n.toNat))) ∧ ∃ k, w' = (w.alloc (.cells #[.int .i64 s, .int .i64 n] 89)).drewN k := by
  go_enter Tryd.func101, Tryd.ntmps101
  go_wp2
  go_quiet ((go_at_call 103; exact lowest_quiet _ _ _ (by omega) (by omega)))
  go_wp2
  go_ret
  exact ⟨ret_u (shl_u _ _), _, rfl⟩
/-- pack.Right. -/
theorem right_any (s n : Int) (w : World) :
    Calls Tryd.prog 100 #[.agg #[.int .i64 s, .int .i64 n]] w fun e w' => e = .returned (.bool (rightB s n)) ∧ w' = w.alloc (.cells #[.int .i64 s, .int .i64 n] 89) := by
  by_cases hw : 1 ≤ n ∧ n ≤ 64
  · obtain ⟨h0, h1⟩ := hw
    by_cases hs : 0 ≤ s
    · go_enter Tryd.func100, Tryd.ntmps100
      go_wp2_with (go_at_call 108; refine (isWidth_yes _ _ (by omega) (by omega)).mono ?_; rintro e w' ⟨rfl, rfl⟩)
      go_ret
      exact ⟨ret_b (by unfold rightB; rw [decide_eq_decide]; omega), rfl⟩
    · have hd : decide (0 ≤ s) = false := by simpa using hs
      go_enter Tryd.func100, Tryd.ntmps100
      go_wp2_with (go_at_call 108; refine (isWidth_yes _ _ (by omega) (by omega)).mono ?_; rintro e w' ⟨rfl, rfl⟩)
      go_ret
      exact ⟨ret_b (by unfold rightB; symm; rw [decide_eq_false_iff_not]; omega), rfl⟩
  · have hn : n < 1 ∨ 64 < n := by omega
    have HN := Lib.hid hn
    clear hn hw
    go_enter Tryd.func100, Tryd.ntmps100
    go_wp2_with (go_at_call 108; refine (isWidth_no _ _ HN.out).mono ?_; rintro e w' ⟨rfl, rfl⟩)
    go_ret
    exact ⟨ret_b (by unfold rightB; symm; rw [decide_eq_false_iff_not]; have := HN.out; omega), rfl⟩
/-- pack.Get. -/
theorem get_yes (x : BitVec 64) (s n : Int) (w : World) (hr : rightB s n = true) :
    Calls Tryd.prog 87 #[.int .u64 (u x), .agg #[.int .i64 s, .int .i64 n]] w fun e w' => e = .returned (.tuple #[.int .u64 (u (getW x s.toNat n.toNat)), .bool true]) ∧ Below w.heap.size w w' := by
  obtain ⟨h0, h1, h2, h3⟩ := rightB_iff.1 hr
  go_enter Tryd.func87, Tryd.ntmps87
  go_wp2_with (go_at_call 100; refine (right_any _ _ _).mono ?_; rintro e w' ⟨rfl, rfl⟩)
  go_quiet ((go_at_call 103; exact lowest_quiet _ _ _ (by omega) (by omega)))
  go_wp2
  go_ret2
  exact ⟨ret_ub (by rw [shr_u, and_u]; rfl), below_drewN (((Below.refl _ _).alloc (Nat.le_refl _) _).alloc (by simp) _) _⟩
/-- pack.Put. -/
theorem put_yes (x v : BitVec 64) (s n : Int) (w : World) (hr : rightB s n = true) (hv : fits v n.toNat = true) :
    Calls Tryd.prog 86 #[.int .u64 (u x), .agg #[.int .i64 s, .int .i64 n], .int .u64 (u v)] w fun e w' => e = .returned (.tuple #[.int .u64 (u (putW x s.toNat n.toNat v)), .bool true]) ∧ Below w.heap.size w w' := by
  obtain ⟨h0, h1, h2, h3⟩ := rightB_iff.1 hr
  go_enter Tryd.func86, Tryd.ntmps86
  go_wp2_with (first | (go_at_call 100; refine (right_any _ _ _).mono ?_; rintro e w' ⟨rfl, rfl⟩) | (go_at_call 102; refine (within_any _ _ _ (by omega) (by omega)).mono ?_; rintro e w' ⟨rfl, rfl⟩))
  go_region_held3 (fun w' => w'.cell? ⟨w.heap.size, 0, none⟩ = some (.int .i64 s) ∧ w'.cell? ⟨w.heap.size, 1, none⟩ = some (.int .i64 n)) (simp [go_sem, World.cell?_alloc_past])
    (first | (go_at_call 101; refine (mask_any _ _ _ (by omega) (by omega) (by omega) (by omega)).mono ?_; rintro e w' ⟨rfl, k, rfl⟩))
  go_wp2
  go_ret2
  exact ⟨ret_ub (by rw [shl_u, andNot_u, or_u]; rfl), below_drewN ((((Below.refl _ _).alloc (Nat.le_refl _) _).alloc (by simp) _).alloc (by simp; omega) _) _⟩
theorem put_wide (x v : BitVec 64) (s n : Int) (w : World) (hr : rightB s n = true) (hv : fits v n.toNat = false) :
    Calls Tryd.prog 86 #[.int .u64 (u x), .agg #[.int .i64 s, .int .i64 n], .int .u64 (u v)] w fun e w' => e = .returned (.tuple #[.int .u64 0, .bool false]) ∧ Below w.heap.size w w' := by
  obtain ⟨h0, h1, h2, h3⟩ := rightB_iff.1 hr
  go_enter Tryd.func86, Tryd.ntmps86
  go_wp2_with (first | (go_at_call 100; refine (right_any _ _ _).mono ?_; rintro e w' ⟨rfl, rfl⟩) | (go_at_call 102; refine (within_any _ _ _ (by omega) (by omega)).mono ?_; rintro e w' ⟨rfl, rfl⟩))
  go_ret2
  exact ⟨rfl, ((Below.refl _ _).alloc (Nat.le_refl _) _).alloc (by simp) _⟩
/-- The fields of a slice that lies below a block, in a world. -/
def FAt (w : World) (b off : Nat) (l : List (Int × Int)) : Prop :=
  ∀ i, i < l.length → w.cell? ⟨b, off + i * 2, none⟩ = some (.int .i64 (l.getD i (0, 0)).1) ∧ w.cell? ⟨b, off + i * 2 + 1, none⟩ = some (.int .i64 (l.getD i (0, 0)).2)
theorem FAt.below {B b off : Nat} {w w' : World} {l : List (Int × Int)} (h : FAt w b off l) (hb : b < B) (hw : Below B w w') : FAt w' b off l :=
  fun i hi => ⟨(hw.cell (p := ⟨b, off + i * 2, none⟩) hb).trans (h i hi).1, (hw.cell (p := ⟨b, off + i * 2 + 1, none⟩) hb).trans (h i hi).2⟩
theorem up_alloc {w wr : World} (h : Below w.heap.size w wr) (o : Obj) : Below w.heap.size w (wr.alloc o) := h.alloc h.size o
theorem up_drew {w wr : World} (h : Below w.heap.size w wr) (n : Nat) : Below w.heap.size w (wr.drewN n) := below_drewN h n
theorem and_ne {x y : BitVec 64} {b : Bool} (h : (x &&& y == 0#64) = b) : (bits .and .u64 (u x) (u y) != 0) = !b := by
  have e : (0 : Int) = u 0#64 := rfl
  rw [and_u, e, bne, u_beq, h]
set_option maxHeartbeats 800000 in
theorem apart_some (b off : Nat) (l : List (Int × Int)) (c : Nat) (w : World) (hb : b < w.heap.size) (hf : FAt w b off l) (hl : l.length ≤ 70) :
    Calls Tryd.prog 85 #[.slice (some ⟨b, off, none⟩) l.length c] w fun e w' => e = .returned (.bool (apartGo 0#64 l)) ∧ Below w.heap.size w w' := by
  have HF := Lib.hid hf
  clear hf
  go_enter Tryd.func85, Tryd.ntmps85
  go_wp2
  go_loopw [3, 8] (fun o i wr => ∃ k : Nat, k ≤ l.length ∧ i = .int .i64 k ∧ o = .int .u64 (u (seenTo l k)) ∧ okTo l k ∧ Below w.heap.size w wr) (fun _ i _ => l.length - (intOf i).toNat)
  case atStart => exact ⟨0, by omega, rfl, rfl, okTo_zero l, Below.refl _ _⟩
  case round =>
    obtain ⟨k, hk, rfl, rfl, hok, hbel⟩ := hrel
    have HO := Lib.hid hok
    clear hok
    by_cases hlt : k < l.length
    · obtain ⟨q1, q2⟩ := (HF.out.below hb hbel) k hlt
      have hsz := hbel.size
      obtain ⟨s, hs⟩ : ∃ s, (l.getD k (0, 0)).1 = s := ⟨_, rfl⟩
      obtain ⟨n, hn⟩ : ∃ n, (l.getD k (0, 0)).2 = n := ⟨_, rfl⟩
      rw [hs] at q1
      rw [hn] at q2
      have HP : Hid (l.getD k (0, 0) = (s, n)) := by rw [← hs, ← hn]; rfl
      clear hs hn
      have hb2 : b < wr.heap.size := by omega
      by_cases hr : rightB s n = true
      · obtain ⟨h0, h1, h2, h3⟩ := rightB_iff.1 hr
        by_cases ht : (seenTo l k &&& maskW s.toNat n.toNat == 0#64) = true
        · have hne := and_ne ht
          have HT := Lib.hid ht
          clear ht
          go_wp2_with (first | (go_at_call 100; refine (right_any _ _ _).mono ?_; rintro e w' ⟨rfl, rfl⟩) | (go_at_call 101; refine (mask_any _ _ _ (by omega) (by omega) (by omega) (by omega)).mono ?_; rintro e w' ⟨rfl, j, rfl⟩))
          go_roundw
          case rel => exact ⟨k + 1, by omega, by go_num, by rw [or_u, seenTo, HP.out]; rfl, okTo_succ HO.out hlt (by rw [HP.out]; exact hr) (by rw [HP.out]; exact HT.out), by repeat (first | exact hbel | apply up_drew | apply up_alloc)⟩
          case measure => simp [intOf]; omega
        · have hne := and_ne (b := false) (by simpa using ht)
          have HT := Lib.hid ht
          clear ht
          go_wp2_with (first | (go_at_call 100; refine (right_any _ _ _).mono ?_; rintro e w' ⟨rfl, rfl⟩) | (go_at_call 101; refine (mask_any _ _ _ (by omega) (by omega) (by omega) (by omega)).mono ?_; rintro e w' ⟨rfl, j, rfl⟩))
          go_ret
          exact ⟨ret_b (okTo_twice HO.out hlt (by rw [HP.out]; exact Bool.eq_false_iff.2 HT.out)).symm, by repeat (first | exact hbel | apply up_drew | apply up_alloc)⟩
      · have hr' : rightB s n = false := by simpa using hr
        clear hr
        go_wp2_with (first | (go_at_call 100; refine (right_any _ _ _).mono ?_; rintro e w' ⟨rfl, rfl⟩))
        go_ret
        exact ⟨ret_b (okTo_wrong HO.out hlt (by rw [HP.out]; exact hr')).symm, by repeat (first | exact hbel | apply up_drew | apply up_alloc)⟩
    · obtain rfl : k = l.length := by omega
      go_wp2
      go_ret
      exact ⟨ret_b (okTo_end HO.out).symm, hbel⟩
/-- The words of a slice. -/
def WAt (w : World) (b off : Nat) (vs : List (BitVec 64)) : Prop :=
  ∀ i, i < vs.length → w.cell? ⟨b, off + i, none⟩ = some (.int .u64 (u (vs.getD i 0#64)))
theorem WAt.below {B b off : Nat} {w w' : World} {vs : List (BitVec 64)} (h : WAt w b off vs) (hb : b < B) (hw : Below B w w') : WAt w' b off vs :=
  fun i hi => (hw.cell (p := ⟨b, off + i, none⟩) hb).trans (h i hi)
theorem keep3 {B : Nat} {W w2 : World} {p1 p2 p3 : Addr} {v1 v2 v3 : Value} (hb : Below B W w2) (h : W.cell? p1 = some v1 ∧ W.cell? p2 = some v2 ∧ W.cell? p3 = some v3) (b1 : p1.block < B) (b2 : p2.block < B) (b3 : p3.block < B) :
    w2.cell? p1 = some v1 ∧ w2.cell? p2 = some v2 ∧ w2.cell? p3 = some v3 := ⟨(hb.cell b1).trans h.1, (hb.cell b2).trans h.2.1, (hb.cell b3).trans h.2.2⟩
set_option maxHeartbeats 1000000 in
theorem pack_some (b off vb voff : Nat) (l : List (Int × Int)) (vs : List (BitVec 64)) (c d : Nat) (w : World) (hne : l.length = vs.length) (hb : b < w.heap.size) (hvb : vb < w.heap.size) (hf : FAt w b off l) (hv : WAt w vb voff vs) (hl : l.length ≤ 70) (ha : apartGo 0#64 l = true) :
    Calls Tryd.prog 50 #[.slice (some ⟨b, off, none⟩) l.length c, .slice (some ⟨vb, voff, none⟩) l.length d] w fun e w' =>
      e = .returned (match packGo 0#64 l vs with | some y => .tuple #[.int .u64 (u y), .bool true] | none => .tuple #[.int .u64 0, .bool false]) ∧ Below w.heap.size w w' := by
  have hd : ((l.length : Int) != (l.length : Int)) = false := by simp
  have HF := Lib.hid hf
  have HV := Lib.hid hv
  have HA := Lib.hid ha
  have HE := Lib.hid hne
  obtain ⟨r, hr⟩ : ∃ r : Value, (match packGo 0#64 l vs with | some y => Value.tuple #[.int .u64 (u y), .bool true] | none => .tuple #[.int .u64 0, .bool false]) = r := ⟨_, rfl⟩
  rw [hr]
  have HR := Lib.hid hr
  clear hf hv hne hr
  go_enter Tryd.func50, Tryd.ntmps50
  go_wp2_with (go_at_call 85; refine (apart_some b off l c _ hb HF.out hl).mono ?_; rintro e w1 ⟨rfl, hb1⟩)
  go_loopw [6, 23] (fun o i wr => ∃ k : Nat, k ≤ l.length ∧ i = .int .i64 k ∧ o = .int .u64 (u (packTo l vs k)) ∧ pkTo l vs k ∧ Below w.heap.size w wr) (fun _ i _ => l.length - (intOf i).toNat)
  case atStart => exact ⟨0, by omega, rfl, rfl, pkTo_zero l vs, hb1⟩
  case round =>
    obtain ⟨k, hk, rfl, rfl, hok, hbel⟩ := hrel
    have HO := Lib.hid hok
    clear hok
    by_cases hlt : k < l.length
    · obtain ⟨q1, q2⟩ := (HF.out.below hb hbel) k hlt
      have q3 := (HV.out.below hvb hbel) k (by have := HE.out; omega)
      have hsz := hbel.size
      have hb2 : b < wr.heap.size := by omega
      have hb3 : vb < wr.heap.size := by omega
      have hrt : fr (l.getD k (0, 0)) = true := (apart_all l _ HA.out _ (by rw [List.getD_eq_getElem?_getD, List.getElem?_eq_getElem hlt]; exact List.getElem_mem hlt)).1
      obtain ⟨s, hs⟩ : ∃ s, (l.getD k (0, 0)).1 = s := ⟨_, rfl⟩
      obtain ⟨n, hn⟩ : ∃ n, (l.getD k (0, 0)).2 = n := ⟨_, rfl⟩
      obtain ⟨v, hv⟩ : ∃ v, vs.getD k 0#64 = v := ⟨_, rfl⟩
      rw [hs] at q1
      rw [hn] at q2
      rw [hv] at q3
      have HP : Hid (l.getD k (0, 0) = (s, n)) := by rw [← hs, ← hn]; rfl
      have HV2 := Lib.hid hv
      rw [HP.out] at hrt
      clear hs hn hv
      by_cases hfit : fits v n.toNat = true
      · go_wp2_with fail
        go_region_held3 (fun w' => w'.cell? ⟨wr.heap.size, 0, none⟩ = some (.int .i64 s) ∧ w'.cell? ⟨wr.heap.size, 1, none⟩ = some (.int .i64 n) ∧ w'.cell? ⟨vb, voff + k, none⟩ = some (.int .u64 (u v)))
          (first | exact keep3 hb4 (by simp [go_sem, q3, hb3]) (by simp) (by simp) (by simp; omega) | simp [go_sem, q3, hb3])
          ((go_at_call 86; refine (put_yes _ _ _ _ _ hrt hfit).mono ?_; rintro e w2 ⟨rfl, hb4⟩))
        go_wp2
        go_roundw
        case rel => exact ⟨k + 1, by omega, by go_num, by rw [packTo, HP.out, HV2.out], pkTo_succ HO.out hlt (by have := HE.out; omega) (by rw [HP.out, HV2.out]; exact hfit), (up_drew (up_alloc hbel _) 1).trans (hb4.mono (by simp; omega))⟩
        case measure => simp [intOf]; omega
      · have hfit' : fits v n.toNat = false := by simpa using hfit
        clear hfit
        go_wp2_with fail
        go_region_held3 (fun w' => w'.cell? ⟨wr.heap.size, 0, none⟩ = some (.int .i64 s) ∧ w'.cell? ⟨wr.heap.size, 1, none⟩ = some (.int .i64 n) ∧ w'.cell? ⟨vb, voff + k, none⟩ = some (.int .u64 (u v)))
          (first | exact keep3 hb4 (by simp [go_sem, q3, hb3]) (by simp) (by simp) (by simp; omega) | simp [go_sem, q3, hb3])
          ((go_at_call 86; refine (put_wide _ _ _ _ _ hrt hfit').mono ?_; rintro e w2 ⟨rfl, hb4⟩))
        go_wp2
        go_ret2
        refine ⟨?_, (up_drew (up_alloc hbel _) 1).trans (hb4.mono (by simp; omega))⟩
        rw [← HR.out, pkTo_wide HO.out hlt (by have := HE.out; omega) (by rw [HP.out, HV2.out]; exact hfit')]
        rfl
    · obtain rfl : k = l.length := by omega
      go_wp2
      go_ret2
      refine ⟨?_, hbel⟩
      rw [← HR.out, pkTo_end HO.out]
      rfl

end Go.Proofs.YtaelfgdiboekpaaDoor.Ra
