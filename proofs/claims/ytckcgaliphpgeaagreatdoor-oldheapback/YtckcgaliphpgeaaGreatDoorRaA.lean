import Derived.Laws.BitsAllLaws
import Derived.Laws.BitsLemmas
import Derived.Test.YtckcgaliphpgeaaGreatDoorRows
import Derived.WalkKit
import Derived.WalkSpells
import Derived.WalkLawsBesides
import Derived.Deep.QuietTactic
import Derived.BigQuiet
import Derived.Deep.RegionHeld3
import Derived.Lib.Hide
import Derived.BigRegion
import Derived.RegionTactic
import Derived.Deep.RegionLaw
import Derived.Deep.WholeRow
import Derived.Deep.MidRow
import Derived.Laws.Rows
import Derived.Laws.Tables
import Derived.Laws.StructEq
import Derived.ChangeKeysEq
import Derived.Deep.RegionWith
/-
  Plain facts on words of 64 bits and on rows of fields, of which no statement of its own is claimed.
-/
namespace Go.Proofs.YtckcgaliphpgeaaGreatDoor.Ra
set_option maxRecDepth 100000

/-- A word as the number that it is, unsigned. -/
def u (x : BitVec 64) : Int := (x.toNat : Int)
theorem u_nonneg (x : BitVec 64) : 0 ≤ u x := by unfold u; omega
theorem u_lt (x : BitVec 64) : u x < 18446744073709551616 := by unfold u; have := x.isLt; omega
theorem u_inj {x y : BitVec 64} (h : u x = u y) : x = y := by
  unfold u at h; exact BitVec.eq_of_toNat_eq (by omega)
theorem u_beq (x y : BitVec 64) : (u x == u y) = (x == y) := by
  rw [Bool.eq_iff_iff]; simp only [beq_iff_eq]; exact ⟨u_inj, fun h => by rw [h]⟩
theorem u_of (n : Int) (h0 : 0 ≤ n) (h1 : n < 18446744073709551616) : ∃ x : BitVec 64, n = u x :=
  ⟨BitVec.ofNat 64 n.toNat, by unfold u; rw [BitVec.toNat_ofNat, Nat.mod_eq_of_lt (by omega)]; omega⟩
theorem and_u (x y : BitVec 64) : bits .and .u64 (u x) (u y) = u (x &&& y) := by
  unfold u; rw [u64_and_nat _ _ x.isLt y.isLt, BitVec.toNat_and]
theorem or_u (x y : BitVec 64) : bits .or .u64 (u x) (u y) = u (x ||| y) := by
  unfold u; rw [u64_or_nat _ _ x.isLt y.isLt, BitVec.toNat_or]
theorem andNot_u (x y : BitVec 64) : bits .andNot .u64 (u x) (u y) = u (x &&& ~~~y) := by
  unfold u; rw [u64_andNot_nat _ _ x.isLt y.isLt, BitVec.toNat_and, BitVec.toNat_not]
theorem shl_u (x : BitVec 64) (n : Nat) : IntKind.u64.wrap (u x * 2 ^ n) = u (x <<< n) := by
  unfold u; rw [IntKind.wrap_u64, BitVec.toNat_shiftLeft, Nat.shiftLeft_eq]
  have : ((x.toNat : Int) * 2 ^ n) = ((x.toNat * 2 ^ n : Nat) : Int) := by rw [Int.natCast_mul, Int.natCast_pow]; rfl
  rw [this]; omega
theorem shr_u (x : BitVec 64) (n : Nat) : u x / 2 ^ n = u (x >>> n) := by
  unfold u; rw [BitVec.toNat_ushiftRight, Nat.shiftRight_eq_div_pow]
  have : ((2 : Int) ^ n) = ((2 ^ n : Nat) : Int) := by rw [Int.natCast_pow]; rfl
  rw [this, Int.natCast_ediv]
/-- The lowest n bits. -/
def low (n : Nat) : BitVec 64 := BitVec.allOnes 64 >>> (64 - n)
theorem low_bit (n i : Nat) (h : n ≤ 64) : (low n).getLsbD i = decide (i < n) := by
  unfold low; rw [BitVec.getLsbD_ushiftRight, BitVec.getLsbD_allOnes]; rw [Bool.eq_iff_iff]; simp; omega
/-- No bit above a width. -/
def fits (v : BitVec 64) (n : Nat) : Bool := decide (v ≤ low n)
theorem low_toNat (n : Nat) (h : n ≤ 64) : (low n).toNat = 2 ^ n - 1 := by
  unfold low; rw [BitVec.toNat_ushiftRight, BitVec.toNat_allOnes, Nat.shiftRight_eq_div_pow]
  have e : 2 ^ 64 = 2 ^ n * 2 ^ (64 - n) := by rw [← Nat.pow_add]; congr 1; omega
  have p : 0 < 2 ^ (64 - n) := Nat.two_pow_pos _
  rw [e]
  apply Nat.div_eq_of_lt_le
  · rw [Nat.sub_mul]; omega
  · have q : 0 < 2 ^ n := Nat.two_pow_pos _
    have : 2 ^ n - 1 + 1 = 2 ^ n := by omega
    rw [this]; have := Nat.mul_pos q p; omega
theorem fits_iff (v : BitVec 64) (n : Nat) (h : n ≤ 64) : fits v n = true ↔ ∀ i, n ≤ i → v.getLsbD i = false := by
  unfold fits; rw [decide_eq_true_iff, BitVec.le_def, low_toNat n h]
  have p : 0 < 2 ^ n := Nat.two_pow_pos _
  constructor
  · intro hv i hi
    rw [BitVec.getLsbD]
    exact Nat.testBit_lt_two_pow (Nat.lt_of_lt_of_le (by omega) (Nat.pow_le_pow_right (by omega) hi))
  · intro hv
    have : v.toNat < 2 ^ n := by
      apply Nat.lt_pow_two_of_testBit
      intro i hi; exact hv i hi
    omega
theorem u_le_low (v : BitVec 64) (n : Nat) : decide (u v ≤ u (low n)) = fits v n := by
  unfold fits u; rw [Bool.eq_iff_iff, decide_eq_true_iff, decide_eq_true_iff, BitVec.le_def]; omega
def getW (x : BitVec 64) (s n : Nat) : BitVec 64 := (x >>> s) &&& low n
def maskW (s n : Nat) : BitVec 64 := low n <<< s
def putW (x : BitVec 64) (s n : Nat) (v : BitVec 64) : BitVec 64 := (x &&& ~~~(maskW s n)) ||| (v <<< s)
/-- A field is right. -/
def rightB (s n : Int) : Bool := decide (1 ≤ n ∧ n ≤ 64 ∧ 0 ≤ s ∧ s + n ≤ 64)
theorem rightB_iff {s n : Int} : rightB s n = true ↔ 1 ≤ n ∧ n ≤ 64 ∧ 0 ≤ s ∧ s + n ≤ 64 := by simp [rightB]
/-- The bits of a field. -/
def fm (p : Int × Int) : BitVec 64 := maskW p.1.toNat p.2.toNat
def fr (p : Int × Int) : Bool := rightB p.1 p.2
/-- Are all right, and has no bit two, nor one that is there already? -/
def apartGo (seen : BitVec 64) : List (Int × Int) → Bool
  | [] => true
  | p :: r => fr p && (seen &&& fm p == 0#64) && apartGo (seen ||| fm p) r
/-- The bits of the first k fields. -/
def seenTo (l : List (Int × Int)) : Nat → BitVec 64
  | 0 => 0#64
  | k + 1 => seenTo l k ||| fm (l.getD k (0, 0))
theorem apart_step (l : List (Int × Int)) (k : Nat) (h : k < l.length) :
    apartGo (seenTo l k) (l.drop k) = (fr (l.getD k (0, 0)) && (seenTo l k &&& fm (l.getD k (0, 0)) == 0#64) && apartGo (seenTo l (k + 1)) (l.drop (k + 1))) := by
  rw [List.drop_eq_getElem_cons h, apartGo, seenTo, List.getD_eq_getElem?_getD, List.getElem?_eq_getElem h]; rfl
/-- All but the last question: the fields up to k are right and apart. -/
def okTo (l : List (Int × Int)) (k : Nat) : Prop := apartGo 0#64 l = apartGo (seenTo l k) (l.drop k)
theorem okTo_zero (l : List (Int × Int)) : okTo l 0 := rfl
theorem okTo_succ {l : List (Int × Int)} {k : Nat} (h : okTo l k) (hk : k < l.length) (h1 : fr (l.getD k (0, 0)) = true) (h2 : (seenTo l k &&& fm (l.getD k (0, 0)) == 0#64) = true) : okTo l (k + 1) := by
  unfold okTo at h ⊢; rw [h, apart_step l k hk, h1, h2]; rfl
theorem okTo_wrong {l : List (Int × Int)} {k : Nat} (h : okTo l k) (hk : k < l.length) (h1 : fr (l.getD k (0, 0)) = false) : apartGo 0#64 l = false := by
  unfold okTo at h; rw [h, apart_step l k hk, h1]; rfl
theorem okTo_twice {l : List (Int × Int)} {k : Nat} (h : okTo l k) (hk : k < l.length) (h2 : (seenTo l k &&& fm (l.getD k (0, 0)) == 0#64) = false) : apartGo 0#64 l = false := by
  unfold okTo at h; rw [h, apart_step l k hk, h2]; simp
theorem okTo_end {l : List (Int × Int)} (h : okTo l l.length) : apartGo 0#64 l = true := by
  unfold okTo at h; rw [h, List.drop_length]; rfl
theorem and_or_zero {a b c : BitVec 64} (h : (a ||| b) &&& c = 0#64) : a &&& c = 0#64 ∧ b &&& c = 0#64 := by
  constructor <;> (apply BitVec.eq_of_getLsbD_eq; intro i hi; have := congrArg (·.getLsbD i) h; simp only [BitVec.getLsbD_and, BitVec.getLsbD_or, BitVec.getLsbD_zero] at this ⊢; revert this; cases a.getLsbD i <;> cases b.getLsbD i <;> cases c.getLsbD i <;> simp)
theorem apart_all (l : List (Int × Int)) : ∀ seen, apartGo seen l = true → ∀ p ∈ l, fr p = true ∧ seen &&& fm p = 0#64 := by
  induction l with
  | nil => intro _ _ p hp; cases hp
  | cons q r ih =>
    intro seen h p hp
    rw [apartGo, Bool.and_eq_true, Bool.and_eq_true, beq_iff_eq] at h
    rcases List.mem_cons.1 hp with rfl | hp
    · exact h.1
    · have := ih _ h.2 p hp
      exact ⟨this.1, (and_or_zero this.2).1⟩
/-- The word of fields' values. -/
def packGo (x : BitVec 64) : List (Int × Int) → List (BitVec 64) → Option (BitVec 64)
  | p :: r, v :: vs => if fits v p.2.toNat then packGo (putW x p.1.toNat p.2.toNat v) r vs else none
  | _, _ => some x
/-- The word of the first k fields' values. -/
def packTo (l : List (Int × Int)) (vs : List (BitVec 64)) : Nat → BitVec 64
  | 0 => 0#64
  | k + 1 => putW (packTo l vs k) (l.getD k (0, 0)).1.toNat (l.getD k (0, 0)).2.toNat (vs.getD k 0#64)
def pkTo (l : List (Int × Int)) (vs : List (BitVec 64)) (k : Nat) : Prop := packGo 0#64 l vs = packGo (packTo l vs k) (l.drop k) (vs.drop k)
theorem pkTo_zero (l : List (Int × Int)) (vs : List (BitVec 64)) : pkTo l vs 0 := rfl
theorem pk_step (l : List (Int × Int)) (vs : List (BitVec 64)) (k : Nat) (h : k < l.length) (h' : k < vs.length) :
    packGo (packTo l vs k) (l.drop k) (vs.drop k) = if fits (vs.getD k 0#64) (l.getD k (0, 0)).2.toNat then packGo (packTo l vs (k + 1)) (l.drop (k + 1)) (vs.drop (k + 1)) else none := by
  rw [List.drop_eq_getElem_cons h, List.drop_eq_getElem_cons h', packGo, packTo]
  have e1 : l.getD k (0, 0) = l[k] := by rw [List.getD_eq_getElem?_getD, List.getElem?_eq_getElem h]; rfl
  have e2 : vs.getD k 0#64 = vs[k] := by rw [List.getD_eq_getElem?_getD, List.getElem?_eq_getElem h']; rfl
  rw [e1, e2]
theorem pkTo_succ {l : List (Int × Int)} {vs : List (BitVec 64)} {k : Nat} (h : pkTo l vs k) (hk : k < l.length) (hk' : k < vs.length) (hf : fits (vs.getD k 0#64) (l.getD k (0, 0)).2.toNat = true) : pkTo l vs (k + 1) := by
  unfold pkTo at h ⊢; rw [h, pk_step l vs k hk hk', if_pos hf]
theorem pkTo_wide {l : List (Int × Int)} {vs : List (BitVec 64)} {k : Nat} (h : pkTo l vs k) (hk : k < l.length) (hk' : k < vs.length) (hf : fits (vs.getD k 0#64) (l.getD k (0, 0)).2.toNat = false) : packGo 0#64 l vs = none := by
  unfold pkTo at h; rw [h, pk_step l vs k hk hk', hf]; rfl
theorem pkTo_end {l : List (Int × Int)} {vs : List (BitVec 64)} (h : pkTo l vs l.length) : packGo 0#64 l vs = some (packTo l vs l.length) := by
  unfold pkTo at h; rw [h, List.drop_length]; rfl

end Go.Proofs.YtckcgaliphpgeaaGreatDoor.Ra

/-
  What package pack does, said of words as bit vectors: contracts that the claimed proofs use.
-/
namespace Go.Proofs.YtckcgaliphpgeaaGreatDoor.Ra
set_option maxRecDepth 100000
open Go.RowKit

theorem ret_u {a b : Int} (h : a = b) : Ending.returned (.int .u64 a) = .returned (.int .u64 b) := by rw [h]
theorem ret_b {a b : Bool} (h : a = b) : Ending.returned (.bool a) = .returned (.bool b) := by rw [h]
theorem ret_ub {a b : Int} {c : Bool} (h : a = b) : Ending.returned (.tuple #[.int .u64 a, .bool c]) = .returned (.tuple #[.int .u64 b, .bool c]) := by rw [h]
/-- pack.lowest. -/
theorem low_raw (n : Int) (h0 : 1 ≤ n) (h1 : n ≤ 64) : 18446744073709551615 / 2 ^ (64 - n).toNat = u (low n.toNat) := by
  have e : (18446744073709551615 : Int) = u (BitVec.allOnes 64) := rfl
  rw [e, shr_u, low]; congr 2; omega
theorem lowest_any (n : Int) (w : World) (h0 : 1 ≤ n) (h1 : n ≤ 64) :
    Calls Tryz.prog 165 #[.int .i64 n] w fun e w' => e = .returned (.int .u64 (u (low n.toNat))) ∧ w = w' := by
  go_enter Tryz.func165, Tryz.ntmps165
  go_wp2
  go_ret
  exact ⟨ret_u (low_raw n h0 h1), rfl⟩
/-- pack.isWidth. -/
theorem isWidth_yes (n : Int) (w : World) (h0 : 1 ≤ n) (h1 : n ≤ 64) :
    Calls Tryz.prog 192 #[.int .i64 n] w fun e w' => e = .returned (.bool true) ∧ w = w' := by
  go_enter Tryz.func192, Tryz.ntmps192
  go_wp2
  go_ret
  exact ⟨rfl, rfl⟩
theorem isWidth_no (n : Int) (w : World) (h : n < 1 ∨ 64 < n) :
    Calls Tryz.prog 192 #[.int .i64 n] w fun e w' => e = .returned (.bool false) ∧ w = w' := by
  rcases h with h | h
  · go_enter Tryz.func192, Tryz.ntmps192
    go_wp2
    go_ret
    exact ⟨rfl, rfl⟩
  · have h' : 1 ≤ n := by omega
    have h2 : decide (n ≤ 64) = false := by simp; omega
    go_enter Tryz.func192, Tryz.ntmps192
    go_wp2
    go_ret
    exact ⟨rfl, rfl⟩
/-- pack.within. -/
theorem within_any (v : BitVec 64) (n : Int) (w : World) (h0 : 1 ≤ n) (h1 : n ≤ 64) :
    Calls Tryz.prog 201 #[.int .u64 (u v), .int .i64 n] w fun e w' => e = .returned (.bool (fits v n.toNat)) ∧ w = w' := by
  go_enter Tryz.func201, Tryz.ntmps201
  go_wp2_with (go_at_call 165; refine (lowest_any _ _ (by omega) (by omega)).mono ?_; rintro e w' ⟨rfl, rfl⟩)
  go_ret
  exact ⟨ret_b (u_le_low v _), rfl⟩
theorem lowest_quiet (n : Int) (w : World) (k : Nat) (h0 : 1 ≤ n) (h1 : n ≤ 64) :
    Calls Tryz.prog 165 #[.int .i64 n] (w.drewN k) fun e w' => e = .returned (.int .u64 (u (low n.toNat))) ∧ ∃ m, w' = w.drewN m :=
  (lowest_any n _ h0 h1).mono fun _ _ ⟨he, hw⟩ => ⟨he, k, hw.symm⟩
/-- pack.mask. -/
theorem mask_any (s n : Int) (w : World) (h0 : 1 ≤ n) (h1 : n ≤ 64) (h2 : 0 ≤ s) (h3 : s ≤ 64) :
    Calls Tryz.prog 200 #[.agg #[.int .i64 s, .int .i64 n]] w fun e w' => e = .returned (.int .u64 (u (maskW s.toNat n.toNat))) ∧ ∃ k, w' = (w.alloc (.cells #[.int .i64 s, .int .i64 n] 194)).drewN k := by
  go_enter Tryz.func200, Tryz.ntmps200
  go_wp2
  go_quiet ((go_at_call 165; exact lowest_quiet _ _ _ (by omega) (by omega)))
  go_wp2
  go_ret
  exact ⟨ret_u (shl_u _ _), _, rfl⟩
/-- pack.Right. -/
theorem right_any (s n : Int) (w : World) :
    Calls Tryz.prog 164 #[.agg #[.int .i64 s, .int .i64 n]] w fun e w' => e = .returned (.bool (rightB s n)) ∧ w' = w.alloc (.cells #[.int .i64 s, .int .i64 n] 194) := by
  by_cases hw : 1 ≤ n ∧ n ≤ 64
  · obtain ⟨h0, h1⟩ := hw
    by_cases hs : 0 ≤ s
    · go_enter Tryz.func164, Tryz.ntmps164
      go_wp2_with (go_at_call 192; refine (isWidth_yes _ _ (by omega) (by omega)).mono ?_; rintro e w' ⟨rfl, rfl⟩)
      go_ret
      exact ⟨ret_b (by unfold rightB; rw [decide_eq_decide]; omega), rfl⟩
    · have hd : decide (0 ≤ s) = false := by simpa using hs
      go_enter Tryz.func164, Tryz.ntmps164
      go_wp2_with (go_at_call 192; refine (isWidth_yes _ _ (by omega) (by omega)).mono ?_; rintro e w' ⟨rfl, rfl⟩)
      go_ret
      exact ⟨ret_b (by unfold rightB; symm; rw [decide_eq_false_iff_not]; omega), rfl⟩
  · have hn : n < 1 ∨ 64 < n := by omega
    have HN := Lib.hid hn
    clear hn hw
    go_enter Tryz.func164, Tryz.ntmps164
    go_wp2_with (go_at_call 192; refine (isWidth_no _ _ HN.out).mono ?_; rintro e w' ⟨rfl, rfl⟩)
    go_ret
    exact ⟨ret_b (by unfold rightB; symm; rw [decide_eq_false_iff_not]; have := HN.out; omega), rfl⟩
/-- pack.Get. -/
theorem get_yes (x : BitVec 64) (s n : Int) (w : World) (hr : rightB s n = true) :
    Calls Tryz.prog 136 #[.int .u64 (u x), .agg #[.int .i64 s, .int .i64 n]] w fun e w' => e = .returned (.tuple #[.int .u64 (u (getW x s.toNat n.toNat)), .bool true]) ∧ Below w.heap.size w w' := by
  obtain ⟨h0, h1, h2, h3⟩ := rightB_iff.1 hr
  go_enter Tryz.func136, Tryz.ntmps136
  go_wp2_with (go_at_call 164; refine (right_any _ _ _).mono ?_; rintro e w' ⟨rfl, rfl⟩)
  go_quiet ((go_at_call 165; exact lowest_quiet _ _ _ (by omega) (by omega)))
  go_wp2
  go_ret2
  exact ⟨ret_ub (by rw [shr_u, and_u]; rfl), below_drewN (((Below.refl _ _).alloc (Nat.le_refl _) _).alloc (by simp) _) _⟩
/-- pack.Put. -/
theorem put_yes (x v : BitVec 64) (s n : Int) (w : World) (hr : rightB s n = true) (hv : fits v n.toNat = true) :
    Calls Tryz.prog 191 #[.int .u64 (u x), .agg #[.int .i64 s, .int .i64 n], .int .u64 (u v)] w fun e w' => e = .returned (.tuple #[.int .u64 (u (putW x s.toNat n.toNat v)), .bool true]) ∧ Below w.heap.size w w' := by
  obtain ⟨h0, h1, h2, h3⟩ := rightB_iff.1 hr
  go_enter Tryz.func191, Tryz.ntmps191
  go_wp2_with (first | (go_at_call 164; refine (right_any _ _ _).mono ?_; rintro e w' ⟨rfl, rfl⟩) | (go_at_call 201; refine (within_any _ _ _ (by omega) (by omega)).mono ?_; rintro e w' ⟨rfl, rfl⟩))
  go_region_held3 (fun w' => w'.cell? ⟨w.heap.size, 0, none⟩ = some (.int .i64 s) ∧ w'.cell? ⟨w.heap.size, 1, none⟩ = some (.int .i64 n)) (simp [go_sem, World.cell?_alloc_past])
    (first | (go_at_call 200; refine (mask_any _ _ _ (by omega) (by omega) (by omega) (by omega)).mono ?_; rintro e w' ⟨rfl, k, rfl⟩))
  go_wp2
  go_ret2
  exact ⟨ret_ub (by rw [shl_u, andNot_u, or_u]; rfl), below_drewN ((((Below.refl _ _).alloc (Nat.le_refl _) _).alloc (by simp) _).alloc (by simp; omega) _) _⟩
theorem put_wide (x v : BitVec 64) (s n : Int) (w : World) (hr : rightB s n = true) (hv : fits v n.toNat = false) :
    Calls Tryz.prog 191 #[.int .u64 (u x), .agg #[.int .i64 s, .int .i64 n], .int .u64 (u v)] w fun e w' => e = .returned (.tuple #[.int .u64 0, .bool false]) ∧ Below w.heap.size w w' := by
  obtain ⟨h0, h1, h2, h3⟩ := rightB_iff.1 hr
  go_enter Tryz.func191, Tryz.ntmps191
  go_wp2_with (first | (go_at_call 164; refine (right_any _ _ _).mono ?_; rintro e w' ⟨rfl, rfl⟩) | (go_at_call 201; refine (within_any _ _ _ (by omega) (by omega)).mono ?_; rintro e w' ⟨rfl, rfl⟩))
  go_ret2
  exact ⟨rfl, ((Below.refl _ _).alloc (Nat.le_refl _) _).alloc (by simp) _⟩
/-- The fields of a slice that lies below a block, in a world. -/
def FAt (w : World) (b off : Nat) (l : List (Int × Int)) : Prop :=
  ∀ i, i < l.length → w.cell? ⟨b, off + i * 2, none⟩ = some (.int .i64 (l.getD i (0, 0)).1) ∧ w.cell? ⟨b, off + i * 2 + 1, none⟩ = some (.int .i64 (l.getD i (0, 0)).2)
theorem FAt.below {B b off : Nat} {w w' : World} {l : List (Int × Int)} (h : FAt w b off l) (hb : b < B) (hw : Below B w w') : FAt w' b off l :=
  fun i hi => ⟨(hw.cell (p := ⟨b, off + i * 2, none⟩) hb).trans (h i hi).1, (hw.cell (p := ⟨b, off + i * 2 + 1, none⟩) hb).trans (h i hi).2⟩
theorem up_alloc {w wr : World} (h : Below w.heap.size w wr) (o : Obj) : Below w.heap.size w (wr.alloc o) := h.alloc h.size o
theorem up_drew {w wr : World} (h : Below w.heap.size w wr) (n : Nat) : Below w.heap.size w (wr.drewN n) := below_drewN h n
theorem and_ne {x y : BitVec 64} {b : Bool} (h : (x &&& y == 0#64) = b) : (bits .and .u64 (u x) (u y) != 0) = !b := by
  have e : (0 : Int) = u 0#64 := rfl
  rw [and_u, e, bne, u_beq, h]
set_option maxHeartbeats 800000 in
theorem apart_some (b off : Nat) (l : List (Int × Int)) (c : Nat) (w : World) (hb : b < w.heap.size) (hf : FAt w b off l) (hl : l.length ≤ 70) :
    Calls Tryz.prog 190 #[.slice (some ⟨b, off, none⟩) l.length c] w fun e w' => e = .returned (.bool (apartGo 0#64 l)) ∧ Below w.heap.size w w' := by
  have HF := Lib.hid hf
  clear hf
  go_enter Tryz.func190, Tryz.ntmps190
  go_wp2
  go_loopw [3, 8] (fun o i wr => ∃ k : Nat, k ≤ l.length ∧ i = .int .i64 k ∧ o = .int .u64 (u (seenTo l k)) ∧ okTo l k ∧ Below w.heap.size w wr) (fun _ i _ => l.length - (intOf i).toNat)
  case atStart => exact ⟨0, by omega, rfl, rfl, okTo_zero l, Below.refl _ _⟩
  case round =>
    obtain ⟨k, hk, rfl, rfl, hok, hbel⟩ := hrel
    have HO := Lib.hid hok
    clear hok
    by_cases hlt : k < l.length
    · obtain ⟨q1, q2⟩ := (HF.out.below hb hbel) k hlt
      have hsz := hbel.size
      obtain ⟨s, hs⟩ : ∃ s, (l.getD k (0, 0)).1 = s := ⟨_, rfl⟩
      obtain ⟨n, hn⟩ : ∃ n, (l.getD k (0, 0)).2 = n := ⟨_, rfl⟩
      rw [hs] at q1
      rw [hn] at q2
      have HP : Hid (l.getD k (0, 0) = (s, n)) := by rw [← hs, ← hn]; rfl
      clear hs hn
      have hb2 : b < wr.heap.size := by omega
      by_cases hr : rightB s n = true
      · obtain ⟨h0, h1, h2, h3⟩ := rightB_iff.1 hr
        by_cases ht : (seenTo l k &&& maskW s.toNat n.toNat == 0#64) = true
        · have hne := and_ne ht
          have HT := Lib.hid ht
          clear ht
          go_wp2_with (first | (go_at_call 164; refine (right_any _ _ _).mono ?_; rintro e w' ⟨rfl, rfl⟩) | (go_at_call 200; refine (mask_any _ _ _ (by omega) (by omega) (by omega) (by omega)).mono ?_; rintro e w' ⟨rfl, j, rfl⟩))
          go_roundw
          case rel => exact ⟨k + 1, by omega, by go_num, by rw [or_u, seenTo, HP.out]; rfl, okTo_succ HO.out hlt (by rw [HP.out]; exact hr) (by rw [HP.out]; exact HT.out), by repeat (first | exact hbel | apply up_drew | apply up_alloc)⟩
          case measure => simp [intOf]; omega
        · have hne := and_ne (b := false) (by simpa using ht)
          have HT := Lib.hid ht
          clear ht
          go_wp2_with (first | (go_at_call 164; refine (right_any _ _ _).mono ?_; rintro e w' ⟨rfl, rfl⟩) | (go_at_call 200; refine (mask_any _ _ _ (by omega) (by omega) (by omega) (by omega)).mono ?_; rintro e w' ⟨rfl, j, rfl⟩))
          go_ret
          exact ⟨ret_b (okTo_twice HO.out hlt (by rw [HP.out]; exact Bool.eq_false_iff.2 HT.out)).symm, by repeat (first | exact hbel | apply up_drew | apply up_alloc)⟩
      · have hr' : rightB s n = false := by simpa using hr
        clear hr
        go_wp2_with (first | (go_at_call 164; refine (right_any _ _ _).mono ?_; rintro e w' ⟨rfl, rfl⟩))
        go_ret
        exact ⟨ret_b (okTo_wrong HO.out hlt (by rw [HP.out]; exact hr')).symm, by repeat (first | exact hbel | apply up_drew | apply up_alloc)⟩
    · obtain rfl : k = l.length := by omega
      go_wp2
      go_ret
      exact ⟨ret_b (okTo_end HO.out).symm, hbel⟩
/-- The words of a slice. -/
def WAt (w : World) (b off : Nat) (vs : List (BitVec 64)) : Prop :=
  ∀ i, i < vs.length → w.cell? ⟨b, off + i, none⟩ = some (.int .u64 (u (vs.getD i 0#64)))
theorem WAt.below {B b off : Nat} {w w' : World} {vs : List (BitVec 64)} (h : WAt w b off vs) (hb : b < B) (hw : Below B w w') : WAt w' b off vs :=
  fun i hi => (hw.cell (p := ⟨b, off + i, none⟩) hb).trans (h i hi)
theorem keep3 {B : Nat} {W w2 : World} {p1 p2 p3 : Addr} {v1 v2 v3 : Value} (hb : Below B W w2) (h : W.cell? p1 = some v1 ∧ W.cell? p2 = some v2 ∧ W.cell? p3 = some v3) (b1 : p1.block < B) (b2 : p2.block < B) (b3 : p3.block < B) :
    w2.cell? p1 = some v1 ∧ w2.cell? p2 = some v2 ∧ w2.cell? p3 = some v3 := ⟨(hb.cell b1).trans h.1, (hb.cell b2).trans h.2.1, (hb.cell b3).trans h.2.2⟩
set_option maxHeartbeats 1000000 in
theorem pack_some (b off vb voff : Nat) (l : List (Int × Int)) (vs : List (BitVec 64)) (c d : Nat) (w : World) (hne : l.length = vs.length) (hb : b < w.heap.size) (hvb : vb < w.heap.size) (hf : FAt w b off l) (hv : WAt w vb voff vs) (hl : l.length ≤ 70) (ha : apartGo 0#64 l = true) :
    Calls Tryz.prog 163 #[.slice (some ⟨b, off, none⟩) l.length c, .slice (some ⟨vb, voff, none⟩) l.length d] w fun e w' =>
      e = .returned (match packGo 0#64 l vs with | some y => .tuple #[.int .u64 (u y), .bool true] | none => .tuple #[.int .u64 0, .bool false]) ∧ Below w.heap.size w w' := by
  have hd : ((l.length : Int) != (l.length : Int)) = false := by simp
  have HF := Lib.hid hf
  have HV := Lib.hid hv
  have HA := Lib.hid ha
  have HE := Lib.hid hne
  obtain ⟨r, hr⟩ : ∃ r : Value, (match packGo 0#64 l vs with | some y => Value.tuple #[.int .u64 (u y), .bool true] | none => .tuple #[.int .u64 0, .bool false]) = r := ⟨_, rfl⟩
  rw [hr]
  have HR := Lib.hid hr
  clear hf hv hne hr
  go_enter Tryz.func163, Tryz.ntmps163
  go_wp2_with (go_at_call 190; refine (apart_some b off l c _ hb HF.out hl).mono ?_; rintro e w1 ⟨rfl, hb1⟩)
  go_loopw [6, 23] (fun o i wr => ∃ k : Nat, k ≤ l.length ∧ i = .int .i64 k ∧ o = .int .u64 (u (packTo l vs k)) ∧ pkTo l vs k ∧ Below w.heap.size w wr) (fun _ i _ => l.length - (intOf i).toNat)
  case atStart => exact ⟨0, by omega, rfl, rfl, pkTo_zero l vs, hb1⟩
  case round =>
    obtain ⟨k, hk, rfl, rfl, hok, hbel⟩ := hrel
    have HO := Lib.hid hok
    clear hok
    by_cases hlt : k < l.length
    · obtain ⟨q1, q2⟩ := (HF.out.below hb hbel) k hlt
      have q3 := (HV.out.below hvb hbel) k (by have := HE.out; omega)
      have hsz := hbel.size
      have hb2 : b < wr.heap.size := by omega
      have hb3 : vb < wr.heap.size := by omega
      have hrt : fr (l.getD k (0, 0)) = true := (apart_all l _ HA.out _ (by rw [List.getD_eq_getElem?_getD, List.getElem?_eq_getElem hlt]; exact List.getElem_mem hlt)).1
      obtain ⟨s, hs⟩ : ∃ s, (l.getD k (0, 0)).1 = s := ⟨_, rfl⟩
      obtain ⟨n, hn⟩ : ∃ n, (l.getD k (0, 0)).2 = n := ⟨_, rfl⟩
      obtain ⟨v, hv⟩ : ∃ v, vs.getD k 0#64 = v := ⟨_, rfl⟩
      rw [hs] at q1
      rw [hn] at q2
      rw [hv] at q3
      have HP : Hid (l.getD k (0, 0) = (s, n)) := by rw [← hs, ← hn]; rfl
      have HV2 := Lib.hid hv
      rw [HP.out] at hrt
      clear hs hn hv
      by_cases hfit : fits v n.toNat = true
      · go_wp2_with fail
        go_region_held3 (fun w' => w'.cell? ⟨wr.heap.size, 0, none⟩ = some (.int .i64 s) ∧ w'.cell? ⟨wr.heap.size, 1, none⟩ = some (.int .i64 n) ∧ w'.cell? ⟨vb, voff + k, none⟩ = some (.int .u64 (u v)))
          (first | exact keep3 hb4 (by simp [go_sem, q3, hb3]) (by simp) (by simp) (by simp; omega) | simp [go_sem, q3, hb3])
          ((go_at_call 191; refine (put_yes _ _ _ _ _ hrt hfit).mono ?_; rintro e w2 ⟨rfl, hb4⟩))
        go_wp2
        go_roundw
        case rel => exact ⟨k + 1, by omega, by go_num, by rw [packTo, HP.out, HV2.out], pkTo_succ HO.out hlt (by have := HE.out; omega) (by rw [HP.out, HV2.out]; exact hfit), (up_drew (up_alloc hbel _) 1).trans (hb4.mono (by simp; omega))⟩
        case measure => simp [intOf]; omega
      · have hfit' : fits v n.toNat = false := by simpa using hfit
        clear hfit
        go_wp2_with fail
        go_region_held3 (fun w' => w'.cell? ⟨wr.heap.size, 0, none⟩ = some (.int .i64 s) ∧ w'.cell? ⟨wr.heap.size, 1, none⟩ = some (.int .i64 n) ∧ w'.cell? ⟨vb, voff + k, none⟩ = some (.int .u64 (u v)))
          (first | exact keep3 hb4 (by simp [go_sem, q3, hb3]) (by simp) (by simp) (by simp; omega) | simp [go_sem, q3, hb3])
          ((go_at_call 191; refine (put_wide _ _ _ _ _ hrt hfit').mono ?_; rintro e w2 ⟨rfl, hb4⟩))
        go_wp2
        go_ret2
        refine ⟨?_, (up_drew (up_alloc hbel _) 1).trans (hb4.mono (by simp; omega))⟩
        rw [← HR.out, pkTo_wide HO.out hlt (by have := HE.out; omega) (by rw [HP.out, HV2.out]; exact hfit')]
        rfl
    · obtain rfl : k = l.length := by omega
      go_wp2
      go_ret2
      refine ⟨?_, hbel⟩
      rw [← HR.out, pkTo_end HO.out]
      rfl

end Go.Proofs.YtckcgaliphpgeaaGreatDoor.Ra

/-
  Plain facts on entries, their words, and pages' words, of which no statement of its own is claimed.
-/
namespace Go.Proofs.YtckcgaliphpgeaaGreatDoor.Ra
set_option maxRecDepth 100000

/-- A number that an int holds. -/
def I64 (n : Int) : Prop := -9223372036854775808 ≤ n ∧ n ≤ 9223372036854775807
/-- A number that a word holds. -/
def U64 (n : Int) : Prop := 0 ≤ n ∧ n < 18446744073709551616
theorem I64.of {n : Int} (h0 : -9223372036854775808 ≤ n) (h1 : n ≤ 9223372036854775807) : I64 n := ⟨h0, h1⟩

/-! ### Words -/
/-- Is it an entry (span, version, class, state)? -/
def okB (a b c d : Int) : Bool := decide (0 ≤ a ∧ a ≤ 4095 ∧ 0 ≤ b ∧ b ≤ 3 ∧ 0 ≤ c ∧ c ≤ 63 ∧ 0 ≤ d ∧ d ≤ 7)
theorem okB_iff {a b c d : Int} : okB a b c d = true ↔ 0 ≤ a ∧ a ≤ 4095 ∧ 0 ≤ b ∧ b ≤ 3 ∧ 0 ≤ c ∧ c ≤ 63 ∧ 0 ≤ d ∧ d ≤ 7 := by simp [okB]
/-- Its word, with a stamp. -/
def wd (a b c d t : Int) : Int := 1 + 2 * d + 16 * c + 1024 * b + 4096 * a + 16777216 * t
def spanOf (x : Int) : Int := x / 4096 % 4096
def verOf (x : Int) : Int := x / 1024 % 4
def clsOf (x : Int) : Int := x / 16 % 64
def staOf (x : Int) : Int := x / 2 % 8
theorem wd_parts {a b c d t : Int} (h : okB a b c d = true) : spanOf (wd a b c d t) = a ∧ verOf (wd a b c d t) = b ∧ clsOf (wd a b c d t) = c ∧ staOf (wd a b c d t) = d := by
  have := okB_iff.1 h
  unfold spanOf verOf clsOf staOf wd
  omega
theorem wd_bd {a b c d t : Int} (h : okB a b c d = true) (h0 : 0 ≤ t) (h1 : t < 1099511627776) : U64 (wd a b c d t) ∧ wd a b c d t ≠ 0 ∧ wd a b c d t / 16777216 = t := by
  have := okB_iff.1 h
  unfold U64 wd
  omega
theorem part_bd (x : Int) : (0 ≤ spanOf x ∧ spanOf x ≤ 4095) ∧ (0 ≤ verOf x ∧ verOf x ≤ 3) ∧ (0 ≤ clsOf x ∧ clsOf x ≤ 63) ∧ (0 ≤ staOf x ∧ staOf x ≤ 7) := by
  unfold spanOf verOf clsOf staOf; omega
/-- The next stamp. -/
def nx (t : Int) : Int := (t + 1) % 1099511627776
theorem nx_bd (t : Int) : 0 ≤ nx t ∧ nx t < 1099511627776 := by unfold nx; omega

/-! ### Words out of fields -/
theorem put_low (x v : BitVec 64) (s n : Nat) (h : s + n ≤ 64) (hx : x.toNat < 2 ^ s) (hv : fits v n = true) :
    (putW x s n v).toNat = x.toNat + v.toNat * 2 ^ s ∧ (putW x s n v).toNat < 2 ^ (s + n) := by
  have hn : v.toNat < 2 ^ n := by
    unfold fits at hv
    rw [decide_eq_true_iff, BitVec.le_def, low_toNat n (by omega)] at hv
    have : 0 < 2 ^ n := Nat.two_pow_pos n
    omega
  have hm : x &&& ~~~(maskW s n) = x := by
    apply BitVec.eq_of_getLsbD_eq
    intro i hi
    rw [BitVec.getLsbD_and, BitVec.getLsbD_not]
    by_cases his : s ≤ i
    · have : x.getLsbD i = false := by
        rw [BitVec.getLsbD]
        exact Nat.testBit_lt_two_pow (Nat.lt_of_lt_of_le hx (Nat.pow_le_pow_right (by omega) his))
      rw [this]; rfl
    · unfold maskW
      rw [BitVec.getLsbD_shiftLeft]
      have h1 : i < s := by omega
      simp [hi, h1]
  have hp : v.toNat * 2 ^ s < 2 ^ (s + n) := by
    rw [Nat.pow_add, Nat.mul_comm (2 ^ s)]
    exact Nat.mul_lt_mul_of_pos_right hn (Nat.two_pow_pos s)
  have h64 : 2 ^ (s + n) ≤ 2 ^ 64 := Nat.pow_le_pow_right (by omega) h
  have e : (putW x s n v).toNat = x.toNat + v.toNat * 2 ^ s := by
    unfold putW
    rw [hm, BitVec.toNat_or, BitVec.toNat_shiftLeft, Nat.shiftLeft_eq, Nat.mod_eq_of_lt (by omega), Nat.or_comm]
    have := Nat.shiftLeft_add_eq_or_of_lt hx v.toNat
    rw [Nat.shiftLeft_eq] at this
    omega
  refine ⟨e, ?_⟩
  rw [e, Nat.pow_add]
  have h1 : v.toNat + 1 ≤ 2 ^ n := hn
  have := Nat.mul_le_mul_left (2 ^ s) h1
  rw [Nat.mul_add, Nat.mul_one, Nat.mul_comm (2 ^ s) v.toNat] at this
  omega
theorem get_num (x : BitVec 64) (s n : Nat) (h : n ≤ 64) : u (getW x s n) = u x / 2 ^ s % 2 ^ n := by
  unfold u getW
  rw [BitVec.toNat_and, BitVec.toNat_ushiftRight, low_toNat n h, Nat.and_two_pow_sub_one_eq_mod, Nat.shiftRight_eq_div_pow, Int.natCast_emod, Int.natCast_ediv, Int.natCast_pow, Int.natCast_pow]
  rfl
/-- A number as a word. -/
def uW (n : Int) : BitVec 64 := BitVec.ofInt 64 n
theorem u_uW (n : Int) : u (uW n) = n % 18446744073709551616 := by
  unfold u uW; rw [BitVec.toNat_ofInt]; omega
theorem u_uW_in {n : Int} (h : U64 n) : u (uW n) = n := by rw [u_uW]; unfold U64 at h; omega
theorem uW_raw (n : Int) : IntKind.u64.wrap n = u (uW n) := by rw [IntKind.wrap_u64, u_uW]
theorem fits_num (v : BitVec 64) (n : Nat) (h : n ≤ 64) : fits v n = decide (u v < 2 ^ n) := by
  unfold fits u
  rw [decide_eq_decide, BitVec.le_def, low_toNat n h]
  have p : 0 < 2 ^ n := Nat.two_pow_pos n
  have e : ((2 : Int) ^ n) = ((2 ^ n : Nat) : Int) := by rw [Int.natCast_pow]; rfl
  rw [e]; omega
theorem fits_int {d : Int} (n : Nat) (h : n < 63) (hd : I64 d) : fits (uW d) n = decide (0 ≤ d ∧ d < 2 ^ n) := by
  rw [fits_num _ n (by omega), decide_eq_decide, u_uW]
  unfold I64 at hd
  have e : ((2 : Int) ^ n) = ((2 ^ n : Nat) : Int) := by rw [Int.natCast_pow]; rfl
  have p : (2 : Nat) ^ n ≤ 2 ^ 62 := Nat.pow_le_pow_right (by omega) (by omega)
  rw [e]; omega
/-- The fields of an entry's word. -/
def fl : List (Int × Int) := [(0, 1), (1, 3), (4, 6), (10, 2), (12, 12), (24, 40)]
def vl (a b c d : Int) (t : BitVec 64) : List (BitVec 64) := [1#64, uW d, uW c, uW b, uW a, t]
theorem fl_apart : apartGo 0#64 fl = true := by decide +kernel
theorem pack_ok {a b c d : Int} {t : BitVec 64} (h : okB a b c d = true) (ht : u t < 1099511627776) : ∃ y, packGo 0#64 fl (vl a b c d t) = some y ∧ u y = wd a b c d (u t) := by
  obtain ⟨a0, a1, b0, b1, c0, c1, d0, d1⟩ := okB_iff.1 h
  have fd : fits (uW d) 3 = true := by rw [fits_int 3 (by omega) ⟨by omega, by omega⟩]; simp; omega
  have fc : fits (uW c) 6 = true := by rw [fits_int 6 (by omega) ⟨by omega, by omega⟩]; simp; omega
  have fb : fits (uW b) 2 = true := by rw [fits_int 2 (by omega) ⟨by omega, by omega⟩]; simp; omega
  have fa : fits (uW a) 12 = true := by rw [fits_int 12 (by omega) ⟨by omega, by omega⟩]; simp; omega
  have ft : fits t 40 = true := by rw [fits_num _ 40 (by omega)]; simpa using ht
  have f1 : fits 1#64 1 = true := by decide +kernel
  have p0 := put_low 0#64 1#64 0 1 (by omega) (by decide) f1
  have p1 := put_low _ (uW d) 1 3 (by omega) p0.2 fd
  have p2 := put_low _ (uW c) 4 6 (by omega) p1.2 fc
  have p3 := put_low _ (uW b) 10 2 (by omega) p2.2 fb
  have p4 := put_low _ (uW a) 12 12 (by omega) p3.2 fa
  have p5 := put_low _ t 24 40 (by omega) p4.2 ft
  refine ⟨putW (putW (putW (putW (putW (putW 0#64 0 1 1#64) 1 3 (uW d)) 4 6 (uW c)) 10 2 (uW b)) 12 12 (uW a)) 24 40 t, ?_, ?_⟩
  · simp only [fl, vl, packGo, Int.reduceToNat]
    rw [if_pos f1, if_pos fd, if_pos fc, if_pos fb, if_pos fa, if_pos ft]
  · have ed := u_uW_in (n := d) ⟨by omega, by omega⟩
    have ec := u_uW_in (n := c) ⟨by omega, by omega⟩
    have eb := u_uW_in (n := b) ⟨by omega, by omega⟩
    have ea := u_uW_in (n := a) ⟨by omega, by omega⟩
    have e0 := p0.1; have e1 := p1.1; have e2 := p2.1; have e3 := p3.1; have e4 := p4.1; have e5 := p5.1
    unfold u at *
    rw [e4, e3, e2, e1, e0] at e5
    rw [e5]
    unfold wd
    have : (1#64).toNat = 1 := rfl
    have : (0#64).toNat = 0 := rfl
    omega
theorem pack_no {a b c d : Int} {t : BitVec 64} (h : okB a b c d = false) (ia : I64 a) (ib : I64 b) (ic : I64 c) (id : I64 d) : packGo 0#64 fl (vl a b c d t) = none := by
  have h' : ¬ (0 ≤ a ∧ a ≤ 4095 ∧ 0 ≤ b ∧ b ≤ 3 ∧ 0 ≤ c ∧ c ≤ 63 ∧ 0 ≤ d ∧ d ≤ 7) := by simpa [okB] using h
  have f1 : fits 1#64 1 = true := by decide +kernel
  have fd := fits_int (d := d) 3 (by omega) id
  have fc := fits_int (d := c) 6 (by omega) ic
  have fb := fits_int (d := b) 2 (by omega) ib
  have fa := fits_int (d := a) 12 (by omega) ia
  simp only [fl, vl, packGo, Int.reduceToNat]
  rw [if_pos f1]
  by_cases hd : 0 ≤ d ∧ d < 8
  · have : fits (uW d) 3 = true := by rw [fd]; simpa using hd
    rw [if_pos this]
    by_cases hc : 0 ≤ c ∧ c < 64
    · have : fits (uW c) 6 = true := by rw [fc]; simpa using hc
      rw [if_pos this]
      by_cases hb : 0 ≤ b ∧ b < 4
      · have : fits (uW b) 2 = true := by rw [fb]; simpa using hb
        rw [if_pos this]
        have : ¬ fits (uW a) 12 = true := by rw [fa]; simp; omega
        rw [if_neg this]
      · have : ¬ fits (uW b) 2 = true := by rw [fb]; simpa using hb
        rw [if_neg this]
    · have : ¬ fits (uW c) 6 = true := by rw [fc]; simpa using hc
      rw [if_neg this]
  · have : ¬ fits (uW d) 3 = true := by rw [fd]; simpa using hd
    rw [if_neg this]

/-! ### Pages -/
abbrev Ws := Nat → Int
/-- Is there at least one page asked for, and are all there? -/
def inB (n p k : Int) : Bool := decide (1 ≤ k ∧ 0 ≤ p ∧ k ≤ n - p)
theorem inB_iff {n p k : Int} : inB n p k = true ↔ 1 ≤ k ∧ 0 ≤ p ∧ k ≤ n - p := by simp [inB]
theorem inB_no {n p k : Int} : inB n p k = false ↔ ¬ (1 ≤ k ∧ 0 ≤ p ∧ k ≤ n - p) := by simp [inB]
/-- One word turned. -/
def upf (f : Ws) (k : Nat) (x : Int) : Ws := fun i => if i = k then x else f i
/-- So many words turned. -/
def fill (f : Ws) (p k : Nat) (x : Int) : Ws := fun i => if p ≤ i ∧ i < p + k then x else f i
theorem fill_zero (f : Ws) (p : Nat) (x : Int) : fill f p 0 x = f := by funext i; unfold fill; rw [if_neg (by omega)]
theorem fill_succ (f : Ws) (p k : Nat) (x : Int) : fill f p (k + 1) x = upf (fill f p k x) (p + k) x := by
  funext i; unfold fill upf
  by_cases h : i = p + k
  · rw [if_pos (by omega), if_pos h]
  · rw [if_neg h]
    by_cases h2 : p ≤ i ∧ i < p + k
    · rw [if_pos (by omega)]; exact (if_pos h2).symm
    · rw [if_neg (by omega)]; exact (if_neg h2).symm
/-- Have all of so many pages an entry? -/
def allB (f : Ws) (p : Nat) : Nat → Bool
  | 0 => true
  | k + 1 => allB f p k && (f (p + k) != 0)
theorem allB_iff {f : Ws} {p : Nat} : ∀ {k : Nat}, allB f p k = true ↔ ∀ i, i < k → f (p + i) ≠ 0
  | 0 => by simp [allB]
  | k + 1 => by
    rw [allB, Bool.and_eq_true, allB_iff, bne_iff_ne]
    constructor
    · rintro ⟨h1, h2⟩ i hi
      by_cases e : i = k
      · subst e; exact h2
      · exact h1 i (by omega)
    · intro h; exact ⟨fun i hi => h i (by omega), h k (by omega)⟩
theorem allB_no {f : Ws} {p k j : Nat} (hj : j < k) (h : f (p + j) = 0) : allB f p k = false := by
  cases hh : allB f p k
  · rfl
  · exact absurd h (allB_iff.1 hh j hj)
def wAt (n : Int) (f : Ws) (p : Int) : Int := if inB n p 1 = true then f p.toNat else 0
/-- What is known of the pages' words, the stamp and how many pages there are. -/
structure St (n t : Int) (f : Ws) : Prop where
  n0 : 0 ≤ n
  n1 : n ≤ 4096
  t0 : 0 ≤ t
  t1 : t < 1099511627776
  wb : ∀ i, U64 (f i)
  out : ∀ i : Nat, n ≤ (i : Int) → f i = 0
theorem St.at {n t : Int} {f : Ws} (h : St n t f) (p : Int) : U64 (wAt n f p) := by
  unfold wAt; split
  · exact h.wb _
  · exact ⟨by omega, by omega⟩
/-- What Set and Clear answer and leave. -/
def setE (n p k a b c d : Int) : Int := if inB n p k = true ∧ okB a b c d = true then 0 else 11
def clrE (n : Int) (f : Ws) (p k : Int) : Int := if inB n p k = true then (if allB f p.toNat k.toNat = true then 0 else 16) else 11
def setF (t : Int) (f : Ws) (p k a b c d : Int) : Ws := fill f p.toNat k.toNat (wd a b c d (nx t))
def clrF (f : Ws) (p k : Int) : Ws := fill f p.toNat k.toNat 0
theorem St.set {n t : Int} {f : Ws} (h : St n t f) {p k a b c d : Int} (he : setE n p k a b c d = 0) : St n (nx t) (setF t f p k a b c d) := by
  unfold setE at he
  split at he
  · rename_i hh
    obtain ⟨h1, h2⟩ := hh
    obtain ⟨k1, p0, k2⟩ := inB_iff.1 h1
    obtain ⟨n0, n1⟩ := nx_bd t
    refine ⟨h.n0, h.n1, n0, n1, fun i => ?_, fun i hi => ?_⟩
    · unfold setF fill; split
      · exact (wd_bd h2 n0 n1).1
      · exact h.wb i
    · unfold setF fill; rw [if_neg (by omega)]; exact h.out i hi
  · omega
theorem St.clr {n t : Int} {f : Ws} (h : St n t f) {p k : Int} : St n (nx t) (clrF f p k) := by
  obtain ⟨n0, n1⟩ := nx_bd t
  refine ⟨h.n0, h.n1, n0, n1, fun i => ?_, fun i hi => ?_⟩
  · unfold clrF fill; split
    · exact ⟨by omega, by omega⟩
    · exact h.wb i
  · unfold clrF fill; split
    · rfl
    · exact h.out i hi
theorem St.new {n : Int} (h0 : 0 ≤ n) (h1 : n ≤ 4096) : St n 0 (fun _ => 0) := ⟨h0, h1, by omega, by omega, fun _ => ⟨by omega, by omega⟩, fun _ _ => rfl⟩

/-! ### Leaves and counts -/
def lfB (f : Ws) (i : Nat) : Bool := (List.range 64).any fun j => f (64 * i + j) != 0
theorem lfB_iff {f : Ws} {i : Nat} : lfB f i = true ↔ ∃ j, j < 64 ∧ f (64 * i + j) ≠ 0 := by simp [lfB]
theorem lfB_no {f : Ws} {i : Nat} : lfB f i = false ↔ ∀ j, j < 64 → f (64 * i + j) = 0 := by simp [lfB]
def lvs (f : Ws) : Nat → Nat
  | 0 => 0
  | i + 1 => lvs f i + if lfB f i = true then 1 else 0
theorem lvs_le (f : Ws) : ∀ i, lvs f i ≤ i
  | 0 => Nat.le_refl _
  | i + 1 => by have := lvs_le f i; rw [lvs]; split <;> omega
theorem lvs_zero {f : Ws} : ∀ {i : Nat}, (∀ k, k < i → lfB f k = false) → lvs f i = 0
  | 0, _ => rfl
  | i + 1, h => by rw [lvs, lvs_zero (fun k hk => h k (by omega)), h i (by omega)]; rfl
theorem lvs_same {f : Ws} {a : Nat} : ∀ {b : Nat}, a ≤ b → (∀ k, a ≤ k → k < b → lfB f k = false) → lvs f b = lvs f a
  | 0, h, _ => by have : a = 0 := by omega
                  subst this; rfl
  | b + 1, h, hz => by
    by_cases e : a = b + 1
    · subst e; rfl
    · rw [lvs, lvs_same (b := b) (by omega) (fun k h1 h2 => hz k h1 (by omega)), hz b (by omega) (by omega)]; rfl
def hitB (f : Ws) (v s : Int) (i : Nat) : Bool := (f i != 0) && (verOf (f i) == v) && (staOf (f i) == s)
def cnt (f : Ws) (v s : Int) : Nat → Nat
  | 0 => 0
  | i + 1 => cnt f v s i + if hitB f v s i = true then 1 else 0
theorem cnt_le (f : Ws) (v s : Int) : ∀ i, cnt f v s i ≤ i
  | 0 => Nat.le_refl _
  | i + 1 => by have := cnt_le f v s i; rw [cnt]; split <;> omega

end Go.Proofs.YtckcgaliphpgeaaGreatDoor.Ra

/-
  What a map of pages is in memory: laws that the claimed proofs use.
-/
namespace Go.Proofs.YtckcgaliphpgeaaGreatDoor.Ra
set_option maxRecDepth 100000
open Go.RowKit

/-! ### Worlds -/
theorem up_trans {w W w2 : World} (h : Below w.heap.size w W) (h2 : Below W.heap.size W w2) : Below w.heap.size w w2 := h.trans (h2.mono h.size)
theorem i64_in (n : Int) (h0 : -4611686018427387904 ≤ n) (h1 : n ≤ 4611686018427387904) : IntKind.i64.wrap n = n := by rw [IntKind.wrap_i64]; omega
theorem drewN_heap (w : World) : ∀ j, (w.drewN j).heap = w.heap
  | 0 => rfl
  | j + 1 => drewN_heap w j
theorem grown_set (w : World) (g i : Nat) (v : Value) : w.grownBy (w.setCell ⟨g, i, none⟩ v) (some g) :=
  ⟨rfl, rfl, rfl, by simp [World.setCell], fun k _ hr => Below.heap_setCell _ _ _ _ (fun e => hr (by simpa using e))⟩
abbrev Gs := Nat → Option Nat
/-- Of the blocks that there were, q and those that g names alone may have changed. -/
structure Fr (q : Nat) (g : Gs) (w w' : World) : Prop where
  os : w'.os = w.os
  tape : w'.tape = w.tape
  output : w'.output = w.output
  size : w.heap.size ≤ w'.heap.size
  block : ∀ k, k < w.heap.size → k ≠ q → (∀ i, i < 64 → g i ≠ some k) → w'.heap[k]? = w.heap[k]?
/-- What g' names are blocks that g names, or new ones. -/
def Newer (B : Nat) (g g' : Gs) : Prop := ∀ i b, i < 64 → g' i = some b → g i = some b ∨ B ≤ b
theorem Newer.refl (B : Nat) (g : Gs) : Newer B g g := fun _ _ _ h => .inl h
theorem Newer.trans {B B' : Nat} {g g' g'' : Gs} (h : Newer B g g') (k : Newer B' g' g'') (hB : B ≤ B') : Newer B g g'' := fun i b hi e => by
  rcases k i b hi e with e | e
  · exact h i b hi e
  · exact .inr (by omega)
theorem Fr.refl (q : Nat) (g : Gs) (w : World) : Fr q g w w := ⟨rfl, rfl, rfl, Nat.le_refl _, fun _ _ _ _ => rfl⟩
theorem Fr.of {q : Nat} {g : Gs} {a b : World} (h : Below a.heap.size a b) : Fr q g a b := ⟨h.os, h.tape, h.output, h.size, fun k hk _ _ => h.block k hk⟩
theorem Fr.ofq {q : Nat} {g : Gs} {a b : World} (h : a.grownBy b (some q)) : Fr q g a b := ⟨h.os, h.tape, h.output, h.size, fun k hk h1 _ => h.block k hk (by simpa using h1)⟩
theorem Fr.ofg {q i b' : Nat} {g : Gs} {a b : World} (h : a.grownBy b (some b')) (hi : i < 64) (hg : g i = some b') : Fr q g a b :=
  ⟨h.os, h.tape, h.output, h.size, fun k hk _ h2 => h.block k hk (fun e => h2 i hi (by rw [hg, e]))⟩
theorem Fr.trans {q : Nat} {g g' : Gs} {a b c : World} (h : Fr q g a b) (k : Fr q g' b c) (hn : Newer a.heap.size g g') : Fr q g a c :=
  ⟨k.os.trans h.os, k.tape.trans h.tape, k.output.trans h.output, Nat.le_trans h.size k.size, fun i hi h1 h2 => (k.block i (Nat.lt_of_lt_of_le hi h.size) h1 (fun j hj e => by
    rcases hn j i hj e with e | e
    · exact h2 j hj e
    · omega)).trans (h.block i hi h1 h2)⟩
theorem Fr.below {q B : Nat} {g : Gs} {a b : World} (h : Fr q g a b) (h1 : B ≤ q) (h2 : ∀ i b, i < 64 → g i = some b → B ≤ b) (hB : B ≤ a.heap.size) : Below B a b :=
  ⟨h.os, h.tape, h.output, h.size, fun k hk => h.block k (by omega) (by omega) (fun i hi e => by have := h2 i k hi e; omega)⟩

/-! ### Rows of cells -/
def Blk (w : World) (g : Nat) (vs : List Value) (t : TypeId) : Prop := w.heap[g]? = some (.cells vs.toArray t (0, 0))
theorem Blk.cell {w : World} {g i : Nat} {vs : List Value} {t : TypeId} (h : Blk w g vs t) : w.cell? ⟨g, i, none⟩ = vs[i]? := by
  rw [cell_of_row w g i _ t (0, 0) h]; simp
theorem Blk.frozen {w : World} {g : Nat} {vs : List Value} {t : TypeId} (h : Blk w g vs t) (i : Nat) : w.frozen? ⟨g, i, none⟩ = false := frozen_of_row w g i _ t h
theorem Blk.lt {w : World} {g : Nat} {vs : List Value} {t : TypeId} (h : Blk w g vs t) : g < w.heap.size := (Array.getElem?_eq_some_iff.1 h).1
theorem Blk.of {w w' : World} {g : Nat} {vs : List Value} {t : TypeId} (h : Blk w g vs t) (e : w'.heap[g]? = w.heap[g]?) : Blk w' g vs t := e.trans h
theorem Blk.below {B : Nat} {w w' : World} {g : Nat} {vs : List Value} {t : TypeId} (h : Blk w g vs t) (hb : Below B w w') (hg : g < B) : Blk w' g vs t := h.of (hb.block g hg)
theorem Blk.set {w : World} {g i : Nat} {vs : List Value} {t : TypeId} (h : Blk w g vs t) (v : Value) : Blk (w.setCell ⟨g, i, none⟩ v) g (vs.set i v) t := by
  have := heap_setCell_same w g i _ t v h
  unfold Blk
  rw [this]
  simp
theorem Blk.far {w : World} {g g' i : Nat} {vs : List Value} {t : TypeId} (h : Blk w g vs t) (v : Value) (hne : g' ≠ g) : Blk (w.setCell ⟨g', i, none⟩ v) g vs t :=
  h.of (Below.heap_setCell _ _ _ _ (fun e => hne e.symm))
theorem Blk.alloc {w : World} {g : Nat} {vs : List Value} {t : TypeId} (h : Blk w g vs t) (o : Obj) : Blk (w.alloc o) g vs t := h.of (Below.heap_alloc _ _ _ h.lt)
theorem Blk.ne {w : World} {g g' : Nat} {vs vs' : List Value} {t t' : TypeId} (h : Blk w g vs t) (h' : Blk w g' vs' t') (ht : t ≠ t') : g ≠ g' := fun e => by
  subst e
  have : some (Obj.cells vs.toArray t (0, 0)) = some (.cells vs'.toArray t' (0, 0)) := h.symm.trans h'
  injection this with this
  injection this with _ this _
  exact ht this

/-! ### A map of pages -/
def ptr (o : Option Nat) : Value := .pointer (o.map fun b => ⟨b, 0, none⟩)
def ps (g : Gs) : List Value := (List.range 64).map fun i => ptr (g i)
def mc (n t : Int) (g : Gs) : List Value := .int .i64 n :: .int .u64 t :: ps g
def lw (f : Ws) (i : Nat) : List Value := (List.range 64).map fun j => .int .u64 (f (64 * i + j))
theorem ps_at (g : Gs) {i : Nat} (h : i < 64) : (ps g)[i]? = some (ptr (g i)) := by unfold ps; rw [List.getElem?_map, List.getElem?_range h]; rfl
theorem mc_at (n t : Int) (g : Gs) {i : Nat} (h : i < 64) : (mc n t g)[2 + i]? = some (ptr (g i)) := by
  unfold mc; rw [Nat.add_comm, List.getElem?_cons_succ, List.getElem?_cons_succ, ps_at g h]
theorem lw_at (f : Ws) (i : Nat) {j : Nat} (h : j < 64) : (lw f i)[j]? = some (.int .u64 (f (64 * i + j))) := by unfold lw; rw [List.getElem?_map, List.getElem?_range h]; rfl
def upg (g : Gs) (k : Nat) (o : Option Nat) : Gs := fun i => if i = k then o else g i
theorem map_set {α : Type} (f g : Nat → α) (k : Nat) (v : α) (h : ∀ i, i < 64 → f i = if i = k then v else g i) : ((List.range 64).map g).set k v = (List.range 64).map f := by
  apply List.ext_getElem?
  intro i
  rw [List.getElem?_set]
  simp only [List.length_map, List.length_range, List.getElem?_map]
  by_cases hi : i < 64
  · rw [List.getElem?_range hi]
    by_cases hk : k = i
    · subst hk; rw [if_pos rfl, if_pos hi]; simp [h k hi]
    · rw [if_neg hk]; simp [h i hi, Ne.symm hk]
  · rw [List.getElem?_eq_none (by simp; omega)]
    by_cases hk : k = i
    · subst hk; rw [if_pos rfl, if_neg hi]; simp
    · rw [if_neg hk]; simp
theorem ps_set (g : Gs) (k : Nat) (o : Option Nat) : (ps g).set k (ptr o) = ps (upg g k o) := by
  unfold ps; exact map_set _ _ _ _ (fun i _ => by unfold upg; split <;> rfl)
theorem mc_set (n t : Int) (g : Gs) (k : Nat) (o : Option Nat) : (mc n t g).set (2 + k) (ptr o) = mc n t (upg g k o) := by
  unfold mc; rw [Nat.add_comm, List.set_cons_succ, List.set_cons_succ, ps_set]
theorem mc_stamp (n t t' : Int) (g : Gs) : (mc n t g).set 1 (.int .u64 t') = mc n t' g := rfl
theorem lw_set (f : Ws) (i j : Nat) (x : Int) : (lw f i).set j (.int .u64 x) = lw (upf f (64 * i + j) x) i := by
  unfold lw; exact map_set _ _ _ _ (fun k _ => by
    unfold upf
    by_cases e : k = j
    · rw [if_pos (by omega), if_pos e]
    · rw [if_neg (by omega), if_neg e])
theorem lw_same {f f' : Ws} {i : Nat} (h : ∀ j, j < 64 → f (64 * i + j) = f' (64 * i + j)) : lw f i = lw f' i := by
  unfold lw; apply List.map_congr_left; intro j hj; rw [h j (by simpa using hj)]
theorem lw_far {f : Ws} {i k : Nat} (x : Int) (h : k / 64 ≠ i) : lw (upf f k x) i = lw f i := lw_same fun j hj => by
  unfold upf; rw [if_neg (fun e => h (by omega))]
/-- The map at q has pages' words f, in leaves that g names, and the stamp t. -/
structure Lay (w : World) (q : Nat) (n t : Int) (g : Gs) (f : Ws) : Prop where
  blk : Blk w q (mc n t g) 171
  leaf : ∀ i b, i < 64 → g i = some b → Blk w b (lw f i) 212
  none : ∀ i, i < 64 → g i = none → ∀ j, j < 64 → f (64 * i + j) = 0
  one : ∀ i j b, i < 64 → j < 64 → g i = some b → g j = some b → i = j
/-- A leaf is kept just if one of its pages has an entry. -/
def Kept (g : Gs) (f : Ws) : Prop := ∀ i, i < 64 → (g i).isSome = lfB f i
section
variable {w w' : World} {q : Nat} {n t : Int} {g : Gs} {f : Ws}
theorem Lay.of (h : Lay w q n t g f) (h1 : w'.heap[q]? = w.heap[q]?) (h2 : ∀ i b, i < 64 → g i = some b → w'.heap[b]? = w.heap[b]?) : Lay w' q n t g f :=
  ⟨h.blk.of h1, fun i b hi e => (h.leaf i b hi e).of (h2 i b hi e), h.none, h.one⟩
theorem Lay.below (h : Lay w q n t g f) (hb : Below w.heap.size w w') : Lay w' q n t g f :=
  h.of (hb.block q h.blk.lt) (fun i b hi e => hb.block b (h.leaf i b hi e).lt)
theorem Lay.ne (h : Lay w q n t g f) {i b : Nat} (hi : i < 64) (hb : g i = some b) : b ≠ q := (h.leaf i b hi hb).ne h.blk (by decide)
/-- A map that shares no block with what has changed is as it was. -/
theorem Lay.apart {q' : Nat} {g' : Gs} (h : Lay w q n t g f) (hf : Fr q' g' w w') (hq : q ≠ q') (h1 : ∀ i, i < 64 → g' i ≠ some q) (h2 : ∀ i b, i < 64 → g i = some b → b ≠ q' ∧ ∀ j, j < 64 → g' j ≠ some b) : Lay w' q n t g f :=
  h.of (hf.block q h.blk.lt hq h1) (fun i b hi e => hf.block b (h.leaf i b hi e).lt (h2 i b hi e).1 (h2 i b hi e).2)
theorem Lay.stamp (h : Lay w q n t g f) (t' : Int) : Lay (w.setCell ⟨q, 1, .none⟩ (.int .u64 t')) q n t' g f :=
  ⟨by have := h.blk.set (i := 1) (.int .u64 t'); rwa [mc_stamp] at this, fun i b hi e => (h.leaf i b hi e).far _ (h.ne hi e).symm, h.none, h.one⟩
theorem Lay.put (h : Lay w q n t g f) {i j b : Nat} (hi : i < 64) (hj : j < 64) (hb : g i = some b) (x : Int) : Lay (w.setCell ⟨b, j, .none⟩ (.int .u64 x)) q n t g (upf f (64 * i + j) x) := by
  refine ⟨h.blk.far _ (h.ne hi hb), fun k c hk e => ?_, fun k hk e m hm => ?_, h.one⟩
  · by_cases ek : k = i
    · subst ek
      obtain rfl : b = c := by rw [hb] at e; exact Option.some.inj e
      have := (h.leaf k b hk hb).set (i := j) (.int .u64 x)
      rwa [lw_set] at this
    · have hc : b ≠ c := fun ec => ek (h.one k i c hk hi e (by rw [hb, ec]))
      have := (h.leaf k c hk e).far (i := j) (.int .u64 x) hc
      rwa [lw_far x (by omega)]
  · unfold upf
    rw [if_neg (fun ee => by have : k = i := by omega
                             rw [this, hb] at e; cases e)]
    exact h.none k hk e m hm
theorem lw_zero {f : Ws} {i : Nat} (h : ∀ j, j < 64 → f (64 * i + j) = 0) : lw f i = lw (fun _ => 0) 0 := by
  unfold lw; apply List.map_congr_left; intro j hj; rw [h j (by simpa using hj)]
theorem Lay.grow (h : Lay w q n t g f) {i : Nat} (hi : i < 64) (hg : g i = .none) :
    Lay ((w.setCell ⟨q, 2 + i, .none⟩ (.pointer (some ⟨w.heap.size, 0, .none⟩))).alloc (.cells (lw (fun _ => 0) 0).toArray 212)) q n t (upg g i (some w.heap.size)) f := by
  have hsz : (w.setCell ⟨q, 2 + i, .none⟩ (.pointer (some ⟨w.heap.size, 0, .none⟩))).heap.size = w.heap.size := by simp [World.setCell]
  refine ⟨?_, fun k c hk e => ?_, fun k hk e => ?_, fun k k' c hk hk' e e' => ?_⟩
  · have := (h.blk.set (i := 2 + i) (ptr (some w.heap.size))).alloc (.cells (lw (fun _ => 0) 0).toArray 212)
    rwa [mc_set] at this
  · unfold upg at e
    by_cases ek : k = i
    · rw [if_pos ek] at e
      obtain rfl := Option.some.inj e
      subst ek
      rw [lw_zero (h.none k hk hg)]
      have := heap_alloc_last (w.setCell ⟨q, 2 + k, .none⟩ (.pointer (some ⟨w.heap.size, 0, .none⟩))) (.cells (lw (fun _ => 0) 0).toArray 212)
      rw [hsz] at this
      exact this
    · rw [if_neg ek] at e
      exact ((h.leaf k c hk e).far _ (h.ne hk e).symm).alloc _
  · unfold upg at e
    by_cases ek : k = i
    · rw [if_pos ek] at e; cases e
    · rw [if_neg ek] at e; exact h.none k hk e
  · unfold upg at e e'
    by_cases ek : k = i
    · by_cases ek' : k' = i
      · omega
      · rw [if_pos ek] at e; rw [if_neg ek'] at e'
        obtain rfl := Option.some.inj e
        have := (h.leaf k' _ hk' e').lt; omega
    · rw [if_neg ek] at e
      by_cases ek' : k' = i
      · rw [if_pos ek'] at e'
        obtain rfl := Option.some.inj e'
        have := (h.leaf k _ hk e).lt; omega
      · rw [if_neg ek'] at e'; exact h.one k k' c hk hk' e e'
theorem Lay.drop (h : Lay w q n t g f) {i : Nat} (hf : lfB f i = false) : Lay (w.setCell ⟨q, 2 + i, .none⟩ (.pointer .none)) q n t (upg g i .none) f := by
  refine ⟨?_, fun k c hk e => ?_, fun k hk e => ?_, fun k k' c hk hk' e e' => ?_⟩
  · have := h.blk.set (i := 2 + i) (ptr .none)
    rwa [mc_set] at this
  · unfold upg at e
    by_cases ek : k = i
    · rw [if_pos ek] at e; cases e
    · rw [if_neg ek] at e
      exact (h.leaf k c hk e).far _ (h.ne hk e).symm
  · by_cases ek : k = i
    · rw [ek]; exact lfB_no.1 hf
    · unfold upg at e; rw [if_neg ek] at e; exact h.none k hk e
  · unfold upg at e e'
    by_cases ek : k = i
    · rw [if_pos ek] at e; cases e
    · by_cases ek' : k' = i
      · rw [if_pos ek'] at e'; cases e'
      · rw [if_neg ek] at e; rw [if_neg ek'] at e'; exact h.one k k' c hk hk' e e'
theorem newer_grow (B b : Nat) (i : Nat) (g : Gs) (h : B ≤ b) : Newer B g (upg g i (some b)) := fun k c _ e => by
  unfold upg at e; split at e
  · obtain rfl := Option.some.inj e; exact .inr h
  · exact .inl e
theorem newer_drop (B : Nat) (i : Nat) (g : Gs) : Newer B g (upg g i none) := fun k c _ e => by
  unfold upg at e; split at e
  · cases e
  · exact .inl e
/-- What the map's cells read as. -/
theorem Lay.c0 (h : Lay w q n t g f) : w.cell? ⟨q, 0, .none⟩ = some (.int .i64 n) := h.blk.cell
theorem Lay.c1 (h : Lay w q n t g f) : w.cell? ⟨q, 1, .none⟩ = some (.int .u64 t) := h.blk.cell
theorem Lay.cp (h : Lay w q n t g f) {i : Nat} (hi : i < 64) : w.cell? ⟨q, 2 + i, .none⟩ = some (ptr (g i)) := by rw [h.blk.cell, mc_at n t g hi]
theorem Lay.cw (h : Lay w q n t g f) {i j b : Nat} (hi : i < 64) (hj : j < 64) (hb : g i = some b) : w.cell? ⟨b, j, .none⟩ = some (.int .u64 (f (64 * i + j))) := by rw [(h.leaf i b hi hb).cell, lw_at f i hj]
end

/-! ### Operations on many cells -/
section
variable {P : Program} {ops : Array Oper} {rest : List Oper} {o : Oper} {a : Act} {w : World} {Q : Exit → Act → World → Prop}
theorem wpList_alloc_big (hg : o.guard = none) (t : TypeId) (ho : o.op = .alloc t) (cells : Array Value) (hz : ∀ w, (zeroValue t).run P w = .ok (.agg cells) w)
    (h : wpList P ops Q rest (a.put o.dst (.pointer (some ⟨w.heap.size, 0, none⟩))) (w.alloc (.cells cells t))) : wpList P ops Q (o :: rest) a w := by
  refine wpList_plain hg fun K hK => ?_
  unfold Oper.wp execOp
  simp only [ho, Sem.run_bind, Instr.alloc, hz, newVar, newRow, run_newObj_alloc, Sem.run_pure, Result.andThen_ok, Value.cells]
  exact hK _ _ h
theorem wpList_box_big (hg : o.guard = none) (t : TypeId) (x : Operand) (ho : o.op = .box t x) (cells : Array Value) (hx : a.eval x = .agg cells)
    (h : wpList P ops Q rest (a.put o.dst (.pointer (some ⟨w.heap.size, 0, none⟩))) (w.alloc (.cells cells t))) : wpList P ops Q (o :: rest) a w := by
  refine wpList_plain hg fun K hK => ?_
  unfold Oper.wp execOp
  simp only [ho, hx, Sem.run_bind, Instr.box, newVar, newRow, run_newObj_alloc, Sem.run_pure, Result.andThen_ok, Value.cells]
  exact hK _ _ h
/-- A store of a whole value into the block that was made last. -/
theorem wpList_store_last (hgd : o.guard = none) (ty : TypeId) (x y : Operand) (ho : o.op = .store ty x y) (w : World)
    (cells : Array Value) (hx : a.eval x = .pointer (some ⟨w.heap.size, 0, none⟩)) (hy : a.eval y = .agg cells)
    (t : TypeId) (old : Array Value) (hi : (P.info? ty).map (·.size) = some cells.size) (hold : old.size = cells.size) (h1 : cells.all (·.oneCell') = true)
    (h : wpList P ops Q rest (a.put o.dst undef) (w.alloc (.cells cells t))) : wpList P ops Q (o :: rest) a (w.alloc (.cells old t)) := by
  refine wpList_store_row hgd ty x y ho w.heap.size cells hx hy t old (heap_alloc_last w _) hi hold h1 ?_
  rw [World.setRow_alloc_new]
  exact h
end
end Go.Proofs.YtckcgaliphpgeaaGreatDoor.Ra

/-
  What a map of pages is asked: contracts that the claimed proofs use.
-/
namespace Go.Proofs.YtckcgaliphpgeaaGreatDoor.Ra
set_option maxRecDepth 100000
open Go.RowKit

section
variable {w : World} {q : Nat} {n t : Int} {g : Gs} {f : Ws}
theorem has_any (p k : Int) (h : Lay w q n t g f) (hs : St n t f) (hp : I64 p) :
    Calls Tryz.prog 128 #[.pointer (some ⟨q, 0, none⟩), .int .i64 p, .int .i64 k] w fun e w' => e = .returned (.bool (inB n p k)) ∧ w = w' := by
  have c0 := h.c0
  have n0 := hs.n0
  have n1 := hs.n1
  clear h hs
  by_cases h0 : 1 ≤ k
  · have d0 : decide (1 ≤ k) = true := by simpa using h0
    by_cases h1 : 0 ≤ p
    · have d1 : decide (0 ≤ p) = true := by simpa using h1
      have e : inB n p k = decide (k ≤ n - p) := by unfold inB; rw [decide_eq_decide]; omega
      rw [e]
      have hw : IntKind.i64.wrap (n - p) = n - p := by rw [IntKind.wrap_i64]; unfold I64 at hp; omega
      clear hp e
      go_enter Tryz.func128, Tryz.ntmps128
      go_wp2
      go_ret
      exact ⟨rfl, rfl⟩
    · have d1 : decide (0 ≤ p) = false := by simpa using h1
      have e : inB n p k = false := inB_no.2 (by omega)
      rw [e]
      clear hp
      go_enter Tryz.func128, Tryz.ntmps128
      go_wp2
      go_ret
      exact ⟨rfl, rfl⟩
  · have d0 : decide (1 ≤ k) = false := by simpa using h0
    have e : inB n p k = false := inB_no.2 (by omega)
    rw [e]
    clear hp
    go_enter Tryz.func128, Tryz.ntmps128
    go_wp2
    go_ret
    exact ⟨rfl, rfl⟩
theorem next_any (h : Lay w q n t g f) (hs : St n t f) :
    Calls Tryz.prog 126 #[.pointer (some ⟨q, 0, none⟩)] w fun e w' => e = .returned (.int .u64 (nx t)) ∧ w = w' := by
  have c1 := h.c1
  have t0 := hs.t0
  have t1 := hs.t1
  have hw : IntKind.u64.wrap (t + 1) = t + 1 := by rw [IntKind.wrap_u64]; omega
  clear h hs
  go_enter Tryz.func126, Tryz.ntmps126
  go_wp2
  go_ret
  exact ⟨ret_u (by unfold nx; rfl), rfl⟩
theorem ptr_none : ptr none = .pointer none := rfl
theorem ptr_some (b : Nat) : ptr (some b) = .pointer (some ⟨b, 0, none⟩) := rfl
theorem wAt_in {p : Nat} (h : (p : Int) < n) : wAt n f p = f p := by unfold wAt; rw [if_pos (inB_iff.2 (by omega)), Int.toNat_natCast]
theorem wAt_out {p : Int} (h : inB n p 1 = false) : wAt n f p = 0 := by unfold wAt; rw [h]; rfl
theorem word_any (p : Int) (h : Lay w q n t g f) (hs : St n t f) (hp : I64 p) :
    Calls Tryz.prog 91 #[.pointer (some ⟨q, 0, none⟩), .int .i64 p] w fun e w' => e = .returned (.int .u64 (wAt n f p)) ∧ w = w' := by
  have HH := Lib.hid (has_any p 1 h hs hp)
  cases hb : inB n p 1 with
  | false =>
    rw [hb] at HH
    rw [wAt_out hb]
    clear h hs hp hb
    go_enter Tryz.func91, Tryz.ntmps91
    go_wp2_with (go_at_call 128; refine HH.out.mono ?_; rintro e w' ⟨rfl, rfl⟩)
    go_ret
    exact ⟨rfl, rfl⟩
  | true =>
    rw [hb] at HH
    obtain ⟨_, p0, p1⟩ := inB_iff.1 hb
    obtain ⟨k, rfl⟩ : ∃ k : Nat, p = (k : Int) := ⟨p.toNat, by omega⟩
    rw [wAt_in (by omega)]
    have n1 := hs.n1
    obtain ⟨i, hi⟩ : ∃ i, k / 64 = i := ⟨_, rfl⟩
    obtain ⟨j, hj⟩ : ∃ j, k % 64 = j := ⟨_, rfl⟩
    have hi64 : i < 64 := by omega
    have hj64 : j < 64 := by omega
    have ek : 64 * i + j = k := by omega
    have e1 : (k : Int) / 64 = (i : Int) := by omega
    have e2 : (k : Int) % 64 = (j : Int) := by omega
    have cp := h.cp hi64
    cases hgi : g i with
    | none =>
      have hz := h.none i hi64 hgi j hj64
      rw [ek] at hz
      rw [hz]
      rw [hgi, ptr_none] at cp
      clear h hs hp hb hi hj ek hz hgi
      go_enter Tryz.func91, Tryz.ntmps91
      go_wp2_with (go_at_call 128; refine HH.out.mono ?_; rintro e w' ⟨rfl, rfl⟩)
      go_ret
      exact ⟨rfl, rfl⟩
    | some b =>
      have cw := h.cw hi64 hj64 hgi
      rw [ek] at cw
      rw [hgi, ptr_some] at cp
      generalize f k = x at *
      clear h hs hp hb hi hj ek hgi
      go_enter Tryz.func91, Tryz.ntmps91
      go_wp2_with (go_at_call 128; refine HH.out.mono ?_; rintro e w' ⟨rfl, rfl⟩)
      go_ret
      exact ⟨rfl, rfl⟩
end

/-! ### Words and their fields -/
def flV : Value := .agg #[.int .i64 0, .int .i64 1, .int .i64 1, .int .i64 3, .int .i64 4, .int .i64 6, .int .i64 10, .int .i64 2, .int .i64 12, .int .i64 12, .int .i64 24, .int .i64 40]
theorem layout_any (w : World) :
    Calls Tryz.prog 137 #[] w fun e w' => e = .returned flV ∧ Below w.heap.size w w' := by
  go_enter Tryz.func137, Tryz.ntmps137
  go_wp2
  exact bodyPost_ret (v := flV) (by simp [results, Tryz.results32, go_sem, flV]) rfl ⟨rfl, up_alloc (Below.refl _ w) _⟩
end Go.Proofs.YtckcgaliphpgeaaGreatDoor.Ra

/-
  Entries and their words: contracts that the claimed proofs use.
-/
namespace Go.Proofs.YtckcgaliphpgeaaGreatDoor.Ra
set_option maxRecDepth 100000
open Go.RowKit

/-! ### A field of a word -/
theorem value_of (X k s m R : Int) (w : World) (hX : U64 X) (hr : rightB s m = true) (hm : m ≤ 40) (hidx : ∀ w : World, (Instr.index 195 flV (.int .i64 k)).run Tryz.prog w = .ok (.agg #[.int .i64 s, .int .i64 m]) w) (hR : X / 2 ^ s.toNat % 2 ^ m.toNat = R) :
    Calls Tryz.prog 92 #[.int .u64 X, .int .i64 k] w fun e w' => e = .returned (.int .i64 R) ∧ Below w.heap.size w w' := by
  have e0 := u_uW_in hX
  obtain ⟨h0, h1, h2, h3⟩ := rightB_iff.1 hr
  have e1 : u (getW (uW X) s.toNat m.toNat) = R := by rw [get_num _ _ _ (by omega), e0, hR]
  have HG := Lib.hid (fun w => get_yes (uW X) s m w hr)
  have b0 : 0 ≤ R := by rw [← e1]; exact u_nonneg _
  have b1 : R < 1099511627776 := by
    rw [← hR]
    have p : (2 : Int) ^ m.toNat = ((2 ^ m.toNat : Nat) : Int) := by rw [Int.natCast_pow]; rfl
    have p2 : 2 ^ m.toNat ≤ 2 ^ 40 := Nat.pow_le_pow_right (by omega) (by omega)
    have p3 : 0 < 2 ^ m.toNat := Nat.two_pow_pos _
    rw [p]
    have := Int.emod_lt_of_pos (X / 2 ^ s.toNat) (b := ((2 ^ m.toNat : Nat) : Int)) (by omega)
    omega
  rw [e0, e1] at HG
  have hw := i64_in R (by omega) (by omega)
  clear hX hr e0 e1 hR h0 h1 h2 h3
  go_enter Tryz.func92, Tryz.ntmps92
  go_wp2_with fail
  refine (layout_any w).mono ?_
  rintro e w1 ⟨rfl, b1⟩
  have B1 := Lib.hid b1
  clear b1
  go_wp2_with fail
  refine (HG.out _).mono ?_
  rintro e w2 ⟨rfl, b2⟩
  have B2 := Lib.hid (up_trans B1.out b2)
  clear b2
  go_wp2
  go_ret
  exact ⟨rfl, B2.out⟩
section
variable {X : Int} {w : World}
theorem value_span (hX : U64 X) : Calls Tryz.prog 92 #[.int .u64 X, .int .i64 4] w fun e w' => e = .returned (.int .i64 (spanOf X)) ∧ Below w.heap.size w w' :=
  value_of X 4 12 12 _ w hX (by decide) (by decide) (fun w => by kernel_rfl) rfl
theorem value_ver (hX : U64 X) : Calls Tryz.prog 92 #[.int .u64 X, .int .i64 3] w fun e w' => e = .returned (.int .i64 (verOf X)) ∧ Below w.heap.size w w' :=
  value_of X 3 10 2 _ w hX (by decide) (by decide) (fun w => by kernel_rfl) rfl
theorem value_cls (hX : U64 X) : Calls Tryz.prog 92 #[.int .u64 X, .int .i64 2] w fun e w' => e = .returned (.int .i64 (clsOf X)) ∧ Below w.heap.size w w' :=
  value_of X 2 4 6 _ w hX (by decide) (by decide) (fun w => by kernel_rfl) rfl
theorem value_sta (hX : U64 X) : Calls Tryz.prog 92 #[.int .u64 X, .int .i64 1] w fun e w' => e = .returned (.int .i64 (staOf X)) ∧ Below w.heap.size w w' :=
  value_of X 1 1 3 _ w hX (by decide) (by decide) (fun w => by kernel_rfl) rfl
end

/-! ### An entry's word -/
theorem fl_at {w : World} {b : Nat} (h : Blk w b [.int .i64 0, .int .i64 1, .int .i64 1, .int .i64 3, .int .i64 4, .int .i64 6, .int .i64 10, .int .i64 2, .int .i64 12, .int .i64 12, .int .i64 24, .int .i64 40] 195) : FAt w b 0 fl := fun i hi => by
  have hi' : i < 6 := hi
  rcases (by omega : i = 0 ∨ i = 1 ∨ i = 2 ∨ i = 3 ∨ i = 4 ∨ i = 5) with rfl | rfl | rfl | rfl | rfl | rfl <;> exact ⟨h.cell, h.cell⟩
theorem vl_at {w : World} {v : Nat} {a b c d t : Int} (ht : U64 t) (h : Blk w v [.int .u64 1, .int .u64 (u (uW d)), .int .u64 (u (uW c)), .int .u64 (u (uW b)), .int .u64 (u (uW a)), .int .u64 t] 208) : WAt w v 0 (vl a b c d (uW t)) := fun i hi => by
  have hi' : i < 6 := hi
  have e0 := u_uW_in ht
  rcases (by omega : i = 0 ∨ i = 1 ∨ i = 2 ∨ i = 3 ∨ i = 4 ∨ i = 5) with rfl | rfl | rfl | rfl | rfl | rfl
  · exact h.cell
  · exact h.cell
  · exact h.cell
  · exact h.cell
  · exact h.cell
  · have : w.cell? ⟨v, 0 + 5, none⟩ = some (.int .u64 t) := h.cell
    rw [this]; show _ = some (Value.int .u64 (u (uW t))); rw [e0]
/-- What Pack answers of an entry's fields. -/
def wordV (a b c d t : Int) : Value := if okB a b c d = true then .tuple #[.int .u64 (wd a b c d t), .bool true] else .tuple #[.int .u64 0, .bool false]
theorem pack_entry {w : World} {b v : Nat} {a b' c d t : Int} (ia : I64 a) (ib : I64 b') (ic : I64 c) (id : I64 d) (t0 : 0 ≤ t) (t1 : t < 1099511627776)
    (h : Blk w b [.int .i64 0, .int .i64 1, .int .i64 1, .int .i64 3, .int .i64 4, .int .i64 6, .int .i64 10, .int .i64 2, .int .i64 12, .int .i64 12, .int .i64 24, .int .i64 40] 195)
    (hv : Blk w v [.int .u64 1, .int .u64 (u (uW d)), .int .u64 (u (uW c)), .int .u64 (u (uW b')), .int .u64 (u (uW a)), .int .u64 t] 208) :
    Calls Tryz.prog 163 #[.slice (some ⟨b, 0, none⟩) 6 6, .slice (some ⟨v, 0, none⟩) 6 6] w fun e w' => e = .returned (wordV a b' c d t) ∧ Below w.heap.size w w' := by
  have hu : U64 t := ⟨t0, by omega⟩
  have e0 := u_uW_in hu
  refine (pack_some b 0 v 0 fl (vl a b' c d (uW t)) 6 6 w rfl h.lt hv.lt (fl_at h) (vl_at hu hv) (by decide) fl_apart).mono ?_
  rintro e w' ⟨rfl, hb⟩
  refine ⟨?_, hb⟩
  unfold wordV
  cases hok : okB a b' c d with
  | true =>
    obtain ⟨y, hy, hw⟩ := pack_ok (t := uW t) hok (by rw [e0]; exact t1)
    rw [hy, if_pos rfl]
    rw [e0] at hw
    simp only [hw]
  | false =>
    rw [pack_no hok ia ib ic id]
    rfl
theorem wordV_is (a b c d t : Int) : ∃ X o, wordV a b c d t = .tuple #[.int .u64 X, .bool o] := by
  unfold wordV; split <;> exact ⟨_, _, rfl⟩
theorem wordOf_any (a b c d t : Int) (w : World) (ia : I64 a) (ib : I64 b) (ic : I64 c) (id : I64 d) (t0 : 0 ≤ t) (t1 : t < 1099511627776) :
    Calls Tryz.prog 127 #[.agg #[.int .i64 a, .int .i64 b, .int .i64 c, .int .i64 d], .int .u64 t] w fun e w' => e = .returned (wordV a b c d t) ∧ Below w.heap.size w w' := by
  have ea := uW_raw a
  have eb := uW_raw b
  have ec := uW_raw c
  have ed := uW_raw d
  have B0 := Lib.hid (up_alloc (Below.refl _ w) (.cells #[.int .i64 a, .int .i64 b, .int .i64 c, .int .i64 d] 44))
  have K0 : Hid (Blk (w.alloc (.cells #[.int .i64 a, .int .i64 b, .int .i64 c, .int .i64 d] 44)) w.heap.size [.int .i64 a, .int .i64 b, .int .i64 c, .int .i64 d] 44) := heap_alloc_last w _
  have HP : Hid (∀ (W : World) (b' v : Nat), _ → _ → _) := fun (W : World) (b' v : Nat) h1 h2 => pack_entry (w := W) (b := b') (v := v) ia ib ic id t0 t1 h1 h2
  obtain ⟨X, o, hV⟩ := wordV_is a b c d t
  rw [hV] at HP ⊢
  clear ia ib ic id hV
  go_enter Tryz.func127, Tryz.ntmps127
  go_wp2_with fail
  generalize w.alloc (.cells #[.int .i64 a, .int .i64 b, .int .i64 c, .int .i64 d] 44) = W0 at B0 K0 ⊢
  refine (layout_any W0).mono ?_
  rintro e w1 ⟨rfl, b1⟩
  have B1 := Lib.hid (up_trans B0.out b1)
  have K1 := Lib.hid (K0.out.below b1 K0.out.lt)
  clear b1 B0 K0
  have c0 : w1.cell? ⟨w.heap.size, 0, none⟩ = some (.int .i64 a) := K1.out.cell
  have c1 : w1.cell? ⟨w.heap.size, 1, none⟩ = some (.int .i64 b) := K1.out.cell
  have c2 : w1.cell? ⟨w.heap.size, 2, none⟩ = some (.int .i64 c) := K1.out.cell
  have c3 : w1.cell? ⟨w.heap.size, 3, none⟩ = some (.int .i64 d) := K1.out.cell
  have hlt := K1.out.lt
  unfold flV
  go_wp2_with fail
  have H74 : Hid (Blk ((w1.alloc (.cells #[.int .i64 0, .int .i64 1, .int .i64 1, .int .i64 3, .int .i64 4, .int .i64 6, .int .i64 10, .int .i64 2, .int .i64 12, .int .i64 12, .int .i64 24, .int .i64 40] 195)).alloc (.cells #[.int .u64 1, .int .u64 (u (uW d)), .int .u64 (u (uW c)), .int .u64 (u (uW b)), .int .u64 (u (uW a)), .int .u64 t] 208)) w1.heap.size _ 195) := Blk.alloc (heap_alloc_last w1 _) _
  have H76 : Hid (Blk ((w1.alloc (.cells #[.int .i64 0, .int .i64 1, .int .i64 1, .int .i64 3, .int .i64 4, .int .i64 6, .int .i64 10, .int .i64 2, .int .i64 12, .int .i64 12, .int .i64 24, .int .i64 40] 195)).alloc (.cells #[.int .u64 1, .int .u64 (u (uW d)), .int .u64 (u (uW c)), .int .u64 (u (uW b)), .int .u64 (u (uW a)), .int .u64 t] 208)) (w1.heap.size + 1) _ 208) := heap_alloc2_new w1 _ _
  have B2 : Hid (Below w.heap.size w ((w1.alloc (.cells #[.int .i64 0, .int .i64 1, .int .i64 1, .int .i64 3, .int .i64 4, .int .i64 6, .int .i64 10, .int .i64 2, .int .i64 12, .int .i64 12, .int .i64 24, .int .i64 40] 195)).alloc (.cells #[.int .u64 1, .int .u64 (u (uW d)), .int .u64 (u (uW c)), .int .u64 (u (uW b)), .int .u64 (u (uW a)), .int .u64 t] 208))) := up_alloc (up_alloc B1.out _) _
  generalize ((w1.alloc (.cells #[.int .i64 0, .int .i64 1, .int .i64 1, .int .i64 3, .int .i64 4, .int .i64 6, .int .i64 10, .int .i64 2, .int .i64 12, .int .i64 12, .int .i64 24, .int .i64 40] 195)).alloc (.cells #[.int .u64 1, .int .u64 (u (uW d)), .int .u64 (u (uW c)), .int .u64 (u (uW b)), .int .u64 (u (uW a)), .int .u64 t] 208)) = W2 at H74 H76 B2 ⊢
  clear c0 c1 c2 c3 hlt K1 B1
  go_region_with (go_at_call 163; refine (HP.out W2.drew _ _ H74.out H76.out).mono ?_; rintro e w3 ⟨rfl, b3⟩)
  all_goals (
    have B3 := Lib.hid (up_trans (up_drew B2.out 1) b3)
    clear b3
    go_wp2
    go_ret2
    exact ⟨rfl, B3.out⟩)

/-! ### What Get tells -/
def entV (X : Int) : Value := .agg #[.int .i64 (spanOf X), .int .i64 (verOf X), .int .i64 (clsOf X), .int .i64 (staOf X)]
theorem four_set {W : World} {b t : Nat} {x0 x1 x2 x3 : Value} (h : Blk W b [x0, x1, x2, x3] t) (v0 v1 v2 v3 : Value) :
    Blk ((((W.setCell ⟨b, 0, none⟩ v0).setCell ⟨b, 1, none⟩ v1).setCell ⟨b, 2, none⟩ v2).setCell ⟨b, 3, none⟩ v3) b [v0, v1, v2, v3] t := (((h.set (i := 0) v0).set (i := 1) v1).set (i := 2) v2).set (i := 3) v3
theorem four_below {w W : World} {b : Nat} (h : Below w.heap.size w W) (hb : w.heap.size ≤ b) (v0 v1 v2 v3 : Value) :
    Below w.heap.size w ((((W.setCell ⟨b, 0, none⟩ v0).setCell ⟨b, 1, none⟩ v1).setCell ⟨b, 2, none⟩ v2).setCell ⟨b, 3, none⟩ v3) := (((h.setCell hb _).setCell hb _).setCell hb _).setCell hb _
theorem get_any {w : World} {q : Nat} {n t : Int} {g : Gs} {f : Ws} (p : Int) (h : Lay w q n t g f) (hs : St n t f) (hp : I64 p) :
    Calls Tryz.prog 44 #[.pointer (some ⟨q, 0, none⟩), .int .i64 p] w fun e w' => e = .returned (.tuple #[entV (wAt n f p), .bool (wAt n f p != 0)]) ∧ Below w.heap.size w w' := by
  have B0 := Lib.hid (up_alloc (Below.refl _ w) (.cells #[.int .i64 0, .int .i64 0, .int .i64 0, .int .i64 0] 44))
  have K0 : Hid (Blk (w.alloc (.cells #[.int .i64 0, .int .i64 0, .int .i64 0, .int .i64 0] 44)) w.heap.size [.int .i64 0, .int .i64 0, .int .i64 0, .int .i64 0] 44) := heap_alloc_last w _
  have HW := Lib.hid (word_any p (h.below B0.out) hs hp)
  have HU := Lib.hid (hs.at p)
  generalize wAt n f p = X at HW HU ⊢
  clear h hs hp
  by_cases hX : X = 0
  · subst hX
    go_enter Tryz.func44, Tryz.ntmps44
    go_wp2_with fail
    generalize w.alloc (.cells #[.int .i64 0, .int .i64 0, .int .i64 0, .int .i64 0] 44) = W0 at B0 K0 HW ⊢
    refine HW.out.mono ?_
    rintro e w1 ⟨rfl, rfl⟩
    have c0 : W0.cell? ⟨w.heap.size, 0, none⟩ = some (.int .i64 0) := K0.out.cell
    have c1 : W0.cell? ⟨w.heap.size, 1, none⟩ = some (.int .i64 0) := K0.out.cell
    have c2 : W0.cell? ⟨w.heap.size, 2, none⟩ = some (.int .i64 0) := K0.out.cell
    have c3 : W0.cell? ⟨w.heap.size, 3, none⟩ = some (.int .i64 0) := K0.out.cell
    have f0 := K0.out.frozen 0
    have f1 := K0.out.frozen 1
    have f2 := K0.out.frozen 2
    have f3 := K0.out.frozen 3
    go_wp2_with fail
    have K9 := Lib.hid (four_set K0.out (.int .i64 0) (.int .i64 0) (.int .i64 0) (.int .i64 0))
    have B9 := Lib.hid (four_below B0.out (Nat.le_refl _) (.int .i64 0) (.int .i64 0) (.int .i64 0) (.int .i64 0))
    generalize (((W0.setCell ⟨w.heap.size, 0, none⟩ (.int .i64 0)).setCell ⟨w.heap.size, 1, none⟩ (.int .i64 0)).setCell ⟨w.heap.size, 2, none⟩ (.int .i64 0)).setCell ⟨w.heap.size, 3, none⟩ (.int .i64 0) = W9 at K9 B9 ⊢
    have g0 : W9.cell? ⟨w.heap.size, 0, none⟩ = some (.int .i64 0) := K9.out.cell
    have g1 : W9.cell? ⟨w.heap.size, 1, none⟩ = some (.int .i64 0) := K9.out.cell
    have g2 : W9.cell? ⟨w.heap.size, 2, none⟩ = some (.int .i64 0) := K9.out.cell
    have g3 : W9.cell? ⟨w.heap.size, 3, none⟩ = some (.int .i64 0) := K9.out.cell
    exact bodyPost_ret (v := .tuple #[.agg #[.int .i64 0, .int .i64 0, .int .i64 0, .int .i64 0], .bool false]) (by simp [results, Tryz.results16, go_sem, g0, g1, g2, g3]) rfl ⟨rfl, B9.out⟩
  · have d : (X == 0) = false := by simpa using hX
    have d' : (X != 0) = true := by simpa using hX
    rw [d']
    unfold entV
    clear hX d'
    go_enter Tryz.func44, Tryz.ntmps44
    go_wp2_with fail
    generalize w.alloc (.cells #[.int .i64 0, .int .i64 0, .int .i64 0, .int .i64 0] 44) = W0 at B0 K0 HW ⊢
    refine HW.out.mono ?_
    rintro e w1 ⟨rfl, rfl⟩
    go_wp2_with fail
    refine (value_span HU.out).mono ?_
    rintro e w1 ⟨rfl, b1⟩
    have B1 := Lib.hid (up_trans B0.out b1)
    have K1 := Lib.hid (K0.out.below b1 K0.out.lt)
    clear b1
    go_wp2_with fail
    refine (value_ver HU.out).mono ?_
    rintro e w2 ⟨rfl, b2⟩
    have B2 := Lib.hid (up_trans B1.out b2)
    have K2 := Lib.hid (K1.out.below b2 K1.out.lt)
    clear b2
    go_wp2_with fail
    refine (value_cls HU.out).mono ?_
    rintro e w3 ⟨rfl, b3⟩
    have B3 := Lib.hid (up_trans B2.out b3)
    have K3 := Lib.hid (K2.out.below b3 K2.out.lt)
    clear b3
    go_wp2_with fail
    refine (value_sta HU.out).mono ?_
    rintro e w4 ⟨rfl, b4⟩
    have B4 := Lib.hid (up_trans B3.out b4)
    have K4 := Lib.hid (K3.out.below b4 K3.out.lt)
    clear b4
    have c0 : w4.cell? ⟨w.heap.size, 0, none⟩ = some (.int .i64 0) := K4.out.cell
    have c1 : w4.cell? ⟨w.heap.size, 1, none⟩ = some (.int .i64 0) := K4.out.cell
    have c2 : w4.cell? ⟨w.heap.size, 2, none⟩ = some (.int .i64 0) := K4.out.cell
    have c3 : w4.cell? ⟨w.heap.size, 3, none⟩ = some (.int .i64 0) := K4.out.cell
    have f0 := K4.out.frozen 0
    have f1 := K4.out.frozen 1
    have f2 := K4.out.frozen 2
    have f3 := K4.out.frozen 3
    go_wp2_with fail
    have K9 := Lib.hid (four_set K4.out (.int .i64 (spanOf X)) (.int .i64 (verOf X)) (.int .i64 (clsOf X)) (.int .i64 (staOf X)))
    have B9 := Lib.hid (four_below B4.out (Nat.le_refl _) (.int .i64 (spanOf X)) (.int .i64 (verOf X)) (.int .i64 (clsOf X)) (.int .i64 (staOf X)))
    generalize (((w4.setCell ⟨w.heap.size, 0, none⟩ (.int .i64 (spanOf X))).setCell ⟨w.heap.size, 1, none⟩ (.int .i64 (verOf X))).setCell ⟨w.heap.size, 2, none⟩ (.int .i64 (clsOf X))).setCell ⟨w.heap.size, 3, none⟩ (.int .i64 (staOf X)) = W9 at K9 B9 ⊢
    have g0 : W9.cell? ⟨w.heap.size, 0, none⟩ = some (.int .i64 (spanOf X)) := K9.out.cell
    have g1 : W9.cell? ⟨w.heap.size, 1, none⟩ = some (.int .i64 (verOf X)) := K9.out.cell
    have g2 : W9.cell? ⟨w.heap.size, 2, none⟩ = some (.int .i64 (clsOf X)) := K9.out.cell
    have g3 : W9.cell? ⟨w.heap.size, 3, none⟩ = some (.int .i64 (staOf X)) := K9.out.cell
    exact bodyPost_ret (v := .tuple #[.agg #[.int .i64 (spanOf X), .int .i64 (verOf X), .int .i64 (clsOf X), .int .i64 (staOf X)], .bool true]) (by simp [results, Tryz.results16, go_sem, g0, g1, g2, g3]) rfl ⟨rfl, B9.out⟩
end Go.Proofs.YtckcgaliphpgeaaGreatDoor.Ra

/-
  How many leaves are kept, how many pages have an entry of a version and a state: contracts that the claimed proofs use.
-/
namespace Go.Proofs.YtckcgaliphpgeaaGreatDoor.Ra
set_option maxRecDepth 100000
open Go.RowKit

theorem ps_len (g : Gs) : (ps g).length = 64 := by unfold ps; simp
theorem lw_len (f : Ws) (i : Nat) : (lw f i).length = 64 := by unfold lw; simp
theorem ps_info (g : Gs) : (Tryz.prog.info? 169).map (·.size) = some (ps g).length := by rw [ps_len]; kernel_rfl
theorem ps_range {w : World} {q : Nat} {n t : Int} {g : Gs} (h : Blk w q (mc n t g) 171) : w.rangeAt q 2 (ps g) := fun j v hv => by
  have hj : j < 64 := by have := (List.getElem?_eq_some_iff.1 hv).1; rwa [ps_len] at this
  rw [h.cell, mc_at n t g hj, ← hv, ps_at g hj]
theorem ps_index (g : Gs) {i : Nat} (hi : i < 64) (w : World) : (Instr.index 169 (.agg (ps g).toArray) (.int .i64 i)).run Tryz.prog w = .ok (ptr (g i)) w := by
  have hs : (sizeOf 168).run Tryz.prog w = .ok 1 w := by kernel_rfl
  have hx : (ps g).toArray[i]? = some (ptr (g i)) := by rw [List.getElem?_toArray]; exact ps_at g hi
  have hc : (0 : Int) ≤ (i : Int) ∧ (i : Int) < ((64 : Nat) : Int) := by omega
  have hp : (part 168 (ps g).toArray i).run Tryz.prog w = .ok (ptr (g i)) w := by simp [part, isAgg, run_underlying Tryz.underlying168, hx]
  simp only [Instr.index, asIntOf, Sem.run_bind, Sem.run_pure, Result.andThen_ok, run_underlying Tryz.underlying169]
  rw [if_pos hc]
  simp only [Sem.run_bind, hs, Result.andThen_ok, Nat.mul_one, Int.toNat_natCast, hp]
section
variable {w : World} {q : Nat} {n t : Int} {g : Gs} {f : Ws}
end
end Go.Proofs.YtckcgaliphpgeaaGreatDoor.Ra
