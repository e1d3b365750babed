/-
  What the small functions do, said of words as bit vectors: contracts that the claimed proofs use.
-/
import Derived.Test.YtlkphjbnjeelaaaRows
import Derived.Test.YtlkphjbnjeelaaaLists
import Derived.WalkKit
import Derived.WalkSpells
import Derived.WalkLawsBesides
import Derived.Deep.QuietTactic
import Derived.BigQuiet
import Derived.Deep.RegionHeld3
import Derived.Lib.Hide
namespace Go.Proofs.Ytlkphjbnjeelaaa
open Go.RowKit

theorem ret_u {a b : Int} (h : a = b) : Ending.returned (.int .u64 a) = .returned (.int .u64 b) := by rw [h]
theorem ret_b {a b : Bool} (h : a = b) : Ending.returned (.bool a) = .returned (.bool b) := by rw [h]
theorem ret_ub {a b : Int} {c : Bool} (h : a = b) : Ending.returned (.tuple #[.int .u64 a, .bool c]) = .returned (.tuple #[.int .u64 b, .bool c]) := by rw [h]

/-- pack.lowest. -/
theorem low_raw (n : Int) (h0 : 1 ≤ n) (h1 : n ≤ 64) : 18446744073709551615 / 2 ^ (64 - n).toNat = u (low n.toNat) := by
  have e : (18446744073709551615 : Int) = u (BitVec.allOnes 64) := rfl
  rw [e, shr_u, low]; congr 2; omega
theorem lowest_any (n : Int) (w : World) (h0 : 1 ≤ n) (h1 : n ≤ 64) :
    Calls Try.prog 26 #[.int .i64 n] w fun e w' => e = .returned (.int .u64 (u (low n.toNat))) ∧ w = w' := by
  go_enter Try.func26, Try.ntmps26
  go_wp2
  go_ret
  exact ⟨ret_u (low_raw n h0 h1), rfl⟩

/-- ref.bit. -/
theorem bit_raw (x : BitVec 64) (n : Nat) : bits .and .u64 (u x / 2 ^ n) 1 = u (bitW x n) := by
  have e : (1 : Int) = u 1#64 := rfl
  rw [e, shr_u, and_u]; rfl
theorem bit_any (x : BitVec 64) (n : Int) (w : World) (h0 : 0 ≤ n) (h1 : n ≤ 64) :
    Calls Try.prog 27 #[.int .u64 (u x), .int .i64 n] w fun e w' => e = .returned (.int .u64 (u (bitW x n.toNat))) ∧ w = w' := by
  go_enter Try.func27, Try.ntmps27
  go_wp2
  go_ret
  exact ⟨ret_u (bit_raw x _), rfl⟩

/-- pack.isWidth. -/
theorem isWidth_yes (n : Int) (w : World) (h0 : 1 ≤ n) (h1 : n ≤ 64) :
    Calls Try.prog 31 #[.int .i64 n] w fun e w' => e = .returned (.bool true) ∧ w = w' := by
  go_enter Try.func31, Try.ntmps31
  go_wp2
  go_ret
  exact ⟨rfl, rfl⟩
theorem isWidth_no (n : Int) (w : World) (h : n < 1 ∨ 64 < n) :
    Calls Try.prog 31 #[.int .i64 n] w fun e w' => e = .returned (.bool false) ∧ w = w' := by
  rcases h with h | h
  · go_enter Try.func31, Try.ntmps31
    go_wp2
    go_ret
    exact ⟨rfl, rfl⟩
  · have h' : 1 ≤ n := by omega
    have h2 : decide (n ≤ 64) = false := by simp; omega
    go_enter Try.func31, Try.ntmps31
    go_wp2
    go_ret
    exact ⟨rfl, rfl⟩

/-- pack.within. -/
theorem within_any (v : BitVec 64) (n : Int) (w : World) (h0 : 1 ≤ n) (h1 : n ≤ 64) :
    Calls Try.prog 28 #[.int .u64 (u v), .int .i64 n] w fun e w' => e = .returned (.bool (fits v n.toNat)) ∧ w = w' := by
  go_enter Try.func28, Try.ntmps28
  go_wp2_with (go_at_call 26; refine (lowest_any _ _ (by omega) (by omega)).mono ?_; rintro e w' ⟨rfl, rfl⟩)
  go_ret
  exact ⟨ret_b (u_le_low v _), rfl⟩

theorem lowest_quiet (n : Int) (w : World) (k : Nat) (h0 : 1 ≤ n) (h1 : n ≤ 64) :
    Calls Try.prog 26 #[.int .i64 n] (w.drewN k) fun e w' => e = .returned (.int .u64 (u (low n.toNat))) ∧ ∃ m, w' = w.drewN m :=
  (lowest_any n _ h0 h1).mono fun _ _ ⟨he, hw⟩ => ⟨he, k, hw.symm⟩

/-- pack.mask. -/
theorem mask_any (s n : Int) (w : World) (h0 : 1 ≤ n) (h1 : n ≤ 64) (h2 : 0 ≤ s) (h3 : s ≤ 64) :
    Calls Try.prog 29 #[.agg #[.int .i64 s, .int .i64 n]] w fun e w' => e = .returned (.int .u64 (u (maskW s.toNat n.toNat))) ∧ ∃ k, w' = (w.alloc (.cells #[.int .i64 s, .int .i64 n] 24)).drewN k := by
  go_enter Try.func29, Try.ntmps29
  go_wp2
  go_quiet ((go_at_call 26; exact lowest_quiet _ _ _ (by omega) (by omega)))
  go_wp2
  go_ret
  exact ⟨ret_u (shl_u _ _), _, rfl⟩

/-- pack.Right. -/
theorem right_any (s n : Int) (w : World) :
    Calls Try.prog 12 #[.agg #[.int .i64 s, .int .i64 n]] w fun e w' => e = .returned (.bool (rightB s n)) ∧ w' = w.alloc (.cells #[.int .i64 s, .int .i64 n] 24) := by
  by_cases hw : 1 ≤ n ∧ n ≤ 64
  · obtain ⟨h0, h1⟩ := hw
    by_cases hs : 0 ≤ s
    · go_enter Try.func12, Try.ntmps12
      go_wp2_with (go_at_call 31; refine (isWidth_yes _ _ (by omega) (by omega)).mono ?_; rintro e w' ⟨rfl, rfl⟩)
      go_ret
      exact ⟨ret_b (by unfold rightB; rw [decide_eq_decide]; omega), rfl⟩
    · have hd : decide (0 ≤ s) = false := by simpa using hs
      go_enter Try.func12, Try.ntmps12
      go_wp2_with (go_at_call 31; refine (isWidth_yes _ _ (by omega) (by omega)).mono ?_; rintro e w' ⟨rfl, rfl⟩)
      go_ret
      exact ⟨ret_b (by unfold rightB; symm; rw [decide_eq_false_iff_not]; omega), rfl⟩
  · have hn : n < 1 ∨ 64 < n := by omega
    have HN := Lib.hid hn
    clear hn hw
    go_enter Try.func12, Try.ntmps12
    go_wp2_with (go_at_call 31; refine (isWidth_no _ _ HN.out).mono ?_; rintro e w' ⟨rfl, rfl⟩)
    go_ret
    exact ⟨ret_b (by unfold rightB; symm; rw [decide_eq_false_iff_not]; have := HN.out; omega), rfl⟩

/-- ref.Right. -/
theorem rright_any (s n : Int) (w : World) :
    Calls Try.prog 13 #[.agg #[.int .i64 s, .int .i64 n]] w fun e w' => e = .returned (.bool (rightB s n)) ∧ w' = w.alloc (.cells #[.int .i64 s, .int .i64 n] 26) := by
  by_cases h0 : 1 ≤ n
  · by_cases h1 : n ≤ 64
    · by_cases h2 : 0 ≤ s
      · by_cases h3 : s ≤ 63
        · go_enter Try.func13, Try.ntmps13
          go_wp2
          go_ret
          exact ⟨ret_b (by unfold rightB; rw [decide_eq_decide]; omega), rfl⟩
        · have hd : decide (s ≤ 63) = false := by simpa using h3
          go_enter Try.func13, Try.ntmps13
          go_wp2
          go_ret
          exact ⟨ret_b (by unfold rightB; symm; rw [decide_eq_false_iff_not]; omega), rfl⟩
      · have hd : decide (0 ≤ s) = false := by simpa using h2
        go_enter Try.func13, Try.ntmps13
        go_wp2
        go_ret
        exact ⟨ret_b (by unfold rightB; symm; rw [decide_eq_false_iff_not]; omega), rfl⟩
    · have hd : decide (n ≤ 64) = false := by simpa using h1
      go_enter Try.func13, Try.ntmps13
      go_wp2
      go_ret
      exact ⟨ret_b (by unfold rightB; symm; rw [decide_eq_false_iff_not]; omega), rfl⟩
  · have hd : decide (1 ≤ n) = false := by simpa using h0
    go_enter Try.func13, Try.ntmps13
    go_wp2
    go_ret
    exact ⟨ret_b (by unfold rightB; symm; rw [decide_eq_false_iff_not]; omega), rfl⟩

/-- pack.Get. -/
theorem get_yes (x : BitVec 64) (s n : Int) (w : World) (hr : rightB s n = true) :
    Calls Try.prog 8 #[.int .u64 (u x), .agg #[.int .i64 s, .int .i64 n]] w fun e w' => e = .returned (.tuple #[.int .u64 (u (getW x s.toNat n.toNat)), .bool true]) ∧ Below w.heap.size w w' := by
  obtain ⟨h0, h1, h2, h3⟩ := rightB_iff.1 hr
  go_enter Try.func8, Try.ntmps8
  go_wp2_with (go_at_call 12; refine (right_any _ _ _).mono ?_; rintro e w' ⟨rfl, rfl⟩)
  go_quiet ((go_at_call 26; exact lowest_quiet _ _ _ (by omega) (by omega)))
  go_wp2
  go_ret2
  exact ⟨ret_ub (by rw [shr_u, and_u]; rfl), below_drewN (((Below.refl _ _).alloc (Nat.le_refl _) _).alloc (by simp) _) _⟩
theorem get_no (x : BitVec 64) (s n : Int) (w : World) (hr : rightB s n = false) :
    Calls Try.prog 8 #[.int .u64 (u x), .agg #[.int .i64 s, .int .i64 n]] w fun e w' => e = .returned (.tuple #[.int .u64 0, .bool false]) ∧ Below w.heap.size w w' := by
  go_enter Try.func8, Try.ntmps8
  go_wp2_with (go_at_call 12; refine (right_any _ _ _).mono ?_; rintro e w' ⟨rfl, rfl⟩)
  go_ret2
  exact ⟨rfl, ((Below.refl _ _).alloc (Nat.le_refl _) _).alloc (by simp) _⟩

/-- pack.Signed. -/
theorem ret_ib {a b : Int} {c : Bool} (h : a = b) : Ending.returned (.tuple #[.int .i64 a, .bool c]) = .returned (.tuple #[.int .i64 b, .bool c]) := by rw [h]
theorem wrap64_u (x : BitVec 64) : wrap64 (u x) = sg x := by rw [← sg_of_u, IntWalk.i64_left]
theorem sign_raw (x : BitVec 64) (n : Int) (h0 : 1 ≤ n) : wrap64 (IntKind.u64.wrap (u x * 2 ^ (64 - n).toNat)) / 2 ^ (64 - n).toNat = sg (signW x n.toNat) := by
  rw [shl_u, wrap64_u, shr_sg, signW]; congr 2 <;> congr 1 <;> omega
theorem signed_yes (x : BitVec 64) (n : Int) (w : World) (h0 : 1 ≤ n) (h1 : n ≤ 64) :
    Calls Try.prog 14 #[.int .u64 (u x), .int .i64 n] w fun e w' => e = .returned (.tuple #[.int .i64 (sg (signW x n.toNat)), .bool true]) ∧ w = w' := by
  go_enter Try.func14, Try.ntmps14
  go_wp2_with (go_at_call 31; refine (isWidth_yes _ _ (by omega) (by omega)).mono ?_; rintro e w' ⟨rfl, rfl⟩)
  go_ret2
  exact ⟨ret_ib (sign_raw x n h0), rfl⟩
theorem signed_no (x : BitVec 64) (n : Int) (w : World) (h : n < 1 ∨ 64 < n) :
    Calls Try.prog 14 #[.int .u64 (u x), .int .i64 n] w fun e w' => e = .returned (.tuple #[.int .i64 0, .bool false]) ∧ w = w' := by
  have HN := Lib.hid h
  clear h
  go_enter Try.func14, Try.ntmps14
  go_wp2_with (go_at_call 31; refine (isWidth_no _ _ HN.out).mono ?_; rintro e w' ⟨rfl, rfl⟩)
  go_ret2
  exact ⟨rfl, rfl⟩

/-- pack.Unsigned. -/
theorem unsigned_yes (x : BitVec 64) (n : Int) (w : World) (h0 : 1 ≤ n) (h1 : n ≤ 64) :
    Calls Try.prog 16 #[.int .i64 (sg x), .int .i64 n] w fun e w' => e = .returned (.tuple #[.int .u64 (u (unsW x n.toNat)), .bool true]) ∧ w = w' := by
  go_enter Try.func16, Try.ntmps16
  go_wp2_with (first | (go_at_call 31; refine (isWidth_yes _ _ (by omega) (by omega)).mono ?_; rintro e w' ⟨rfl, rfl⟩) | (go_at_call 26; refine (lowest_any _ _ (by omega) (by omega)).mono ?_; rintro e w' ⟨rfl, rfl⟩))
  go_ret2
  exact ⟨ret_ub (by rw [u_of_sg, and_u]; rfl), rfl⟩
theorem unsigned_no (x : BitVec 64) (n : Int) (w : World) (h : n < 1 ∨ 64 < n) :
    Calls Try.prog 16 #[.int .i64 (sg x), .int .i64 n] w fun e w' => e = .returned (.tuple #[.int .u64 0, .bool false]) ∧ w = w' := by
  have HN := Lib.hid h
  clear h
  go_enter Try.func16, Try.ntmps16
  go_wp2_with (go_at_call 31; refine (isWidth_no _ _ HN.out).mono ?_; rintro e w' ⟨rfl, rfl⟩)
  go_ret2
  exact ⟨rfl, rfl⟩

/-- pack.Fits. -/
theorem fitsS_yes (x : BitVec 64) (n : Int) (w : World) (h0 : 1 ≤ n) (h1 : n ≤ 64) :
    Calls Try.prog 19 #[.int .i64 (sg x), .int .i64 n, .bool true] w fun e w' => e = .returned (.bool (signW x n.toNat == x)) ∧ w = w' := by
  have hux := u_of_sg x
  go_enter Try.func19, Try.ntmps19
  go_wp2_with (go_at_call 14; refine (signed_yes x _ _ (by omega) (by omega)).mono ?_; rintro e w' ⟨rfl, rfl⟩)
  go_ret
  exact ⟨ret_b (sg_beq _ _), rfl⟩
theorem fitsU_yes (x : BitVec 64) (n : Int) (w : World) (h0 : 1 ≤ n) (h1 : n ≤ 64) :
    Calls Try.prog 19 #[.int .i64 (sg x), .int .i64 n, .bool false] w fun e w' => e = .returned (.bool (decide (0 ≤ sg x) && (unsW x n.toNat == x))) ∧ w = w' := by
  have hux := u_of_sg x
  by_cases hs : 0 ≤ sg x
  · go_enter Try.func19, Try.ntmps19
    go_wp2_with (go_at_call 16; refine (unsigned_yes x _ _ (by omega) (by omega)).mono ?_; rintro e w' ⟨rfl, rfl⟩)
    go_ret
    exact ⟨ret_b (by rw [u_beq, decide_eq_true hs]; rfl), rfl⟩
  · have hd : decide (0 ≤ sg x) = false := by simpa using hs
    go_enter Try.func19, Try.ntmps19
    go_wp2_with (go_at_call 16; refine (unsigned_yes x _ _ (by omega) (by omega)).mono ?_; rintro e w' ⟨rfl, rfl⟩)
    go_ret
    exact ⟨ret_b (by rw [hd]; rfl), rfl⟩
theorem fits_no (x : BitVec 64) (n : Int) (b : Bool) (w : World) (h : n < 1 ∨ 64 < n) :
    Calls Try.prog 19 #[.int .i64 (sg x), .int .i64 n, .bool b] w fun e w' => e = .returned (.bool false) ∧ w = w' := by
  have hux := u_of_sg x
  have HN := Lib.hid h
  clear h
  cases b
  · go_enter Try.func19, Try.ntmps19
    go_wp2_with (go_at_call 16; refine (unsigned_no x _ _ HN.out).mono ?_; rintro e w' ⟨rfl, rfl⟩)
    go_ret
    exact ⟨rfl, rfl⟩
  · go_enter Try.func19, Try.ntmps19
    go_wp2_with (go_at_call 14; refine (signed_no x _ _ HN.out).mono ?_; rintro e w' ⟨rfl, rfl⟩)
    go_ret
    exact ⟨rfl, rfl⟩

/-- pack.Rotate. -/
theorem tmod_bd (d n : Int) (h : 1 ≤ n) : -n < d.tmod n ∧ d.tmod n < n := by
  by_cases hd : 0 ≤ d
  · rw [Int.tmod_eq_emod_of_nonneg hd]; have := Int.emod_nonneg d (by omega : n ≠ 0); have := Int.emod_lt_of_pos d (by omega : 0 < n); omega
  · have : d.tmod n = -((-d).tmod n) := by rw [Int.neg_tmod]; omega
    rw [this, Int.tmod_eq_emod_of_nonneg (by omega)]; have := Int.emod_nonneg (-d) (by omega : n ≠ 0); have := Int.emod_lt_of_pos (-d) (by omega : 0 < n); omega
theorem tmod_up (d n : Int) (h : 1 ≤ n) : (d.tmod n < 0 → d.tmod n + n = d % n) ∧ (0 ≤ d.tmod n → d.tmod n = d % n) := by
  have hb := tmod_bd d n h
  have e : d % n = d.tmod n % n := by
    have := Int.mul_tdiv_add_tmod d n
    have e2 : d = d.tmod n + n * d.tdiv n := by omega
    calc d % n = (d.tmod n + n * d.tdiv n) % n := by rw [← e2]
      _ = d.tmod n % n := Int.add_mul_emod_self_left ..
  constructor
  · intro hn
    have : (d.tmod n + n) % n = d.tmod n % n := Int.add_emod_right ..
    rw [e, ← this, Int.emod_eq_of_lt (by omega) (by omega)]
  · intro hn
    rw [e, Int.emod_eq_of_lt (by omega) (by omega)]
theorem rot_raw (v : BitVec 64) (n up : Int) (h : 0 ≤ up) (hn : up < n) :
    bits .or .u64 (bits .and .u64 (IntKind.u64.wrap (u v * 2 ^ up.toNat)) (u (low n.toNat))) (u v / 2 ^ (n - up).toNat) = u (rotW v n.toNat up.toNat) := by
  rw [shl_u, shr_u, and_u, or_u, rotW]; congr 3; omega
theorem turn_raw (v : BitVec 64) (n up d : Int) (h0 : 1 ≤ n) (h : 0 ≤ up) (hn : up < n) (hd : up = d % n) :
    bits .or .u64 (bits .and .u64 (IntKind.u64.wrap (u v * 2 ^ up.toNat)) (u (low n.toNat))) (u v / 2 ^ (n - up).toNat) = u (turnW v n.toNat d) := by
  rw [rot_raw v n up h hn, turnW]; congr 2; rw [hd]; congr 2; omega
theorem rotate_yes (v : BitVec 64) (n d : Int) (w : World) (h0 : 1 ≤ n) (h1 : n ≤ 64) (hv : fits v n.toNat = true) :
    Calls Try.prog 17 #[.int .u64 (u v), .int .i64 n, .int .i64 d] w fun e w' => e = .returned (.tuple #[.int .u64 (u (turnW v n.toNat d)), .bool true]) ∧ ∃ k, w' = w.drewN k := by
  obtain ⟨b1, b2⟩ := tmod_bd d n h0
  obtain ⟨t1, t2⟩ := tmod_up d n h0
  by_cases hs : d.tmod n < 0
  · obtain ⟨up, hup⟩ : ∃ up, d.tmod n + n = up := ⟨_, rfl⟩
    have T : Hid (up = d % n) := by rw [← hup]; exact t1 hs
    have u0 : 0 ≤ up := by omega
    have u1 : up < n := by omega
    have k1 : IntKind.i64.wrap (n - up) = n - up := IntWalk.i64_in _ (by omega)
    have k2 : 0 ≤ n - up := by omega
    have k3 : n - up ≤ 64 := by omega
    have k4 : up ≤ 64 := by omega
    clear t1 t2
    go_enter Try.func17, Try.ntmps17
    go_wp2_with (first | (go_at_call 31; refine (isWidth_yes _ _ (by omega) (by omega)).mono ?_; rintro e w' ⟨rfl, rfl⟩) | (go_at_call 28; refine (within_any _ _ _ (by omega) (by omega)).mono ?_; rintro e w' ⟨rfl, rfl⟩))
    go_quiet ((go_at_call 26; exact lowest_quiet _ _ _ (by omega) (by omega)))
    go_wp2
    go_ret2
    exact ⟨ret_ub (turn_raw v n up d h0 u0 u1 T.out), _, rfl⟩
  · obtain ⟨up, hup⟩ : ∃ up, d.tmod n = up := ⟨_, rfl⟩
    have T : Hid (up = d % n) := by rw [← hup]; exact t2 (by omega)
    have u0 : 0 ≤ up := by omega
    have u1 : up < n := by omega
    have k1 : IntKind.i64.wrap (n - up) = n - up := IntWalk.i64_in _ (by omega)
    have k2 : 0 ≤ n - up := by omega
    have k3 : n - up ≤ 64 := by omega
    have k4 : up ≤ 64 := by omega
    clear t1 t2 hs b1 b2
    go_enter Try.func17, Try.ntmps17
    go_wp2_with (first | (go_at_call 31; refine (isWidth_yes _ _ (by omega) (by omega)).mono ?_; rintro e w' ⟨rfl, rfl⟩) | (go_at_call 28; refine (within_any _ _ _ (by omega) (by omega)).mono ?_; rintro e w' ⟨rfl, rfl⟩))
    go_quiet ((go_at_call 26; exact lowest_quiet _ _ _ (by omega) (by omega)))
    go_wp2
    go_ret2
    exact ⟨ret_ub (turn_raw v n up d h0 u0 u1 T.out), _, rfl⟩

/-- pack.Put. -/
theorem put_yes (x v : BitVec 64) (s n : Int) (w : World) (hr : rightB s n = true) (hv : fits v n.toNat = true) :
    Calls Try.prog 10 #[.int .u64 (u x), .agg #[.int .i64 s, .int .i64 n], .int .u64 (u v)] w fun e w' => e = .returned (.tuple #[.int .u64 (u (putW x s.toNat n.toNat v)), .bool true]) ∧ Below w.heap.size w w' := by
  obtain ⟨h0, h1, h2, h3⟩ := rightB_iff.1 hr
  go_enter Try.func10, Try.ntmps10
  go_wp2_with (first | (go_at_call 12; refine (right_any _ _ _).mono ?_; rintro e w' ⟨rfl, rfl⟩) | (go_at_call 28; refine (within_any _ _ _ (by omega) (by omega)).mono ?_; rintro e w' ⟨rfl, rfl⟩))
  go_region_held3 (fun w' => w'.cell? ⟨w.heap.size, 0, none⟩ = some (.int .i64 s) ∧ w'.cell? ⟨w.heap.size, 1, none⟩ = some (.int .i64 n)) (simp [go_sem, World.cell?_alloc_past])
    (first | (go_at_call 29; refine (mask_any _ _ _ (by omega) (by omega) (by omega) (by omega)).mono ?_; rintro e w' ⟨rfl, k, rfl⟩))
  go_wp2
  go_ret2
  exact ⟨ret_ub (by rw [shl_u, andNot_u, or_u]; rfl), below_drewN ((((Below.refl _ _).alloc (Nat.le_refl _) _).alloc (by simp) _).alloc (by simp; omega) _) _⟩
theorem put_no (x v : BitVec 64) (s n : Int) (w : World) (hr : rightB s n = false) :
    Calls Try.prog 10 #[.int .u64 (u x), .agg #[.int .i64 s, .int .i64 n], .int .u64 (u v)] w fun e w' => e = .returned (.tuple #[.int .u64 0, .bool false]) ∧ Below w.heap.size w w' := by
  go_enter Try.func10, Try.ntmps10
  go_wp2_with (first | (go_at_call 12; refine (right_any _ _ _).mono ?_; rintro e w' ⟨rfl, rfl⟩))
  go_ret2
  exact ⟨rfl, ((Below.refl _ _).alloc (Nat.le_refl _) _).alloc (by simp) _⟩
theorem put_wide (x v : BitVec 64) (s n : Int) (w : World) (hr : rightB s n = true) (hv : fits v n.toNat = false) :
    Calls Try.prog 10 #[.int .u64 (u x), .agg #[.int .i64 s, .int .i64 n], .int .u64 (u v)] w fun e w' => e = .returned (.tuple #[.int .u64 0, .bool false]) ∧ Below w.heap.size w w' := by
  obtain ⟨h0, h1, h2, h3⟩ := rightB_iff.1 hr
  go_enter Try.func10, Try.ntmps10
  go_wp2_with (first | (go_at_call 12; refine (right_any _ _ _).mono ?_; rintro e w' ⟨rfl, rfl⟩) | (go_at_call 28; refine (within_any _ _ _ (by omega) (by omega)).mono ?_; rintro e w' ⟨rfl, rfl⟩))
  go_ret2
  exact ⟨rfl, ((Below.refl _ _).alloc (Nat.le_refl _) _).alloc (by simp) _⟩
theorem rotate_no (v : BitVec 64) (n d : Int) (w : World) (h : n < 1 ∨ 64 < n) :
    Calls Try.prog 17 #[.int .u64 (u v), .int .i64 n, .int .i64 d] w fun e w' => e = .returned (.tuple #[.int .u64 0, .bool false]) ∧ ∃ k, w' = w.drewN k := by
  have HN := Lib.hid h
  clear h
  go_enter Try.func17, Try.ntmps17
  go_wp2_with (first | (go_at_call 31; refine (isWidth_no _ _ HN.out).mono ?_; rintro e w' ⟨rfl, rfl⟩))
  go_ret2
  exact ⟨rfl, 0, rfl⟩
theorem rotate_wide (v : BitVec 64) (n d : Int) (w : World) (h0 : 1 ≤ n) (h1 : n ≤ 64) (hv : fits v n.toNat = false) :
    Calls Try.prog 17 #[.int .u64 (u v), .int .i64 n, .int .i64 d] w fun e w' => e = .returned (.tuple #[.int .u64 0, .bool false]) ∧ ∃ k, w' = w.drewN k := by
  go_enter Try.func17, Try.ntmps17
  go_wp2_with (first | (go_at_call 31; refine (isWidth_yes _ _ (by omega) (by omega)).mono ?_; rintro e w' ⟨rfl, rfl⟩) | (go_at_call 28; refine (within_any _ _ _ (by omega) (by omega)).mono ?_; rintro e w' ⟨rfl, rfl⟩))
  go_ret2
  exact ⟨rfl, 0, rfl⟩

end Go.Proofs.Ytlkphjbnjeelaaa
