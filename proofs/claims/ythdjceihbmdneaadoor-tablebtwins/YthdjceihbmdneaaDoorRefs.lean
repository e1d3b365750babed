/-
  What the reference functions do: contracts that the claimed proofs use.
-/
import Derived.Test.YthdjceihbmdneaaDoorWaste
namespace Go.Proofs.YthdjceihbmdneaaDoor
open Go.RowKit

/-- ref05.First, of a layout's list. -/
theorem rfirst_in (v : Int) (p : Option Addr) (N : Nat) (n a R : Int) (w : World) (hN : cnt v = N) (h0 : 0 ≤ n) (h1 : n ≤ 512) (a0 : 1 ≤ a) (hR : first v n a = R) (hA : Lst v w p) :
    Calls Tryd.prog 10 #[.slice p N N, .int .i64 n, .int .i64 a] w fun e w' => e = .returned (.int .i64 R) ∧ w = w' := by
  have HR := Lib.hid hR
  have HA := Lib.hid hA
  have hN16 : N ≤ 16 := hN ▸ cnt_le v
  have HN' := Lib.hid hN
  have d0 : decide (n < 0) = false := by simpa using h0
  have d1 : decide (512 < n) = false := by simpa using h1
  clear hA hR hN
  go_enter Tryd.func10, Tryd.ntmps10
  go_wp2
  go_loop [7] (fun i => ∃ k : Nat, k ≤ N ∧ noneTo v n a k ∧ i = .int .i64 k) (fun i => N - (intOf i).toNat)
  case atStart => exact ⟨0, by omega, noneTo_zero v n a, rfl⟩
  case round =>
    obtain ⟨k, hk, hn, rfl⟩ := hrel
    have HN := Lib.hid hn
    clear hn
    by_cases hlt : k < N
    · obtain ⟨g, rfl, hi⟩ := HA.out k (by rw [HN'.out]; exact hlt)
      have k1 : (0 : Int) ≤ (k : Int) := by omega
      have k2 : (k : Int) < (N : Int) := by omega
      obtain ⟨s0, s1⟩ := sz_bd (v := v) k (by rw [HN'.out]; exact hlt)
      obtain ⟨s, hs⟩ : ∃ s, sz v k = s := ⟨_, rfl⟩
      rw [hs] at hi s0 s1
      have HS := Lib.hid hs
      clear hs
      by_cases hge : n ≤ s
      · have g1 : decide (n ≤ s) = true := by simpa using hge
        cases hr : (s % a == 0)
        · go_wp2
          go_round
          case rel => exact ⟨k + 1, by omega, noneTo_on HN.out (by unfold fits; rw [HS.out, g1, hr]; rfl), by go_num⟩
          case measure => simp [intOf]; omega
        · have e : R = (k : Int) := by rw [← HR.out]; exact first_hit h0 h1 HN.out (by rw [HN'.out]; exact hlt) (by unfold fits; rw [HS.out, g1, hr]; rfl)
          subst e
          go_wp2
          go_ret
          exact ⟨rfl, rfl⟩
      · have g1 : decide (n ≤ s) = false := by simpa using hge
        go_wp2
        go_round
        case rel => exact ⟨k + 1, by omega, noneTo_on HN.out (by unfold fits; rw [HS.out, g1]; rfl), by go_num⟩
        case measure => simp [intOf]; omega
    · obtain rfl : k = N := by omega
      have e : R = -1 := by rw [← HR.out]; exact first_none (by rw [HN'.out]; exact HN.out)
      subst e
      go_wp2
      go_ret
      exact ⟨rfl, rfl⟩
theorem rfirst_out (A : Value) (n a : Int) (w : World) (h : ¬ (0 ≤ n ∧ n ≤ 512)) :
    Calls Tryd.prog 10 #[A, .int .i64 n, .int .i64 a] w fun e w' => e = .returned (.int .i64 (-1)) ∧ w = w' := by
  by_cases h0 : 0 ≤ n
  · have d0 : decide (n < 0) = false := by simpa using h0
    have d1 : decide (512 < n) = true := by simp; omega
    clear h
    go_enter Tryd.func10, Tryd.ntmps10
    go_wp2
    go_ret
    exact ⟨rfl, rfl⟩
  · have d0 : decide (n < 0) = true := by simpa using h0
    clear h
    go_enter Tryd.func10, Tryd.ntmps10
    go_wp2
    go_ret
    exact ⟨rfl, rfl⟩
theorem rfirst_any (v : Int) (p : Option Addr) (n a : Int) (w : World) (a0 : 1 ≤ a) (hA : Lst v w p) :
    Calls Tryd.prog 10 #[.slice p (cnt v) (cnt v), .int .i64 n, .int .i64 a] w fun e w' => e = .returned (.int .i64 (first v n a)) ∧ w = w' := by
  by_cases h : 0 ≤ n ∧ n ≤ 512
  · exact rfirst_in v p _ n a _ w rfl h.1 h.2 a0 rfl hA
  · rw [first_out h]; exact rfirst_out _ n a w h

/-- ref06.Place. -/
theorem rplace_walk (v : Int) (N : Nat) (n R : Int) (w : World) (hN : cnt v = N) (hR : place v n = R) :
    Calls Tryd.prog 18 #[.int .i64 v, .int .i64 n] w fun e w' => e = .returned (.int .i64 R) ∧ Below w.heap.size w w' := by
  have HR := Lib.hid hR
  have hN16 : N ≤ 16 := hN ▸ cnt_le v
  have HN' := Lib.hid hN
  clear hR hN
  go_enter Tryd.func18, Tryd.ntmps18
  go_wp2_with fail
  refine (rsizes_any v w).mono ?_
  rintro e W ⟨p, he, hA, hb⟩
  rw [HN'.out] at he
  subst he
  have HA := Lib.hid hA
  have HB := Lib.hid hb
  clear hA hb
  go_wp2
  go_loop [6] (fun i => ∃ k : Nat, k ≤ N ∧ missTo v n k ∧ i = .int .i64 k) (fun i => N - (intOf i).toNat)
  case atStart => exact ⟨0, by omega, missTo_zero v n, rfl⟩
  case round =>
    obtain ⟨k, hk, hn, rfl⟩ := hrel
    have HN := Lib.hid hn
    clear hn
    by_cases hlt : k < N
    · obtain ⟨g, rfl, hi⟩ := HA.out k (by rw [HN'.out]; exact hlt)
      have k1 : (0 : Int) ≤ (k : Int) := by omega
      have k2 : (k : Int) < (N : Int) := by omega
      obtain ⟨s, hs⟩ : ∃ s, sz v k = s := ⟨_, rfl⟩
      rw [hs] at hi
      have HS := Lib.hid hs
      clear hs
      cases hr : (s == n)
      · go_wp2
        go_round
        case rel => exact ⟨k + 1, by omega, missTo_on HN.out (by rw [HS.out, hr]), by go_num⟩
        case measure => simp [intOf]; omega
      · have e : R = (k : Int) := by rw [← HR.out]; exact place_hit HN.out (by rw [HN'.out]; exact hlt) (by rw [HS.out, hr])
        subst e
        go_wp2
        go_ret
        exact ⟨rfl, HB.out⟩
    · obtain rfl : k = N := by omega
      have e : R = -1 := by rw [← HR.out]; exact place_none (by rw [HN'.out]; exact HN.out)
      subst e
      go_wp2
      go_ret
      exact ⟨rfl, HB.out⟩
theorem rplace_any (v n : Int) (w : World) : Calls Tryd.prog 18 #[.int .i64 v, .int .i64 n] w fun e w' => e = .returned (.int .i64 (place v n)) ∧ Below w.heap.size w w' :=
  rplace_walk v _ n _ w rfl rfl

/-- ref06.Size. -/
theorem rsize_walk (v : Int) (N : Nat) (c R : Int) (w : World) (hN : cnt v = N) (hR : sizeOf' v c = R) :
    Calls Tryd.prog 11 #[.int .i64 v, .int .i64 c] w fun e w' => e = .returned (.int .i64 R) ∧ Below w.heap.size w w' := by
  have HN' := Lib.hid hN
  have hy : (decide (c < 0) = true ∧ R = 0) ∨ (decide (c < 0) = false ∧ decide ((N : Int) ≤ c) = true ∧ R = 0) ∨ (∃ k : Nat, k < N ∧ c = (k : Int) ∧ R = sz v k) := by
    by_cases h0 : c < 0
    · exact Or.inl ⟨by simpa using h0, by rw [← hR]; exact sizeOf_neg (by omega)⟩
    · obtain ⟨k, rfl⟩ := Int.eq_ofNat_of_zero_le (by omega : 0 ≤ c)
      by_cases hk : k < N
      · exact Or.inr (Or.inr ⟨k, hk, rfl, by rw [← hR, sizeOf_nat]⟩)
      · exact Or.inr (Or.inl ⟨by simp, by simp; omega, by rw [← hR]; exact sizeOf_beyond (by omega)⟩)
  clear hR hN
  rcases hy with ⟨c0, rfl⟩ | ⟨c0, c1, rfl⟩ | ⟨k, hk, rfl, rfl⟩
  rotate_left 2
  focus
    obtain ⟨s, hs⟩ : ∃ s, sz v k = s := ⟨_, rfl⟩
    have HS := Lib.hid hs
    rw [hs]
    clear hs
    have k1 : (0 : Int) ≤ (k : Int) := by omega
    have k2 : (k : Int) < (N : Int) := by omega
    go_enter Tryd.func11, Tryd.ntmps11
    go_wp2_with fail
    refine (rsizes_any v w).mono ?_
    rintro e W ⟨p, he, hA, hb⟩
    rw [HN'.out] at he
    subst he
    obtain ⟨g, rfl, hi⟩ := hA k (by rw [HN'.out]; exact hk)
    rw [HS.out] at hi
    have HB := Lib.hid hb
    clear hA hb
    go_wp2
    go_ret
    exact ⟨rfl, HB.out⟩
  all_goals
    go_enter Tryd.func11, Tryd.ntmps11
    go_wp2_with fail
    refine (rsizes_any v w).mono ?_
    rintro e W ⟨p, he, hA, hb⟩
    rw [HN'.out] at he
    subst he
    have HB := Lib.hid hb
    clear hA hb
    go_wp2
    go_ret
    exact ⟨rfl, HB.out⟩
theorem rsize_any (v c : Int) (w : World) : Calls Tryd.prog 11 #[.int .i64 v, .int .i64 c] w fun e w' => e = .returned (.int .i64 (sizeOf' v c)) ∧ Below w.heap.size w w' :=
  rsize_walk v _ c _ w rfl rfl

/-- ref05.Align. -/
def AtP (n P : Int) : Prop := ∃ j : Nat, j ≤ 13 ∧ P = 2 ^ j ∧ ∀ i, i < j → n ≠ 2 ^ i
theorem pow_lt {i j : Nat} (h : (2 : Int) ^ i ≤ 2 ^ j) : i ≤ j := by
  apply Nat.le_of_not_lt
  intro hk
  have h2 : 2 ^ (j + 1) ≤ 2 ^ i := Nat.pow_le_pow_right (by decide) hk
  have h3 : 0 < 2 ^ j := Nat.two_pow_pos j
  rw [Nat.pow_succ] at h2
  rw [← pow_cast, ← pow_cast] at h
  omega
theorem alignB_iff {a : Int} : alignB a = true ↔ ∃ k : Nat, k ≤ 12 ∧ a = 2 ^ k := by
  simp only [alignB, Bool.and_eq_true, decide_eq_true_eq]
  constructor
  · rintro ⟨h, h2⟩
    obtain ⟨k, _, rfl⟩ := powB_iff.1 h2
    exact ⟨k, pow_lt (j := 12) h, rfl⟩
  · rintro ⟨k, hk, rfl⟩
    refine ⟨?_, powB_iff.2 ⟨k, by omega, rfl⟩⟩
    have h2 : 2 ^ k ≤ 2 ^ 12 := Nat.pow_le_pow_right (by decide) hk
    rw [← pow_cast]; omega
theorem atP_bd {n P : Int} (h : AtP n P) : 1 ≤ P ∧ P ≤ 8192 := by
  obtain ⟨j, hj, rfl, _⟩ := h
  have h1 : 2 ^ j ≤ 2 ^ 13 := Nat.pow_le_pow_right (by decide) hj
  have h2 : 0 < 2 ^ j := Nat.two_pow_pos j
  rw [← pow_cast]; omega
theorem atP_hit {n P : Int} (h : AtP n P) (hP : P ≤ 4096) (e : (P == n) = true) : alignB n = true := by
  obtain ⟨j, hj, rfl, _⟩ := h
  exact alignB_iff.2 ⟨j, pow_lt (j := 12) hP, (beq_iff_eq.1 e).symm⟩
theorem atP_on {n P : Int} (h : AtP n P) (hP : P ≤ 4096) (e : (P == n) = false) : AtP n (P * 2) := by
  obtain ⟨j, hj, rfl, hn⟩ := h
  have h12 : j ≤ 12 := pow_lt (j := 12) hP
  refine ⟨j + 1, by omega, by rw [Int.pow_succ], fun i hi => ?_⟩
  by_cases ei : i = j
  · subst ei; intro e2; rw [e2] at e; simp at e
  · exact hn i (by omega)
theorem atP_end {n P : Int} (h : AtP n P) (hP : 4096 < P) : alignB n = false := by
  obtain ⟨j, hj, rfl, hn⟩ := h
  rw [Bool.eq_false_iff]; intro e
  obtain ⟨k, hk, rfl⟩ := alignB_iff.1 e
  have : ¬ j ≤ 12 := fun hk => by
    have h2 : 2 ^ j ≤ 2 ^ 12 := Nat.pow_le_pow_right (by decide) hk
    rw [← pow_cast] at hP; omega
  exact hn k (by omega) rfl
theorem ralign_any (n : Int) (w : World) : Calls Tryd.prog 13 #[.int .i64 n] w fun e w' => e = .returned (.bool (alignB n)) ∧ w = w' := by
  go_enter Tryd.func13, Tryd.ntmps13
  go_wp2
  go_loop [3] (fun p => ∃ P : Int, AtP n P ∧ p = .int .i64 P) (fun p => 10000 - (intOf p).toNat)
  case atStart => exact ⟨1, ⟨0, by omega, rfl, fun i hi => by omega⟩, rfl⟩
  case round =>
    obtain ⟨P, hP, rfl⟩ := hrel
    obtain ⟨b0, b1⟩ := atP_bd hP
    have HP := Lib.hid hP
    clear hP
    by_cases hlt : P ≤ 4096
    · cases hb : (P == n)
      · go_wp2
        go_round
        case rel => exact ⟨P * 2, atP_on HP.out hlt hb, by go_num⟩
        case measure => simp [intOf]; omega
      · go_wp2
        go_ret
        exact ⟨ret_b (atP_hit HP.out hlt hb).symm, rfl⟩
    · go_wp2
      go_ret
      exact ⟨ret_b (atP_end HP.out (by omega)).symm, rfl⟩

/-! ### SameInts, of two lists of a layout's sizes -/
def Drawn (w wr : World) : Prop := ∃ j, wr = w.drewN j
theorem Drawn.refl (w : World) : Drawn w w := ⟨0, rfl⟩
theorem Drawn.on {w wr : World} (h : Drawn w wr) (n : Nat) : Drawn w (wr.drewN n) := by
  obtain ⟨j, rfl⟩ := h; exact ⟨j + n, by rw [World.drewN_drewN]⟩
theorem up_drew {w W : World} (h : Below w.heap.size w W) : ∀ k, Below w.heap.size w (W.drewN k)
  | 0 => h
  | k + 1 => (up_drew h k).drew
theorem Drawn.below {w wr : World} (h : Drawn w wr) : Below w.heap.size w wr := by
  obtain ⟨j, rfl⟩ := h; exact up_drew (Below.refl _ w) j
theorem drewN_heap (w : World) : ∀ j, (w.drewN j).heap = w.heap
  | 0 => rfl
  | j + 1 => drewN_heap w j
theorem Drawn.heap {w wr : World} (h : Drawn w wr) : wr.heap = w.heap := by
  obtain ⟨j, rfl⟩ := h; exact drewN_heap w j
theorem same_walk (v : Int) (p q : Option Addr) (N : Nat) (w : World) (hN : cnt v = N) (h1 : Lst v w p) (h2 : Lst v w q) :
    Calls Tryd.prog 14 #[.slice p N N, .slice q N N] w fun e w' => e = .returned (.bool true) ∧ Drawn w w' := by
  have H1 := Lib.hid h1
  have H2 := Lib.hid h2
  have hN16 : N ≤ 16 := hN ▸ cnt_le v
  have HN' := Lib.hid hN
  have hNN : ((N : Int) != (N : Int)) = false := by simp
  clear h1 h2 hN
  go_enter Tryd.func14, Tryd.ntmps14
  go_wp2
  go_loopw [5] (fun i wr => ∃ k : Nat, k ≤ N ∧ i = .int .i64 k ∧ Drawn w wr) (fun i _ => N - (intOf i).toNat)
  case atStart => exact ⟨0, by omega, rfl, Drawn.refl _⟩
  case round =>
    obtain ⟨k, hk, rfl, hdr⟩ := hrel
    have HD := Lib.hid hdr
    clear hdr
    by_cases hlt : k < N
    · obtain ⟨g, rfl, q1⟩ := H1.out.below HD.out.below k (by rw [HN'.out]; exact hlt)
      obtain ⟨g2, rfl, q2⟩ := H2.out.below HD.out.below k (by rw [HN'.out]; exact hlt)
      have k1 : (0 : Int) ≤ (k : Int) := by omega
      have k2 : (k : Int) < (N : Int) := by omega
      generalize sz v k = s at *
      have hxx : (s != s) = false := by simp
      go_wp2_with fail
      go_quiet (fail)
      go_wp2
      go_roundw
      case rel => exact ⟨k + 1, by omega, by go_num, HD.out.on _⟩
      case measure => simp [intOf]; omega
    · obtain rfl : k = N := by omega
      go_wp2
      go_ret
      exact ⟨rfl, HD.out⟩
theorem same_any (v : Int) (p q : Option Addr) (w : World) (h1 : Lst v w p) (h2 : Lst v w q) :
    Calls Tryd.prog 14 #[.slice p (cnt v) (cnt v), .slice q (cnt v) (cnt v)] w fun e w' => e = .returned (.bool true) ∧ Drawn w w' :=
  same_walk v p q _ w rfl h1 h2

end Go.Proofs.YthdjceihbmdneaaDoor
