/-
  What the reference functions do: contracts that the claimed proofs use.
-/
import Derived.Test.YtlbhbjcimbgffaaDoorWaste
namespace Go.Proofs.YtlbhbjcimbgffaaDoor
open Go.RowKit

/-- A block holds the sizes. -/
def At (W : World) (g : Nat) : Prop := ∀ j, j < 16 → W.cell? ⟨g, j, none⟩ = some (.int .i64 (sz j))
theorem At.lt {W : World} {g : Nat} (h : At W g) : g < W.heap.size := World.block_lt_of_cell? W ⟨g, 0, none⟩ (h 0 (by omega))
theorem At.below {w w' : World} {g : Nat} (h : At w g) (hb : Below w.heap.size w w') : At w' g := fun j hj => (hb.cell (p := ⟨g, j, none⟩) h.lt).trans (h j hj)
theorem at_new (w : World) (t : TypeId) : At (w.alloc (.cells row t)) w.heap.size := fun j hj => gave_cell (gave_new w t) j hj

/-- ref.First. -/
theorem rfirst_in (g : Nat) (n a R : Int) (w : World) (h0 : 0 ≤ n) (h1 : n ≤ 512) (a0 : 1 ≤ a) (hR : first n a = R) (hA : At w g) :
    Calls Tryd.prog 9 #[.slice (some ⟨g, 0, none⟩) 16 16, .int .i64 n, .int .i64 a] w fun e w' => e = .returned (.int .i64 R) ∧ w = w' := by
  have HR := Lib.hid hR
  have HA := Lib.hid hA
  have d0 : decide (n < 0) = false := by simpa using h0
  have d1 : decide (512 < n) = false := by simpa using h1
  clear hA hR
  go_enter Tryd.func9, Tryd.ntmps9
  go_wp2
  go_loop [7] (fun i => ∃ k : Nat, k ≤ 16 ∧ noneTo n a k ∧ i = .int .i64 k) (fun i => 16 - (intOf i).toNat)
  case atStart => exact ⟨0, by omega, noneTo_zero n a, rfl⟩
  case round =>
    obtain ⟨k, hk, hn, rfl⟩ := hrel
    have HN := Lib.hid hn
    clear hn
    by_cases hlt : k < 16
    · have hi := HA.out k hlt
      have k1 : (0 : Int) ≤ (k : Int) := by omega
      have k2 : (k : Int) < 16 := by omega
      obtain ⟨s0, s1⟩ := sz_bd k hlt
      obtain ⟨s, hs⟩ : ∃ s, sz k = s := ⟨_, rfl⟩
      rw [hs] at hi s0 s1
      have HS := Lib.hid hs
      clear hs
      by_cases hge : n ≤ s
      · have g1 : decide (n ≤ s) = true := by simpa using hge
        cases hr : (s % a == 0)
        · go_wp2
          go_round
          case rel => exact ⟨k + 1, by omega, noneTo_on HN.out (by unfold fits; rw [HS.out, g1, hr]; rfl), by go_num⟩
          case measure => simp [intOf]; omega
        · have e : R = (k : Int) := by rw [← HR.out]; exact first_hit h0 h1 HN.out hlt (by unfold fits; rw [HS.out, g1, hr]; rfl)
          subst e
          go_wp2
          go_ret
          exact ⟨rfl, rfl⟩
      · have g1 : decide (n ≤ s) = false := by simpa using hge
        go_wp2
        go_round
        case rel => exact ⟨k + 1, by omega, noneTo_on HN.out (by unfold fits; rw [HS.out, g1]; rfl), by go_num⟩
        case measure => simp [intOf]; omega
    · obtain rfl : k = 16 := by omega
      have e : R = -1 := by rw [← HR.out]; exact first_none HN.out
      subst e
      go_wp2
      go_ret
      exact ⟨rfl, rfl⟩
theorem rfirst_out (A : Value) (n a : Int) (w : World) (h : ¬ (0 ≤ n ∧ n ≤ 512)) :
    Calls Tryd.prog 9 #[A, .int .i64 n, .int .i64 a] w fun e w' => e = .returned (.int .i64 (-1)) ∧ w = w' := by
  by_cases h0 : 0 ≤ n
  · have d0 : decide (n < 0) = false := by simpa using h0
    have d1 : decide (512 < n) = true := by simp; omega
    clear h
    go_enter Tryd.func9, Tryd.ntmps9
    go_wp2
    go_ret
    exact ⟨rfl, rfl⟩
  · have d0 : decide (n < 0) = true := by simpa using h0
    clear h
    go_enter Tryd.func9, Tryd.ntmps9
    go_wp2
    go_ret
    exact ⟨rfl, rfl⟩
theorem rfirst_any (g : Nat) (n a : Int) (w : World) (a0 : 1 ≤ a) (hA : At w g) :
    Calls Tryd.prog 9 #[.slice (some ⟨g, 0, none⟩) 16 16, .int .i64 n, .int .i64 a] w fun e w' => e = .returned (.int .i64 (first n a)) ∧ w = w' := by
  by_cases h : 0 ≤ n ∧ n ≤ 512
  · exact rfirst_in g n a _ w h.1 h.2 a0 rfl hA
  · rw [first_out h]; exact rfirst_out _ n a w h

/-- ref.Align. -/
def AtP (n P : Int) : Prop := ∃ j : Nat, j ≤ 13 ∧ P = 2 ^ j ∧ ∀ i, i < j → n ≠ 2 ^ i
theorem pow_lt {i j : Nat} (h : (2 : Int) ^ i ≤ 2 ^ j) : i ≤ j := by
  apply Nat.le_of_not_lt
  intro hk
  have h2 : 2 ^ (j + 1) ≤ 2 ^ i := Nat.pow_le_pow_right (by decide) hk
  have h3 : 0 < 2 ^ j := Nat.two_pow_pos j
  rw [Nat.pow_succ] at h2
  rw [← pow_cast, ← pow_cast] at h
  omega
theorem alignB_iff {a : Int} : alignB a = true ↔ ∃ k : Nat, k ≤ 12 ∧ a = 2 ^ k := by
  simp only [alignB, Bool.and_eq_true, decide_eq_true_eq]
  constructor
  · rintro ⟨h, h2⟩
    obtain ⟨k, _, rfl⟩ := powB_iff.1 h2
    exact ⟨k, pow_lt (j := 12) h, rfl⟩
  · rintro ⟨k, hk, rfl⟩
    refine ⟨?_, powB_iff.2 ⟨k, by omega, rfl⟩⟩
    have h2 : 2 ^ k ≤ 2 ^ 12 := Nat.pow_le_pow_right (by decide) hk
    rw [← pow_cast]; omega
theorem atP_bd {n P : Int} (h : AtP n P) : 1 ≤ P ∧ P ≤ 8192 := by
  obtain ⟨j, hj, rfl, _⟩ := h
  have h1 : 2 ^ j ≤ 2 ^ 13 := Nat.pow_le_pow_right (by decide) hj
  have h2 : 0 < 2 ^ j := Nat.two_pow_pos j
  rw [← pow_cast]; omega
theorem atP_hit {n P : Int} (h : AtP n P) (hP : P ≤ 4096) (e : (P == n) = true) : alignB n = true := by
  obtain ⟨j, hj, rfl, _⟩ := h
  exact alignB_iff.2 ⟨j, pow_lt (j := 12) hP, (beq_iff_eq.1 e).symm⟩
theorem atP_on {n P : Int} (h : AtP n P) (hP : P ≤ 4096) (e : (P == n) = false) : AtP n (P * 2) := by
  obtain ⟨j, hj, rfl, hn⟩ := h
  have h12 : j ≤ 12 := pow_lt (j := 12) hP
  refine ⟨j + 1, by omega, by rw [Int.pow_succ], fun i hi => ?_⟩
  by_cases ei : i = j
  · subst ei; intro e2; rw [e2] at e; simp at e
  · exact hn i (by omega)
theorem atP_end {n P : Int} (h : AtP n P) (hP : 4096 < P) : alignB n = false := by
  obtain ⟨j, hj, rfl, hn⟩ := h
  rw [Bool.eq_false_iff]; intro e
  obtain ⟨k, hk, rfl⟩ := alignB_iff.1 e
  have : ¬ j ≤ 12 := fun hk => by
    have h2 : 2 ^ j ≤ 2 ^ 12 := Nat.pow_le_pow_right (by decide) hk
    rw [← pow_cast] at hP; omega
  exact hn k (by omega) rfl
theorem ralign_any (n : Int) (w : World) : Calls Tryd.prog 11 #[.int .i64 n] w fun e w' => e = .returned (.bool (alignB n)) ∧ w = w' := by
  go_enter Tryd.func11, Tryd.ntmps11
  go_wp2
  go_loop [3] (fun p => ∃ P : Int, AtP n P ∧ p = .int .i64 P) (fun p => 10000 - (intOf p).toNat)
  case atStart => exact ⟨1, ⟨0, by omega, rfl, fun i hi => by omega⟩, rfl⟩
  case round =>
    obtain ⟨P, hP, rfl⟩ := hrel
    obtain ⟨b0, b1⟩ := atP_bd hP
    have HP := Lib.hid hP
    clear hP
    by_cases hlt : P ≤ 4096
    · cases hb : (P == n)
      · go_wp2
        go_round
        case rel => exact ⟨P * 2, atP_on HP.out hlt hb, by go_num⟩
        case measure => simp [intOf]; omega
      · go_wp2
        go_ret
        exact ⟨ret_b (atP_hit HP.out hlt hb).symm, rfl⟩
    · go_wp2
      go_ret
      exact ⟨ret_b (atP_end HP.out (by omega)).symm, rfl⟩

/-! ### SameInts, of two lists of the sizes -/
def Drawn (w wr : World) : Prop := ∃ j, wr = w.drewN j
theorem Drawn.refl (w : World) : Drawn w w := ⟨0, rfl⟩
theorem Drawn.on {w wr : World} (h : Drawn w wr) (n : Nat) : Drawn w (wr.drewN n) := by
  obtain ⟨j, rfl⟩ := h; exact ⟨j + n, by rw [World.drewN_drewN]⟩
theorem up_drew {w W : World} (h : Below w.heap.size w W) : ∀ k, Below w.heap.size w (W.drewN k)
  | 0 => h
  | k + 1 => (up_drew h k).drew
theorem Drawn.below {w wr : World} (h : Drawn w wr) : Below w.heap.size w wr := by
  obtain ⟨j, rfl⟩ := h; exact up_drew (Below.refl _ w) j
theorem drewN_heap (w : World) : ∀ j, (w.drewN j).heap = w.heap
  | 0 => rfl
  | j + 1 => drewN_heap w j
theorem Drawn.heap {w wr : World} (h : Drawn w wr) : wr.heap = w.heap := by
  obtain ⟨j, rfl⟩ := h; exact drewN_heap w j
theorem same_row (g g2 : Nat) (w : World) (h1 : At w g) (h2 : At w g2) :
    Calls Tryd.prog 13 #[.slice (some ⟨g, 0, none⟩) 16 16, .slice (some ⟨g2, 0, none⟩) 16 16] w fun e w' => e = .returned (.bool true) ∧ Drawn w w' := by
  have H1 := Lib.hid h1
  have H2 := Lib.hid h2
  clear h1 h2
  go_enter Tryd.func13, Tryd.ntmps13
  go_wp2
  go_loopw [5] (fun i wr => ∃ k : Nat, k ≤ 16 ∧ i = .int .i64 k ∧ Drawn w wr) (fun i _ => 16 - (intOf i).toNat)
  case atStart => exact ⟨0, by omega, rfl, Drawn.refl _⟩
  case round =>
    obtain ⟨k, hk, rfl, hdr⟩ := hrel
    have HD := Lib.hid hdr
    clear hdr
    by_cases hlt : k < 16
    · have q1 := H1.out.below HD.out.below k hlt
      have q2 := H2.out.below HD.out.below k hlt
      have k1 : (0 : Int) ≤ (k : Int) := by omega
      have k2 : (k : Int) < 16 := by omega
      generalize sz k = s at *
      have hxx : (s != s) = false := by simp
      go_wp2_with fail
      go_quiet (fail)
      go_wp2
      go_roundw
      case rel => exact ⟨k + 1, by omega, by go_num, HD.out.on _⟩
      case measure => simp [intOf]; omega
    · obtain rfl : k = 16 := by omega
      go_wp2
      go_ret
      exact ⟨rfl, HD.out⟩

end Go.Proofs.YtlbhbjcimbgffaaDoor
