/-
  What the small functions do: contracts that the claimed proofs use.
-/
import Derived.Test.YtjjilnklcjgndaaMem
namespace Go.Proofs.Ytjjilnklcjgndaa
open Go.RowKit

/-- Is there such an item, or list? -/
def hasB (n : Nat) (k : Int) : Bool := decide (0 ≤ k ∧ k < n)
theorem hasB_iff {n : Nat} {k : Int} : hasB n k = true ↔ 0 ≤ k ∧ k < n := by simp [hasB]
theorem hasB_not {n : Nat} {k : Int} : hasB n k = false ↔ ¬ (0 ≤ k ∧ k < n) := by simp only [hasB, decide_eq_false_iff_not]
theorem item_any (q a n ca : Nat) (k : Int) (w : World) (hc : w.cell? ⟨q, 0, none⟩ = some (.slice (some ⟨a, 0, none⟩) n ca)) :
    Calls Try.prog 28 #[.pointer (some ⟨q, 0, none⟩), .int .i64 k] w fun e w' => e = .returned (.bool (hasB n k)) ∧ w = w' := by
  by_cases h0 : 0 ≤ k
  · go_enter Try.func28, Try.ntmps28
    go_wp2
    go_ret
    exact ⟨ret_b (by unfold hasB; rw [decide_eq_decide]; omega), rfl⟩
  · have hd : decide (0 ≤ k) = false := by simpa using h0
    go_enter Try.func28, Try.ntmps28
    go_wp2
    go_ret
    exact ⟨ret_b (by unfold hasB; symm; rw [decide_eq_false_iff_not]; omega), rfl⟩
theorem list_any (q b m cb : Nat) (k : Int) (w : World) (hc : w.cell? ⟨q, 1, none⟩ = some (.slice (some ⟨b, 0, none⟩) m cb)) :
    Calls Try.prog 30 #[.pointer (some ⟨q, 0, none⟩), .int .i64 k] w fun e w' => e = .returned (.bool (hasB m k)) ∧ w = w' := by
  by_cases h0 : 0 ≤ k
  · go_enter Try.func30, Try.ntmps30
    go_wp2
    go_ret
    exact ⟨ret_b (by unfold hasB; rw [decide_eq_decide]; omega), rfl⟩
  · have hd : decide (0 ≤ k) = false := by simpa using h0
    go_enter Try.func30, Try.ntmps30
    go_wp2
    go_ret
    exact ⟨ret_b (by unfold hasB; symm; rw [decide_eq_false_iff_not]; omega), rfl⟩
theorem knot_any (q a n ca l : Nat) (w : World) (hc : w.cell? ⟨q, 0, none⟩ = some (.slice (some ⟨a, 0, none⟩) n ca)) (hn : n ≤ 4096) (hl : l ≤ 256) :
    Calls Try.prog 25 #[.pointer (some ⟨q, 0, none⟩), .int .i64 (l : Int)] w fun e w' => e = .returned (.int .i64 ((n + l : Nat) : Int)) ∧ w = w' := by
  go_enter Try.func25, Try.ntmps25
  go_wp2
  go_ret
  exact ⟨ret_i (by omega), rfl⟩
/-- An item, or none where it is a knot. -/
def bh (n v : Nat) : Int := if v < n then (v : Int) else -1
theorem behind_any (q a n ca c N cc k v : Nat) (w : World) (h0 : w.cell? ⟨q, 0, none⟩ = some (.slice (some ⟨a, 0, none⟩) n ca)) (h2 : w.cell? ⟨q, 2, none⟩ = some (.slice (some ⟨c, 0, none⟩) N cc))
    (hk : k < N) (hv : w.cell? ⟨c, k, none⟩ = some (.int .i64 (v : Int))) :
    Calls Try.prog 29 #[.pointer (some ⟨q, 0, none⟩), .int .i64 (k : Int)] w fun e w' => e = .returned (.int .i64 (bh n v)) ∧ w = w' := by
  have b1 : (0 : Int) ≤ (k : Int) := by omega
  have b2 : (k : Int) < (N : Int) := by omega
  have HI := Lib.hid (item_any q a n ca (v : Int) w h0)
  cases h : hasB n (v : Int)
  · rw [h] at HI
    have e : bh n v = -1 := by unfold bh; rw [if_neg]; have := hasB_not.1 h; omega
    rw [e]
    clear e h
    go_enter Try.func29, Try.ntmps29
    go_wp2_with (go_at_call 28; refine HI.out.mono ?_; rintro e w' ⟨rfl, rfl⟩)
    go_ret
    exact ⟨rfl, rfl⟩
  · rw [h] at HI
    have e : bh n v = (v : Int) := by unfold bh; rw [if_pos]; have := hasB_iff.1 h; omega
    rw [e]
    clear e h
    go_enter Try.func29, Try.ntmps29
    go_wp2_with (go_at_call 28; refine HI.out.mono ?_; rintro e w' ⟨rfl, rfl⟩)
    go_ret
    exact ⟨rfl, rfl⟩
/-! ### In -/
theorem in_no (q a n ca : Nat) (k : Int) (w : World) (hc : w.cell? ⟨q, 0, none⟩ = some (.slice (some ⟨a, 0, none⟩) n ca)) (hno : hasB n k = false) :
    Calls Try.prog 13 #[.pointer (some ⟨q, 0, none⟩), .int .i64 k] w fun e w' => e = .returned (.int .i64 (-1)) ∧ w = w' := by
  have HI := Lib.hid (item_any q a n ca k w hc)
  rw [hno] at HI
  clear hno
  go_enter Try.func13, Try.ntmps13
  go_wp2_with (go_at_call 28; refine HI.out.mono ?_; rintro e w' ⟨rfl, rfl⟩)
  go_ret
  exact ⟨rfl, rfl⟩
theorem in_yes (q a n ca k : Nat) (v : Int) (w : World) (hc : w.cell? ⟨q, 0, none⟩ = some (.slice (some ⟨a, 0, none⟩) n ca)) (hk : k < n) (hv : w.cell? ⟨a, k, none⟩ = some (.int .i64 v)) :
    Calls Try.prog 13 #[.pointer (some ⟨q, 0, none⟩), .int .i64 (k : Int)] w fun e w' => e = .returned (.int .i64 v) ∧ w = w' := by
  have HI := Lib.hid (item_any q a n ca k w hc)
  rw [hasB_iff.2 (by omega)] at HI
  have b1 : (0 : Int) ≤ (k : Int) := by omega
  have b2 : (k : Int) < (n : Int) := by omega
  go_enter Try.func13, Try.ntmps13
  go_wp2_with (go_at_call 28; refine HI.out.mono ?_; rintro e w' ⟨rfl, rfl⟩)
  go_ret
  exact ⟨rfl, rfl⟩
/-! ### Next -/
theorem next_no (q : Nat) (k : Int) (w : World) (hin : Calls Try.prog 13 #[.pointer (some ⟨q, 0, none⟩), .int .i64 k] w fun e w' => e = .returned (.int .i64 (-1)) ∧ w = w') :
    Calls Try.prog 14 #[.pointer (some ⟨q, 0, none⟩), .int .i64 k] w fun e w' => e = .returned (.int .i64 (-1)) ∧ w = w' := by
  have HI := Lib.hid hin
  clear hin
  go_enter Try.func14, Try.ntmps14
  go_wp2_with (go_at_call 13; refine HI.out.mono ?_; rintro e w' ⟨rfl, rfl⟩)
  go_ret
  exact ⟨rfl, rfl⟩
theorem next_yes (q : Nat) (k v r : Int) (w : World) (hv : 0 ≤ v) (hin : Calls Try.prog 13 #[.pointer (some ⟨q, 0, none⟩), .int .i64 k] w fun e w' => e = .returned (.int .i64 v) ∧ w = w')
    (hbe : Calls Try.prog 29 #[.pointer (some ⟨q, 0, none⟩), .int .i64 k] w fun e w' => e = .returned (.int .i64 r) ∧ w = w') :
    Calls Try.prog 14 #[.pointer (some ⟨q, 0, none⟩), .int .i64 k] w fun e w' => e = .returned (.int .i64 r) ∧ w = w' := by
  have HI := Lib.hid hin
  have HB := Lib.hid hbe
  have hne : (v == -1) = false := by simp; omega
  clear hin hbe
  go_enter Try.func14, Try.ntmps14
  go_wp2_with (first | (go_at_call 13; refine HI.out.mono ?_; rintro e w' ⟨rfl, rfl⟩) | (go_at_call 29; refine HB.out.mono ?_; rintro e w' ⟨rfl, rfl⟩))
  go_ret
  exact ⟨rfl, rfl⟩
/-! ### First -/
theorem first_no (q b m cb : Nat) (k : Int) (w : World) (hc : w.cell? ⟨q, 1, none⟩ = some (.slice (some ⟨b, 0, none⟩) m cb)) (hno : hasB m k = false) :
    Calls Try.prog 15 #[.pointer (some ⟨q, 0, none⟩), .int .i64 k] w fun e w' => e = .returned (.int .i64 (-1)) ∧ w = w' := by
  have HI := Lib.hid (list_any q b m cb k w hc)
  rw [hno] at HI
  clear hno
  go_enter Try.func15, Try.ntmps15
  go_wp2_with (go_at_call 30; refine HI.out.mono ?_; rintro e w' ⟨rfl, rfl⟩)
  go_ret
  exact ⟨rfl, rfl⟩
theorem first_yes (q a n ca b m cb c N cc l v : Nat) (w : World) (h0 : w.cell? ⟨q, 0, none⟩ = some (.slice (some ⟨a, 0, none⟩) n ca)) (h1 : w.cell? ⟨q, 1, none⟩ = some (.slice (some ⟨b, 0, none⟩) m cb)) (h2 : w.cell? ⟨q, 2, none⟩ = some (.slice (some ⟨c, 0, none⟩) N cc))
    (hn : n ≤ 4096) (hm : m ≤ 256) (hl : l < m) (hk : n + l < N) (hv : w.cell? ⟨c, n + l, none⟩ = some (.int .i64 (v : Int))) :
    Calls Try.prog 15 #[.pointer (some ⟨q, 0, none⟩), .int .i64 (l : Int)] w fun e w' => e = .returned (.int .i64 (bh n v)) ∧ w = w' := by
  have HI := Lib.hid (list_any q b m cb l w h1)
  have HK := Lib.hid (knot_any q a n ca l w h0 hn (by omega))
  have HB := Lib.hid (behind_any q a n ca c N cc (n + l) v w h0 h2 hk hv)
  rw [hasB_iff.2 (by omega)] at HI
  obtain ⟨r, hr⟩ : ∃ r, bh n v = r := ⟨_, rfl⟩
  rw [hr] at HB ⊢
  clear hr
  obtain ⟨z, hz⟩ : ∃ z, n + l = z := ⟨_, rfl⟩
  rw [hz] at HB HK
  clear h0 h1 h2 hv hz hk
  go_enter Try.func15, Try.ntmps15
  go_wp2_with (first | (go_at_call 30; refine HI.out.mono ?_; rintro e w' ⟨rfl, rfl⟩) | (go_at_call 25; refine HK.out.mono ?_; rintro e w' ⟨rfl, rfl⟩) | (go_at_call 29; refine HB.out.mono ?_; rintro e w' ⟨rfl, rfl⟩))
  go_ret
  exact ⟨rfl, rfl⟩
/-! ### Len -/
theorem len_no (q b m cb : Nat) (k : Int) (w : World) (hc : w.cell? ⟨q, 1, none⟩ = some (.slice (some ⟨b, 0, none⟩) m cb)) (hno : hasB m k = false) :
    Calls Try.prog 16 #[.pointer (some ⟨q, 0, none⟩), .int .i64 k] w fun e w' => e = .returned (.int .i64 0) ∧ w = w' := by
  have HI := Lib.hid (list_any q b m cb k w hc)
  rw [hno] at HI
  clear hno
  go_enter Try.func16, Try.ntmps16
  go_wp2_with (go_at_call 30; refine HI.out.mono ?_; rintro e w' ⟨rfl, rfl⟩)
  go_ret
  exact ⟨rfl, rfl⟩
theorem len_yes (q b m cb k : Nat) (v : Int) (w : World) (hc : w.cell? ⟨q, 1, none⟩ = some (.slice (some ⟨b, 0, none⟩) m cb)) (hk : k < m) (hv : w.cell? ⟨b, k, none⟩ = some (.int .i64 v)) :
    Calls Try.prog 16 #[.pointer (some ⟨q, 0, none⟩), .int .i64 (k : Int)] w fun e w' => e = .returned (.int .i64 v) ∧ w = w' := by
  have HI := Lib.hid (list_any q b m cb k w hc)
  rw [hasB_iff.2 (by omega)] at HI
  have b1 : (0 : Int) ≤ (k : Int) := by omega
  have b2 : (k : Int) < (m : Int) := by omega
  go_enter Try.func16, Try.ntmps16
  go_wp2_with (go_at_call 30; refine HI.out.mono ?_; rintro e w' ⟨rfl, rfl⟩)
  go_ret
  exact ⟨rfl, rfl⟩
/-! ### mayEnter -/
theorem may_bad (q a n ca b m cb : Nat) (i x : Int) (w : World) (h0 : w.cell? ⟨q, 0, none⟩ = some (.slice (some ⟨a, 0, none⟩) n ca)) (h1 : w.cell? ⟨q, 1, none⟩ = some (.slice (some ⟨b, 0, none⟩) m cb)) (hno : (hasB m i && hasB n x) = false) :
    Calls Try.prog 33 #[.pointer (some ⟨q, 0, none⟩), .int .i64 i, .int .i64 x] w fun e w' => e = .returned (.int .i64 11) ∧ w = w' := by
  have HI := Lib.hid (item_any q a n ca x w h0)
  have HL := Lib.hid (list_any q b m cb i w h1)
  cases hi : hasB m i
  · rw [hi] at HL
    clear hi hno h0 h1
    go_enter Try.func33, Try.ntmps33
    go_wp2_with (first | (go_at_call 30; refine HL.out.mono ?_; rintro e w' ⟨rfl, rfl⟩))
    go_ret
    exact ⟨rfl, rfl⟩
  · rw [hi, Bool.true_and] at hno
    rw [hi] at HL
    rw [hno] at HI
    clear hi hno h0 h1
    go_enter Try.func33, Try.ntmps33
    go_wp2_with (first | (go_at_call 30; refine HL.out.mono ?_; rintro e w' ⟨rfl, rfl⟩) | (go_at_call 28; refine HI.out.mono ?_; rintro e w' ⟨rfl, rfl⟩))
    go_ret
    exact ⟨rfl, rfl⟩
theorem may_ok (q a n ca b m cb i x : Nat) (v E : Int) (w : World) (h0 : w.cell? ⟨q, 0, none⟩ = some (.slice (some ⟨a, 0, none⟩) n ca)) (h1 : w.cell? ⟨q, 1, none⟩ = some (.slice (some ⟨b, 0, none⟩) m cb)) (hi : i < m) (hx : x < n)
    (hv : w.cell? ⟨a, x, none⟩ = some (.int .i64 v)) (hE : (0 ≤ v ∧ E = 15) ∨ (v = -1 ∧ E = 0)) :
    Calls Try.prog 33 #[.pointer (some ⟨q, 0, none⟩), .int .i64 (i : Int), .int .i64 (x : Int)] w fun e w' => e = .returned (.int .i64 E) ∧ w = w' := by
  have HI := Lib.hid (item_any q a n ca x w h0)
  have HL := Lib.hid (list_any q b m cb i w h1)
  rw [hasB_iff.2 (by omega)] at HI HL
  have b1 : (0 : Int) ≤ (x : Int) := by omega
  have b2 : (x : Int) < (n : Int) := by omega
  clear h1
  rcases hE with ⟨hv0, rfl⟩ | ⟨rfl, rfl⟩
  · have hne : (v != -1) = true := by simp; omega
    go_enter Try.func33, Try.ntmps33
    go_wp2_with (first | (go_at_call 30; refine HL.out.mono ?_; rintro e w' ⟨rfl, rfl⟩) | (go_at_call 28; refine HI.out.mono ?_; rintro e w' ⟨rfl, rfl⟩))
    go_ret
    exact ⟨rfl, rfl⟩
  · go_enter Try.func33, Try.ntmps33
    go_wp2_with (first | (go_at_call 30; refine HL.out.mono ?_; rintro e w' ⟨rfl, rfl⟩) | (go_at_call 28; refine HI.out.mono ?_; rintro e w' ⟨rfl, rfl⟩))
    go_ret
    exact ⟨rfl, rfl⟩
end Go.Proofs.Ytjjilnklcjgndaa
