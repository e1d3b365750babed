/-
  The walk of the statement on what a class of either layout wastes.
-/
import Derived.Test.YthdjceihbmdneaaDoorAlive
namespace Go.Proofs.YthdjceihbmdneaaDoor
open Go.RowKit

/-- A law that answers true, and leaves all that was there as it was. -/
def Law (f : Nat) (args : Array Value) (w : World) : Prop := Calls Tryd.prog f args w fun e w' => e = .returned (.bool true) ∧ Below w.heap.size w w'

/-- A class's size is a multiple of 8; a slab's slots go into it; a class is less than twice the one before it. -/
theorem slot_facts0 : ∀ k, k < 16 → sz 0 k % 8 = 0 ∧ 0 ≤ 1024 / sz 0 k ∧ 1024 / sz 0 k ≤ 128 ∧ 1024 / sz 0 k * sz 0 k ≤ 1024 ∧ 0 ≤ 1024 / sz 0 k * sz 0 k ∧ (1 ≤ k → sz 0 k ≤ 2 * sz 0 (k - 1)) := by decide +kernel
theorem slot_facts1 : ∀ k, k < 12 → sz 1 k % 8 = 0 ∧ 0 ≤ 1024 / sz 1 k ∧ 1024 / sz 1 k ≤ 128 ∧ 1024 / sz 1 k * sz 1 k ≤ 1024 ∧ 0 ≤ 1024 / sz 1 k * sz 1 k ∧ (1 ≤ k → sz 1 k ≤ 2 * sz 1 (k - 1)) := by decide +kernel
theorem slot_facts {v : Int} (k : Nat) (hk : k < cnt v) : sz v k % 8 = 0 ∧ 0 ≤ 1024 / sz v k ∧ 1024 / sz v k ≤ 128 ∧ 1024 / sz v k * sz v k ≤ 1024 ∧ 0 ≤ 1024 / sz v k * sz v k ∧ (1 ≤ k → sz v k ≤ 2 * sz v (k - 1)) := by
  rcases layout v with rfl | rfl | ⟨h0, h1⟩
  · exact slot_facts0 k hk
  · exact slot_facts1 k hk
  · rw [cnt_no h0 h1] at hk; omega
theorem last_size {v : Int} (h0 : 0 ≤ v) (h1 : v ≤ 1) : 0 < cnt v ∧ sz v (cnt v - 1) = 512 := by
  rcases (by omega : v = 0 ∨ v = 1) with rfl | rfl
  · exact ⟨by rw [cnt_0]; omega, rfl⟩
  · exact ⟨by rw [cnt_1]; omega, rfl⟩
/-- The class of a size. -/
theorem first_one {v n : Int} (v0 : 0 ≤ v) (v1 : v ≤ 1) (h0 : 0 ≤ n) (h1 : n ≤ 512) : ∃ k : Nat, k < cnt v ∧ first v n 1 = (k : Int) ∧ n ≤ sz v k ∧ (1 ≤ k → sz v (k - 1) < n) := by
  obtain ⟨c0, c1⟩ := last_size v0 v1
  rcases first_is v n 1 with e | ⟨k, hk, e, _, _, h2, _, h4⟩
  · exfalso
    unfold first at e
    rw [if_pos ⟨h0, h1⟩] at e
    rcases seek_is (f := fits v n 1) (m := cnt v) (k := 0) with ⟨_, hn⟩ | ⟨i, e2, _⟩
    · have := hn (cnt v - 1) (by omega) (by omega)
      simp only [fits, Int.emod_one, beq_self_eq_true, Bool.and_true, decide_eq_false_iff_not] at this
      omega
    · omega
  · refine ⟨k, hk, e, h2, fun hp => ?_⟩
    have := h4 (k - 1) (by omega)
    simp only [fits, Int.emod_one, beq_self_eq_true, Bool.and_true, decide_eq_false_iff_not] at this
    omega

theorem waste_out (v n : Int) (w : World) (h : ¬ (0 ≤ v ∧ v ≤ 1 ∧ 0 ≤ n ∧ n ≤ 512)) (hT : Tab w) : Law 6 #[.int .i64 v, .int .i64 n] w := by
  have e : first v n 1 = -1 := by
    by_cases hv : 0 ≤ v ∧ v ≤ 1
    · exact first_out (by omega)
    · exact first_no (by omega) (by omega)
  have G : Same 9 #[.int .i64 v, .int .i64 n] (.tuple #[.int .i64 (-1), .bool false]) := fun W hW => by
    have := class_any v n W hW
    rw [e] at this; exact this
  have HG := Lib.hid G
  have HT := Lib.hid hT
  have hd : decide (v < 0) = true ∨ (decide (v < 0) = false ∧ decide (1 < v) = true) ∨ (decide (v < 0) = false ∧ decide (1 < v) = false ∧ decide (n < 0) = true) ∨ (decide (v < 0) = false ∧ decide (1 < v) = false ∧ decide (n < 0) = false ∧ decide (512 < n) = true) := by simp; omega
  clear G hT h e
  rcases hd with h1 | ⟨h1, h2⟩ | ⟨h1, h2, h3⟩ | ⟨h1, h2, h3, h4⟩
  all_goals
    show Calls _ _ _ _ _
    go_enter Tryd.func6, Tryd.ntmps6
    go_wp2_with fail
    refine (alive_any _ HT.out).mono ?_
    rintro e W ⟨rfl, hb⟩
    have T2 := Lib.hid (HT.out.below hb)
    go_wp2_with fail
    refine (HG.out _ T2.out).mono ?_
    rintro e w' ⟨rfl, rfl⟩
    go_wp2
    go_ret
    exact ⟨rfl, hb⟩

theorem waste_walk (v n k s p L z : Int) (b : Bool) (w : World) (hT : Tab w) (g1 : Same 9 #[.int .i64 v, .int .i64 n] (.tuple #[.int .i64 k, .bool true])) (g2 : Same 16 #[.int .i64 v, .int .i64 k] (.int .i64 s)) (g3 : Same 16 #[.int .i64 v, .int .i64 (k - 1)] (.int .i64 p)) (g4 : Same 17 #[.int .i64 v, .int .i64 k] (.int .i64 L))
    (v0 : 0 ≤ v) (v1 : v ≤ 1) (n0 : 0 ≤ n) (n1 : n ≤ 512) (k0 : 0 ≤ k) (k1 : k < 16) (s0 : 8 ≤ s) (s1 : s ≤ 512) (q1 : decide (n ≤ s) = true) (q2 : b = false → decide (s < 2 * n) = true) (q3 : (k == 0) = b) (q4 : b = false → decide (p < n) = true) (q5 : (s % 8 == 0) = true)
    (m : L * s = z) (z0 : 0 ≤ z) (z1 : z ≤ 1024) : Law 6 #[.int .i64 v, .int .i64 n] w := by
  have G1 := Lib.hid g1
  have G2 := Lib.hid g2
  have G3 := Lib.hid g3
  have G4 := Lib.hid g4
  have Q2 := Lib.hid q2
  have Q4 := Lib.hid q4
  have HT := Lib.hid hT
  have e0 : decide (v < 0) = false := by simpa using v0
  have e1 : decide (1 < v) = false := by simpa using v1
  have d0 : decide (n < 0) = false := by simpa using n0
  have d1 : decide (512 < n) = false := by simpa using n1
  clear g1 g2 g3 g4 q2 q4 hT
  show Calls _ _ _ _ _
  go_enter Tryd.func6, Tryd.ntmps6
  go_wp2_with fail
  refine (alive_any _ HT.out).mono ?_
  rintro e W ⟨rfl, hb⟩
  have T2 := Lib.hid (HT.out.below hb)
  go_wp2_with fail
  refine (G1.out _ T2.out).mono ?_
  rintro e w' ⟨rfl, rfl⟩
  go_wp2_with fail
  refine (G2.out _ T2.out).mono ?_
  rintro e w' ⟨rfl, rfl⟩
  cases b
  · have q2 := Q2.out rfl
    have q4 := Q4.out rfl
    go_wp2_with fail
    refine (G3.out _ T2.out).mono ?_
    rintro e w' ⟨rfl, rfl⟩
    go_wp2_with fail
    refine (G4.out _ T2.out).mono ?_
    rintro e w' ⟨rfl, rfl⟩
    go_wp2
    go_ret
    exact ⟨rfl, hb⟩
  · cases q2 : decide (s < 2 * n)
    all_goals
      go_wp2_with fail
      refine (G4.out _ T2.out).mono ?_
      rintro e w' ⟨rfl, rfl⟩
      go_wp2
      go_ret
      exact ⟨rfl, hb⟩

theorem waste_any (v n : Int) (w : World) (hT : Tab w) : Law 6 #[.int .i64 v, .int .i64 n] w := by
  by_cases h : 0 ≤ v ∧ v ≤ 1 ∧ 0 ≤ n ∧ n ≤ 512
  · obtain ⟨v0, v1, n0, n1⟩ := h
    obtain ⟨k, hk, e, h1, h2⟩ := first_one v0 v1 n0 n1
    have hc := cnt_le v
    obtain ⟨s0, s1⟩ := sz_bd k hk
    obtain ⟨f1, _, _, f4, f5, f6⟩ := slot_facts k hk
    refine waste_walk v n k (sz v k) (sizeOf' v (k - 1)) (1024 / sz v k) _ _ w hT (fun W hW => ?_) (fun W hW => ?_) (fun W hW => size_any v _ W hW) (fun W hW => ?_) v0 v1 n0 n1 (by omega) (by omega) s0 s1
      (by simpa using h1) (fun hb => ?_) rfl (fun hb => ?_) (by simp [f1]) rfl f5 f4
    · have := class_any v n W hW
      rw [e] at this
      simpa using this
    · have := size_any v k W hW
      rwa [sizeOf_nat] at this
    · have := slots_any v k W hW
      rwa [slotsOf_some (by rw [sizeOf_nat]; omega), sizeOf_nat] at this
    · have hb : k ≠ 0 := by simpa using hb
      have := h2 (by omega)
      have := f6 (by omega)
      simp; omega
    · have hb : k ≠ 0 := by simpa using hb
      have e2 : (k : Int) - 1 = ((k - 1 : Nat) : Int) := by omega
      rw [e2, sizeOf_nat]
      have := h2 (by omega)
      simp; omega
  · exact waste_out v n w h hT

end Go.Proofs.YthdjceihbmdneaaDoor
