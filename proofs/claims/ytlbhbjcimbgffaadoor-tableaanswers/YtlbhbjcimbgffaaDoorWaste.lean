/-
  The walk of the statement on what a class wastes.
-/
import Derived.Test.YtlbhbjcimbgffaaDoorAlive
namespace Go.Proofs.YtlbhbjcimbgffaaDoor
open Go.RowKit

/-- A call that answers one value and leaves the world, wherever the table lies. -/
def Same (f : Nat) (args : Array Value) (v : Value) : Prop := ∀ W : World, Tab W → Calls Tryd.prog f args W fun e w' => e = .returned v ∧ W = w'
/-- A law that answers true, and leaves all that was there as it was. -/
def Law (f : Nat) (args : Array Value) (w : World) : Prop := Calls Tryd.prog f args w fun e w' => e = .returned (.bool true) ∧ Below w.heap.size w w'

/-- A class's size is a multiple of 16; a slab's slots are as many as go into it. -/
theorem slot_facts : ∀ k, k < 16 → sz k % 16 = 0 ∧ 2 ≤ 1024 / sz k ∧ 1024 / sz k ≤ 64 ∧ 1024 / sz k * sz k ≤ 1024 ∧ 0 ≤ 1024 / sz k * sz k ∧ 1024 < (1024 / sz k + 1) * sz k ∧ (1024 / sz k + 1) * sz k ≤ 2048 := by decide +kernel
theorem step_facts : ∀ k, k < 16 → (k = 0 → sz k = 16) ∧ (1 ≤ k → sz k ≤ sz (k - 1) + sz (k - 1) / 4 + 16) := by decide +kernel
theorem waste_le {k : Nat} {n : Int} (hk : k < 16) (h0 : 0 ≤ n) (hp : 1 ≤ k → sz (k - 1) < n) : sz k - n ≤ n / 4 + 16 := by
  obtain ⟨a, b⟩ := step_facts k hk
  by_cases e : k = 0
  · have := a e; omega
  · have := b (by omega); have := hp (by omega); omega
/-- The class of a size. -/
theorem first_one {n : Int} (h0 : 0 ≤ n) (h1 : n ≤ 512) : ∃ k : Nat, k < 16 ∧ first n 1 = (k : Int) ∧ n ≤ sz k ∧ (1 ≤ k → sz (k - 1) < n) := by
  rcases first_is n 1 with e | ⟨k, hk, e, _, _, h2, _, h4⟩
  · exfalso
    unfold first at e
    rw [if_pos ⟨h0, h1⟩] at e
    rcases seek_is (n := n) (a := 1) (f := 16) (k := 0) with ⟨_, hn⟩ | ⟨i, e2, _⟩
    · have := hn 15 (by omega) (by omega)
      simp only [fits, Int.emod_one, beq_self_eq_true, Bool.and_true, decide_eq_false_iff_not] at this
      have e15 : sz 15 = 512 := rfl
      omega
    · omega
  · refine ⟨k, hk, e, h2, fun hp => ?_⟩
    have := h4 (k - 1) (by omega)
    simp only [fits, Int.emod_one, beq_self_eq_true, Bool.and_true, decide_eq_false_iff_not] at this
    omega

theorem waste_out (n : Int) (w : World) (h : ¬ (0 ≤ n ∧ n ≤ 512)) (hT : Tab w) : Law 4 #[.int .i64 n] w := by
  have G : Same 8 #[.int .i64 n] (.tuple #[.int .i64 (-1), .bool false]) := fun W hW => by
    have := class_any n W hW
    rw [first_out h] at this; exact this
  have HG := Lib.hid G
  have HT := Lib.hid hT
  have hb := new_below w (.cells row 33)
  have hd : decide (n < 0) = true ∨ (decide (n < 0) = false ∧ decide (512 < n) = true) := by simp; omega
  clear G hT h
  rcases hd with h1 | ⟨h1, h2⟩
  all_goals
    show Calls _ _ _ _ _
    go_enter Tryd.func4, Tryd.ntmps4
    go_wp2_with fail
    refine (alive_any _ HT.out).mono ?_
    rintro e w' ⟨rfl, rfl⟩
    have T2 := Lib.hid (HT.out.below hb)
    generalize w.alloc (.cells row 33) = W at *
    go_wp2_with fail
    refine (HG.out _ T2.out).mono ?_
    rintro e w' ⟨rfl, rfl⟩
    go_wp2
    go_ret
    exact ⟨rfl, hb⟩

theorem waste_walk (n k s p L z z2 : Int) (b : Bool) (w : World) (hT : Tab w) (g1 : Same 8 #[.int .i64 n] (.tuple #[.int .i64 k, .bool true])) (g2 : Same 14 #[.int .i64 k] (.int .i64 s)) (g3 : Same 14 #[.int .i64 (k - 1)] (.int .i64 p)) (g4 : Same 15 #[.int .i64 k] (.int .i64 L))
    (n0 : 0 ≤ n) (n1 : n ≤ 512) (k0 : 0 ≤ k) (k1 : k < 16) (s0 : 16 ≤ s) (s1 : s ≤ 512) (q1 : decide (s < n) = false) (q2 : decide (n / 4 + 16 < s - n) = false) (q3 : decide (0 < k) = b) (q4 : b = true → decide (n ≤ p) = false) (q5 : (s % 16 != 0) = false)
    (l0 : 2 ≤ L) (l1 : L ≤ 64) (m : L * s = z) (m2 : (L + 1) * s = z2) (z0 : 0 ≤ z) (z1 : z ≤ 1024) (z3 : 1024 < z2) (z4 : z2 ≤ 2048) : Law 4 #[.int .i64 n] w := by
  have G1 := Lib.hid g1
  have G2 := Lib.hid g2
  have G3 := Lib.hid g3
  have G4 := Lib.hid g4
  have Q4 := Lib.hid q4
  have HT := Lib.hid hT
  have hb := new_below w (.cells row 33)
  have d0 : decide (n < 0) = false := by simpa using n0
  have d1 : decide (512 < n) = false := by simpa using n1
  clear g1 g2 g3 g4 q4 hT
  show Calls _ _ _ _ _
  go_enter Tryd.func4, Tryd.ntmps4
  go_wp2_with fail
  refine (alive_any _ HT.out).mono ?_
  rintro e w' ⟨rfl, rfl⟩
  have T2 := Lib.hid (HT.out.below hb)
  generalize w.alloc (.cells row 33) = W at *
  go_wp2_with fail
  refine (G1.out _ T2.out).mono ?_
  rintro e w' ⟨rfl, rfl⟩
  go_wp2_with fail
  refine (G2.out _ T2.out).mono ?_
  rintro e w' ⟨rfl, rfl⟩
  cases b
  · go_wp2_with fail
    refine (G4.out _ T2.out).mono ?_
    rintro e w' ⟨rfl, rfl⟩
    go_wp2
    go_ret
    exact ⟨rfl, hb⟩
  · have q4 := Q4.out rfl
    go_wp2_with fail
    refine (G3.out _ T2.out).mono ?_
    rintro e w' ⟨rfl, rfl⟩
    go_wp2_with fail
    refine (G4.out _ T2.out).mono ?_
    rintro e w' ⟨rfl, rfl⟩
    go_wp2
    go_ret
    exact ⟨rfl, hb⟩

theorem waste_any (n : Int) (w : World) (hT : Tab w) : Law 4 #[.int .i64 n] w := by
  by_cases h : 0 ≤ n ∧ n ≤ 512
  · obtain ⟨k, hk, e, h1, h2⟩ := first_one h.1 h.2
    obtain ⟨s0, s1⟩ := sz_bd k hk
    obtain ⟨f1, f2, f3, f4, f5, f6, f7⟩ := slot_facts k hk
    have hw := waste_le hk h.1 h2
    refine waste_walk n k (sz k) (sizeOf' (k - 1)) (1024 / sz k) _ _ _ w hT (fun W hW => ?_) (fun W hW => ?_) (fun W hW => size_any _ W hW) (fun W hW => ?_) h.1 h.2 (by omega) (by omega) s0 s1
      (by simpa using h1) (by simp; omega) rfl (fun hb => ?_) (by simp [f1]) f2 f3 rfl rfl f5 f4 f6 f7
    · have := class_any n W hW
      rw [e] at this
      simpa using this
    · have := size_any k W hW
      rwa [sizeOf_nat hk] at this
    · have := slots_any k W hW
      rwa [slotsOf_nat hk] at this
    · have hb : 0 < (k : Int) := by simpa using hb
      have e2 : (k : Int) - 1 = ((k - 1 : Nat) : Int) := by omega
      rw [e2, sizeOf_nat (by omega)]
      have := h2 (by omega)
      simp; omega
  · exact waste_out n w h hT

end Go.Proofs.YtlbhbjcimbgffaaDoor
