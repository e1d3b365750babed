/-
  The walk of the statement on where an aligned class's slots begin.
-/
import Derived.Test.YtlbhbjcimbgffaaDoorWaste
namespace Go.Proofs.YtlbhbjcimbgffaaDoor
open Go.RowKit

theorem aligns_no (n a t : Int) (w : World) (h : ans n a = -1) (hT : Tab w) : Law 5 #[.int .i64 n, .int .i64 a, .int .i64 t] w := by
  have G : Same 10 #[.int .i64 n, .int .i64 a] (.tuple #[.int .i64 (-1), .bool false]) := fun W hW => by
    have := aligned_any n a W hW
    rw [h] at this; exact this
  have HG := Lib.hid G
  have HT := Lib.hid hT
  have hb := new_below w (.cells row 33)
  clear G hT h
  show Calls _ _ _ _ _
  go_enter Tryd.func5, Tryd.ntmps5
  go_wp2_with fail
  refine (alive_any _ HT.out).mono ?_
  rintro e w' ⟨rfl, rfl⟩
  have T2 := Lib.hid (HT.out.below hb)
  generalize w.alloc (.cells row 33) = W at *
  go_wp2_with fail
  refine (HG.out _ T2.out).mono ?_
  rintro e w' ⟨rfl, rfl⟩
  go_wp2
  go_ret
  exact ⟨rfl, hb⟩

theorem aligns_walk (n a t k s L z : Int) (b1 b2 : Bool) (w : World) (hT : Tab w) (g1 : Same 10 #[.int .i64 n, .int .i64 a] (.tuple #[.int .i64 k, .bool true])) (g2 : Same 14 #[.int .i64 k] (.int .i64 s)) (g4 : Same 15 #[.int .i64 k] (.int .i64 L))
    (a0 : 1 ≤ a) (a1 : a ≤ 4096) (q1 : decide (n ≤ s) = true) (q2 : decide (t < 0) = b1) (q3 : decide (L ≤ t) = b2) (m : t * s = z)
    (hz : b1 = false → b2 = false → 0 ≤ z ∧ z ≤ 40000 ∧ z % a = 0) : Law 5 #[.int .i64 n, .int .i64 a, .int .i64 t] w := by
  have G1 := Lib.hid g1
  have G2 := Lib.hid g2
  have G4 := Lib.hid g4
  have HZ := Lib.hid hz
  have HT := Lib.hid hT
  have hb := new_below w (.cells row 33)
  clear g1 g2 g4 hz hT
  show Calls _ _ _ _ _
  go_enter Tryd.func5, Tryd.ntmps5
  go_wp2_with fail
  refine (alive_any _ HT.out).mono ?_
  rintro e w' ⟨rfl, rfl⟩
  have T2 := Lib.hid (HT.out.below hb)
  generalize w.alloc (.cells row 33) = W at *
  go_wp2_with fail
  refine (G1.out _ T2.out).mono ?_
  rintro e w' ⟨rfl, rfl⟩
  go_wp2_with fail
  refine (G2.out _ T2.out).mono ?_
  rintro e w' ⟨rfl, rfl⟩
  cases b1
  · go_wp2_with fail
    refine (G4.out _ T2.out).mono ?_
    rintro e w' ⟨rfl, rfl⟩
    cases b2
    · obtain ⟨z0, z1, z2⟩ := HZ.out (by trivial) (by trivial)
      go_wp2
      go_ret
      exact ⟨rfl, hb⟩
    · go_wp2
      go_ret
      exact ⟨rfl, hb⟩
  · go_wp2
    go_ret
    exact ⟨rfl, hb⟩

theorem aligns_any (n a t : Int) (w : World) (hT : Tab w) : Law 5 #[.int .i64 n, .int .i64 a, .int .i64 t] w := by
  cases ha : alignB a
  · exact aligns_no n a t w (ans_no ha) hT
  rcases first_is n a with e | ⟨k, hk, e, _, _, h2, h3, _⟩
  · exact aligns_no n a t w (by rw [ans_yes ha]; exact e) hT
  · obtain ⟨a0, a1⟩ := alignB_bd ha
    obtain ⟨s0, s1⟩ := sz_bd k hk
    obtain ⟨_, _, f3, _⟩ := slot_facts k hk
    refine aligns_walk n a t k (sz k) (1024 / sz k) _ _ _ w hT (fun W hW => ?_) (fun W hW => ?_) (fun W hW => ?_) a0 a1 (by simpa using h2) rfl rfl rfl (fun q1 q2 => ?_)
    · have := aligned_any n a W hW
      rw [ans_yes ha, e] at this
      simpa using this
    · have := size_any k W hW
      rwa [sizeOf_nat hk] at this
    · have := slots_any k W hW
      rwa [slotsOf_nat hk] at this
    · have t0 : 0 ≤ t := by simpa using q1
      have t1 : t < 1024 / sz k := by simpa using q2
      refine ⟨Int.mul_nonneg t0 (by omega), ?_, ?_⟩
      · have h1 : t * sz k ≤ 64 * sz k := Int.mul_le_mul_of_nonneg_right (by omega) (by omega)
        omega
      · exact Int.emod_eq_zero_of_dvd (Int.dvd_mul_of_dvd_right (Int.dvd_of_emod_eq_zero h3))

end Go.Proofs.YtlbhbjcimbgffaaDoor
