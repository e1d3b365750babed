/-
  The walk of the statement on twins.
-/
import Derived.Test.YthdjceihbmdneaaDoorRefs
namespace Go.Proofs.YthdjceihbmdneaaDoor
open Go.RowKit

/-- A call that answers one value, and leaves all that was there as it was. -/
def Tells (f : Nat) (args : Array Value) (r : Value) : Prop := ∀ W : World, Calls Tryd.prog f args W fun e w' => e = .returned r ∧ Below W.heap.size W w'

theorem twins_walk (v c n s t x y L : Int) (B : Bool) (w : World) (hT : Tab w) (g1 : Tells 11 #[.int .i64 v, .int .i64 c] (.int .i64 s)) (g2 : Same 19 #[.int .i64 v, .int .i64 c] (.int .i64 t))
    (g3 : Same 20 #[.int .i64 n] (.bool B)) (g4 : Tells 18 #[.int .i64 0, .int .i64 n] (.int .i64 x)) (g5 : Tells 18 #[.int .i64 1, .int .i64 n] (.int .i64 y))
    (hB : (decide (0 ≤ x) = false ∧ B = false) ∨ (decide (0 ≤ x) = true ∧ decide (0 ≤ y) = B))
    (hy : (decide (0 < s) = false ∧ t = -1) ∨ (decide (0 < s) = true ∧ 0 ≤ v ∧ v ≤ 1 ∧ Tells 18 #[.int .i64 (1 - v), .int .i64 s] (.int .i64 t) ∧ t = -1) ∨
      (decide (0 < s) = true ∧ 0 ≤ v ∧ v ≤ 1 ∧ Tells 18 #[.int .i64 (1 - v), .int .i64 s] (.int .i64 t) ∧ decide (t < 0) = false ∧ Same 19 #[.int .i64 (1 - v), .int .i64 t] (.int .i64 c) ∧ Same 16 #[.int .i64 (1 - v), .int .i64 t] (.int .i64 s) ∧ Same 17 #[.int .i64 (1 - v), .int .i64 t] (.int .i64 L) ∧ Same 17 #[.int .i64 v, .int .i64 c] (.int .i64 L))) :
    Law 4 #[.int .i64 v, .int .i64 c, .int .i64 n] w := by
  have G1 := Lib.hid g1
  have G2 := Lib.hid g2
  have G3 := Lib.hid g3
  have G4 := Lib.hid g4
  have G5 := Lib.hid g5
  have HB := Lib.hid hB
  have HT := Lib.hid hT
  clear g1 g2 g3 g4 g5 hB hT
  show Calls _ _ _ _ _
  rcases hy with ⟨hs, rfl⟩ | ⟨hs, v0, v1, p1, rfl⟩ | ⟨hs, v0, v1, p1, ht, p2, p3, p4, p5⟩
  focus
    go_enter Tryd.func4, Tryd.ntmps4
    go_wp2_with fail
    refine (alive_any _ HT.out).mono ?_
    rintro e W1 ⟨rfl, hb⟩
    have T1 := Lib.hid (HT.out.below hb)
    have B1 := Lib.hid hb
    clear hb HT
    go_wp2_with fail
    refine (G1.out _).mono ?_
    rintro e W3 ⟨rfl, hb⟩
    have T3 := Lib.hid (T1.out.below hb)
    have B3 := Lib.hid (up_trans B1.out hb)
    clear hb T1 B1
    go_wp2_with fail
  rotate_left 1
  focus
    have P1 := Lib.hid p1
    clear p1
    go_enter Tryd.func4, Tryd.ntmps4
    go_wp2_with fail
    refine (alive_any _ HT.out).mono ?_
    rintro e W1 ⟨rfl, hb⟩
    have T1 := Lib.hid (HT.out.below hb)
    have B1 := Lib.hid hb
    clear hb HT
    go_wp2_with fail
    refine (G1.out _).mono ?_
    rintro e W2 ⟨rfl, hb⟩
    have T2 := Lib.hid (T1.out.below hb)
    have B2 := Lib.hid (up_trans B1.out hb)
    clear hb T1 B1
    go_wp2_with fail
    refine (P1.out _).mono ?_
    rintro e W3 ⟨rfl, hb⟩
    have T3 := Lib.hid (T2.out.below hb)
    have B3 := Lib.hid (up_trans B2.out hb)
    clear hb T2 B2
    go_wp2_with fail
  rotate_left 1
  focus
    have P1 := Lib.hid p1
    have P2 := Lib.hid p2
    have P3 := Lib.hid p3
    have P4 := Lib.hid p4
    have P5 := Lib.hid p5
    clear p1 p2 p3 p4 p5
    go_enter Tryd.func4, Tryd.ntmps4
    go_wp2_with fail
    refine (alive_any _ HT.out).mono ?_
    rintro e W1 ⟨rfl, hb⟩
    have T1 := Lib.hid (HT.out.below hb)
    have B1 := Lib.hid hb
    clear hb HT
    go_wp2_with fail
    refine (G1.out _).mono ?_
    rintro e W2 ⟨rfl, hb⟩
    have T2 := Lib.hid (T1.out.below hb)
    have B2 := Lib.hid (up_trans B1.out hb)
    clear hb T1 B1
    go_wp2_with fail
    refine (P1.out _).mono ?_
    rintro e W3 ⟨rfl, hb⟩
    have T3 := Lib.hid (T2.out.below hb)
    have B3 := Lib.hid (up_trans B2.out hb)
    clear hb T2 B2
    go_wp2_with fail
  rotate_left 1
  all_goals
    refine (G2.out _ T3.out).mono ?_
    rintro e w' ⟨rfl, rfl⟩
    go_wp2_with fail
    refine (G3.out _ T3.out).mono ?_
    rintro e w' ⟨rfl, rfl⟩
    rcases HB.out with ⟨hx, rfl⟩ | ⟨hx, hyB⟩
    focus
      go_wp2_with fail
      refine (G4.out _).mono ?_
      rintro e W4 ⟨rfl, hb⟩
      have T4 := Lib.hid (T3.out.below hb)
      have B4 := Lib.hid (up_trans B3.out hb)
      clear hb T3 B3 HB
    rotate_left 1
    focus
      go_wp2_with fail
      refine (G4.out _).mono ?_
      rintro e W5 ⟨rfl, hb⟩
      have T5 := Lib.hid (T3.out.below hb)
      have B5 := Lib.hid (up_trans B3.out hb)
      clear hb T3 B3 HB
      go_wp2_with fail
      refine (G5.out _).mono ?_
      rintro e W4 ⟨rfl, hb⟩
      have T4 := Lib.hid (T5.out.below hb)
      have B4 := Lib.hid (up_trans B5.out hb)
      clear hb T5 B5
    all_goals
      first
      | (go_wp2_with fail
         refine (P2.out _ T4.out).mono ?_
         rintro e w' ⟨rfl, rfl⟩
         go_wp2_with fail
         refine (P3.out _ T4.out).mono ?_
         rintro e w' ⟨rfl, rfl⟩
         go_wp2_with fail
         refine (P4.out _ T4.out).mono ?_
         rintro e w' ⟨rfl, rfl⟩
         go_wp2_with fail
         refine (P5.out _ T4.out).mono ?_
         rintro e w' ⟨rfl, rfl⟩
         go_wp2
         go_ret
         exact ⟨rfl, B4.out⟩)
      | (go_wp2
         go_ret
         exact ⟨rfl, B4.out⟩)

/-- Twins of each class of either layout, there and back. -/
theorem twin_facts0 : ∀ k, k < 16 → twin 0 (k : Nat) = place (1 - 0) (sz 0 k) ∧ (twin 0 (k : Nat) = -1 ∨ (0 ≤ twin 0 (k : Nat) ∧ twin (1 - 0) (twin 0 (k : Nat)) = (k : Nat) ∧ sizeOf' (1 - 0) (twin 0 (k : Nat)) = sz 0 k ∧ slotsOf (1 - 0) (twin 0 (k : Nat)) = slotsOf 0 (k : Nat))) := by decide +kernel
theorem twin_facts1 : ∀ k, k < 12 → twin 1 (k : Nat) = place (1 - 1) (sz 1 k) ∧ (twin 1 (k : Nat) = -1 ∨ (0 ≤ twin 1 (k : Nat) ∧ twin (1 - 1) (twin 1 (k : Nat)) = (k : Nat) ∧ sizeOf' (1 - 1) (twin 1 (k : Nat)) = sz 1 k ∧ slotsOf (1 - 1) (twin 1 (k : Nat)) = slotsOf 1 (k : Nat))) := by decide +kernel
theorem twin_facts {v : Int} (k : Nat) (hk : k < cnt v) : 0 ≤ v ∧ v ≤ 1 ∧ twin v k = place (1 - v) (sz v k) ∧ (twin v k = -1 ∨ (0 ≤ twin v k ∧ twin (1 - v) (twin v k) = k ∧ sizeOf' (1 - v) (twin v k) = sz v k ∧ slotsOf (1 - v) (twin v k) = slotsOf v k)) := by
  rcases layout v with rfl | rfl | ⟨h0, h1⟩
  · exact ⟨by omega, by omega, twin_facts0 k hk⟩
  · exact ⟨by omega, by omega, twin_facts1 k hk⟩
  · rw [cnt_no h0 h1] at hk; omega
theorem twins_any (v c n : Int) (w : World) (hT : Tab w) : Law 4 #[.int .i64 v, .int .i64 c, .int .i64 n] w := by
  refine twins_walk v c n (sizeOf' v c) (twin v c) (place 0 n) (place 1 n) (slotsOf v c) (bothB n) w hT (fun W => rsize_any v c W) (fun W hW => twin_any v c W hW) (fun W hW => both_any n W hW) (fun W => rplace_any 0 n W) (fun W => rplace_any 1 n W) ?_ ?_
  · rw [both_is]
    cases decide (0 ≤ place 0 n)
    · exact Or.inl ⟨rfl, rfl⟩
    · exact Or.inr ⟨rfl, rfl⟩
  · rcases sizeOf_bd v c with hz | ⟨k, hk, rfl, es, h0, _⟩
    · exact Or.inl ⟨by rw [hz]; rfl, twin_zero hz⟩
    · obtain ⟨v0, v1, f1, f2⟩ := twin_facts k hk
      have hp : Tells 18 #[.int .i64 (1 - v), .int .i64 (sizeOf' v k)] (.int .i64 (twin v k)) := fun W => by
        rw [es, f1]; exact rplace_any _ _ W
      have hs : decide (0 < sizeOf' v k) = true := by simp; omega
      rcases f2 with f2 | ⟨f2, f3, f4, f5⟩
      · exact Or.inr (Or.inl ⟨hs, v0, v1, hp, f2⟩)
      · refine Or.inr (Or.inr ⟨hs, v0, v1, hp, by simpa using f2, fun W hW => ?_, fun W hW => ?_, fun W hW => ?_, fun W hW => slots_any v k W hW⟩)
        · have := twin_any (1 - v) (twin v k) W hW
          rwa [f3] at this
        · have := size_any (1 - v) (twin v k) W hW
          rwa [f4, ← es] at this
        · have := slots_any (1 - v) (twin v k) W hW
          rwa [f5] at this

end Go.Proofs.YthdjceihbmdneaaDoor
