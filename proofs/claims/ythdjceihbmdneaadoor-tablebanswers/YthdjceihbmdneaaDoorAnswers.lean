/-
  The walk of the statement on every answer, of any layout.
-/
import Derived.Test.YthdjceihbmdneaaDoorRefs
namespace Go.Proofs.YthdjceihbmdneaaDoor
open Go.RowKit

theorem answers_walk (v n a cl c A S L : Int) (b bA al : Bool) (w : World) (hT : Tab w) (g1 : Same 9 #[.int .i64 v, .int .i64 n] (.tuple #[.int .i64 c, .bool b]))
    (g2 : ∀ (W : World) (p : Option Addr), Lst v W p → Calls Tryd.prog 10 #[.slice p (cnt v) (cnt v), .int .i64 n, .int .i64 1] W fun e w' => e = .returned (.int .i64 c) ∧ W = w')
    (g3 : Same 12 #[.int .i64 v, .int .i64 n, .int .i64 a] (.tuple #[.int .i64 A, .bool bA])) (g4 : Same 13 #[.int .i64 a] (.bool al))
    (g5 : al = true → ∀ (W : World) (p : Option Addr), Lst v W p → Calls Tryd.prog 10 #[.slice p (cnt v) (cnt v), .int .i64 n, .int .i64 a] W fun e w' => e = .returned (.int .i64 A) ∧ W = w')
    (g6 : al = false → A = -1) (g7 : Same 16 #[.int .i64 v, .int .i64 cl] (.int .i64 S)) (g8 : Same 17 #[.int .i64 v, .int .i64 cl] (.int .i64 L))
    (g9 : ∀ W : World, Calls Tryd.prog 11 #[.int .i64 v, .int .i64 cl] W fun e w' => e = .returned (.int .i64 S) ∧ Below W.heap.size W w') (hc : decide (0 ≤ c) = b) (hA : decide (0 ≤ A) = bA)
    (y : (S = 0 ∧ L = 0) ∨ (8 ≤ S ∧ S ≤ 512 ∧ L = 1024 / S)) :
    Law 3 #[.int .i64 v, .int .i64 n, .int .i64 a, .int .i64 cl] w := by
  have G1 := Lib.hid g1
  have G2 := Lib.hid g2
  have G3 := Lib.hid g3
  have G4 := Lib.hid g4
  have G5 := Lib.hid g5
  have G6 := Lib.hid g6
  have G7 := Lib.hid g7
  have G8 := Lib.hid g8
  have G9 := Lib.hid g9
  have HY := Lib.hid y
  have HT := Lib.hid hT
  clear g1 g2 g3 g4 g5 g6 g7 g8 g9 y hT
  show Calls _ _ _ _ _
  go_enter Tryd.func3, Tryd.ntmps3
  go_wp2_with fail
  refine (alive_any _ HT.out).mono ?_
  rintro e W1 ⟨rfl, hb⟩
  have T1 := Lib.hid (HT.out.below hb)
  have B1 := Lib.hid hb
  clear hb HT
  go_wp2_with fail
  refine (rsizes_any v W1).mono ?_
  rintro e W2 ⟨p, rfl, hp, hb⟩
  have T2 := Lib.hid (T1.out.below hb)
  have P2 := Lib.hid hp
  have B2 := Lib.hid (up_trans B1.out hb)
  clear hb hp T1 B1
  go_wp2_with fail
  refine (G1.out _ T2.out).mono ?_
  rintro e w' ⟨rfl, rfl⟩
  go_wp2_with fail
  refine (G2.out _ _ P2.out).mono ?_
  rintro e w' ⟨rfl, rfl⟩
  go_wp2_with fail
  refine (G9.out _).mono ?_
  rintro e W3 ⟨rfl, hb⟩
  have T3 := Lib.hid (T2.out.below hb)
  have P3 := Lib.hid (P2.out.below hb)
  have B3 := Lib.hid (up_trans B2.out hb)
  clear hb T2 P2 B2
  rcases HY.out with ⟨rfl, rfl⟩ | ⟨s0, s1, rfl⟩
  all_goals
    go_wp2_with fail
    refine (G3.out _ T3.out).mono ?_
    rintro e w' ⟨rfl, rfl⟩
    go_wp2_with fail
    refine (G4.out _ T3.out).mono ?_
    rintro e w' ⟨rfl, rfl⟩
    cases al
    focus
      obtain rfl : A = -1 := G6.out (by trivial)
      obtain rfl : bA = false := hA.symm.trans (by decide)
      go_wp2_with fail
    rotate_left 1
    focus
      go_wp2_with fail
      refine (G5.out (by trivial) _ _ P3.out).mono ?_
      rintro e w' ⟨rfl, rfl⟩
      go_wp2_with fail
    all_goals
      refine (sizes_any v _ T3.out).mono ?_
      rintro e W4 ⟨q, rfl, hq, hb⟩
      have T4 := Lib.hid (T3.out.below hb)
      have P4 := Lib.hid (P3.out.below hb)
      have Q4 := Lib.hid hq
      have B4 := Lib.hid (up_trans B3.out hb)
      clear hb hq
      go_wp2_with fail
      refine (same_any v _ _ _ Q4.out P4.out).mono ?_
      rintro e W5 ⟨rfl, hd⟩
      have T5 := Lib.hid (T4.out.below hd.below)
      have B5 := Lib.hid (up_trans B4.out hd.below)
      clear hd
      go_wp2_with fail
      refine (G7.out _ T5.out).mono ?_
      rintro e w' ⟨rfl, rfl⟩
      go_wp2_with fail
      refine (G8.out _ T5.out).mono ?_
      rintro e w' ⟨rfl, rfl⟩
      go_wp2
      go_ret
      exact ⟨rfl, B5.out⟩
theorem answers_any (v n a cl : Int) (w : World) (hT : Tab w) : Law 3 #[.int .i64 v, .int .i64 n, .int .i64 a, .int .i64 cl] w := by
  refine answers_walk v n a cl (first v n 1) (ans v n a) (sizeOf' v cl) (slotsOf v cl) _ _ (alignB a) w hT (fun W hW => class_any v n W hW) (fun W p hA => rfirst_any v p n 1 W (by omega) hA) (fun W hW => aligned_any v n a W hW) (fun W _ => ralign_any a W)
    (fun ha W p hA => ?_) ans_no (fun W hW => size_any v cl W hW) (fun W hW => slots_any v cl W hW) (fun W => rsize_any v cl W) rfl rfl ?_
  · rw [ans_yes ha]; exact rfirst_any v p n a W (alignB_bd ha).1 hA
  · rcases sizeOf_bd v cl with hz | ⟨_, _, _, _, h0, h1⟩
    · exact Or.inl ⟨hz, slotsOf_zero hz⟩
    · exact Or.inr ⟨h0, h1, slotsOf_some (by omega)⟩

end Go.Proofs.YthdjceihbmdneaaDoor
