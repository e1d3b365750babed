/-
  The walk of the statement on every answer.
-/
import Derived.Test.YtlbhbjcimbgffaaDoorRefs
namespace Go.Proofs.YtlbhbjcimbgffaaDoor
open Go.RowKit

theorem below_set {w W : World} {g i : Nat} {v : Value} (h : Below w.heap.size w W) (hg : w.heap.size ≤ g) : Below w.heap.size w (W.setCell ⟨g, i, none⟩ v) := by
  have k : W.grownBy (W.setCell ⟨g, i, none⟩ v) (some g) := ⟨rfl, rfl, rfl, by simp [World.setCell], fun k _ hr => Below.heap_setCell _ _ _ _ (fun e => hr (by rw [e]))⟩
  exact h.grown k h.size (fun _ e => by cases e; exact hg)
theorem at_far {W : World} {g g2 i : Nat} {v : Value} (h : At W g) (hg : g ≠ g2) : At (W.setCell ⟨g2, i, none⟩ v) g := fun j hj => by
  have e : (W.setCell ⟨g2, i, none⟩ v).heap[g]? = W.heap[g]? := Below.heap_setCell _ _ _ _ hg
  have : (W.setCell ⟨g2, i, none⟩ v).cell? ⟨g, j, none⟩ = W.cell? ⟨g, j, none⟩ := by simp [World.cell?, e]
  rw [this]; exact h j hj
theorem tab_far {W : World} {g2 i : Nat} {v : Value} (h : Tab W) (hg : 0 ≠ g2) : Tab (W.setCell ⟨g2, i, none⟩ v) := by
  obtain ⟨t, fr, h⟩ := h
  exact ⟨t, fr, (Below.heap_setCell _ _ _ _ hg).trans h⟩

theorem answers_walk (n a cl c A S L : Int) (b bA al : Bool) (w : World) (hT : Tab w) (g1 : Same 8 #[.int .i64 n] (.tuple #[.int .i64 c, .bool b]))
    (g2 : ∀ (W : World) (g : Nat), At W g → Calls Tryd.prog 9 #[.slice (some ⟨g, 0, none⟩) 16 16, .int .i64 n, .int .i64 1] W fun e w' => e = .returned (.int .i64 c) ∧ W = w')
    (g3 : Same 10 #[.int .i64 n, .int .i64 a] (.tuple #[.int .i64 A, .bool bA])) (g4 : Same 11 #[.int .i64 a] (.bool al))
    (g5 : al = true → ∀ (W : World) (g : Nat), At W g → Calls Tryd.prog 9 #[.slice (some ⟨g, 0, none⟩) 16 16, .int .i64 n, .int .i64 a] W fun e w' => e = .returned (.int .i64 A) ∧ W = w')
    (g6 : al = false → A = -1) (g7 : Same 14 #[.int .i64 cl] (.int .i64 S)) (g8 : Same 15 #[.int .i64 cl] (.int .i64 L)) (hc : decide (0 ≤ c) = b) (hA : decide (0 ≤ A) = bA)
    (y : (decide (0 ≤ cl) = false ∧ S = 0 ∧ L = 0) ∨ (decide (0 ≤ cl) = true ∧ decide (cl < 16) = false ∧ S = 0 ∧ L = 0) ∨ ∃ k : Nat, k < 16 ∧ cl = (k : Int) ∧ S = sz k ∧ L = 1024 / sz k) :
    Law 3 #[.int .i64 n, .int .i64 a, .int .i64 cl] w := by
  have G1 := Lib.hid g1
  have G2 := Lib.hid g2
  have G3 := Lib.hid g3
  have G4 := Lib.hid g4
  have G5 := Lib.hid g5
  have G6 := Lib.hid g6
  have G7 := Lib.hid g7
  have G8 := Lib.hid g8
  have HY := Lib.hid y
  have HT := Lib.hid hT
  have hpos := hT.lt
  have hb := new_below w (.cells row 33)
  clear g1 g2 g3 g4 g5 g6 g7 g8 y hT
  show Calls _ _ _ _ _
  go_enter Tryd.func3, Tryd.ntmps3
  go_wp2_with fail
  refine (alive_any _ HT.out).mono ?_
  rintro e w' ⟨rfl, rfl⟩
  have T1 := Lib.hid (HT.out.below hb)
  generalize w.alloc (.cells row 33) = W1 at *
  have B1 := Lib.hid hb
  clear hb HT
  go_wp2_with fail
  refine (rsizes_any W1).mono ?_
  rintro e w' ⟨rfl, rfl⟩
  have b2 := new_below W1 (.cells row 3)
  have T2 := Lib.hid (T1.out.below b2)
  have A2 := Lib.hid (at_new W1 3)
  have B2 := Lib.hid (up_trans B1.out b2)
  have s1 := B1.out.size
  have s2 := A2.out.lt
  clear b2 T1 B1
  generalize W1.alloc (.cells row 3) = W2 at *
  generalize W1.heap.size = g at *
  go_wp2_with fail
  refine (G1.out _ T2.out).mono ?_
  rintro e w' ⟨rfl, rfl⟩
  go_wp2_with fail
  refine (G2.out _ _ A2.out).mono ?_
  rintro e w' ⟨rfl, rfl⟩
  rcases HY.out with ⟨c1, rfl, rfl⟩ | ⟨c1, c2, rfl, rfl⟩ | ⟨k, hk, rfl, rfl, rfl⟩
  rotate_left 2
  focus
    have hi := A2.out k hk
    obtain ⟨s0, _⟩ := sz_bd k hk
    have k1 : (0 : Int) ≤ (k : Int) := by omega
    have k2 : (k : Int) < 16 := by omega
    generalize sz k = s at *
    go_wp2_with fail
  all_goals
    try go_wp2_with fail
    refine (G3.out _ T2.out).mono ?_
    rintro e w' ⟨rfl, rfl⟩
    go_wp2_with fail
    refine (G4.out _ T2.out).mono ?_
    rintro e w' ⟨rfl, rfl⟩
    cases al
    focus
      obtain rfl : A = -1 := G6.out (by trivial)
      obtain rfl : bA = false := hA.symm.trans (by decide)
      go_wp2_with fail
    focus
      try go_wp2_with fail
    rotate_left 1
    focus
      try go_wp2_with fail
      refine (G5.out (by trivial) _ _ A2.out).mono ?_
      rintro e w' ⟨rfl, rfl⟩
      go_wp2_with fail
    all_goals
      refine (sizes_any _ T2.out).mono ?_
      rintro e w' ⟨rfl, rfl⟩
      have b3 := new_below W2 (.cells row 33)
      have T3 := Lib.hid (T2.out.below b3)
      have A3 := Lib.hid (A2.out.below b3)
      have N3 := Lib.hid (at_new W2 33)
      have F3 := frozen_of_row _ W2.heap.size 0 row 33 (gave_new W2 33)
      have B3 := Lib.hid (up_trans B2.out b3)
      have c3 := N3.out 0 (by omega)
      have s3 := N3.out.lt
      have z2 := B2.out.size
      clear b3
      generalize W2.alloc (.cells row 33) = W3 at *
      generalize W2.heap.size = g2 at *
      go_wp2_with fail
      refine (same_row _ _ _ N3.out A3.out).mono ?_
      rintro e W4 ⟨rfl, hd4⟩
      have c4 : W4.cell? ⟨g2, 0, none⟩ = some (.int .i64 16) := (hd4.below.cell (World.block_lt_of_cell? W3 _ c3)).trans c3
      have F4 : W4.frozen? ⟨g2, 0, none⟩ = false := by rw [World.frozen?, hd4.heap]; exact F3
      have T4 := Lib.hid (T3.out.below hd4.below)
      have A4 := Lib.hid (A3.out.below hd4.below)
      have B4 := Lib.hid (up_trans B3.out hd4.below)
      clear hd4 c3 F3 T3 A3 B3 N3
      go_wp2_with fail
      have T5 := Lib.hid (tab_far (g2 := g2) (i := 0) (v := .int .i64 17) T4.out (by omega))
      have A5 := Lib.hid (at_far (g2 := g2) (i := 0) (v := .int .i64 17) A4.out (by omega))
      have B5 := Lib.hid (below_set (g := g2) (i := 0) (v := .int .i64 17) B4.out (by omega))
      clear c4 F4 T4 A4 B4
      generalize W4.setCell ⟨g2, 0, none⟩ (.int .i64 17) = W5 at *
      refine (G7.out _ T5.out).mono ?_
      rintro e w' ⟨rfl, rfl⟩
      go_wp2_with fail
      refine (G8.out _ T5.out).mono ?_
      rintro e w' ⟨rfl, rfl⟩
      go_wp2_with fail
      refine (sizes_any _ T5.out).mono ?_
      rintro e w' ⟨rfl, rfl⟩
      have b6 := new_below W5 (.cells row 33)
      have A6 := Lib.hid (A5.out.below b6)
      have N6 := Lib.hid (at_new W5 33)
      have B6 := Lib.hid (up_trans B5.out b6)
      clear b6
      generalize W5.alloc (.cells row 33) = W6 at *
      generalize W5.heap.size = g3 at *
      go_wp2_with fail
      refine (same_row _ _ _ N6.out A6.out).mono ?_
      rintro e W7 ⟨rfl, hd7⟩
      have B7 := Lib.hid (up_trans B6.out hd7.below)
      clear hd7
      go_wp2
      go_ret
      exact ⟨rfl, B7.out⟩
theorem answers_any (n a cl : Int) (w : World) (hT : Tab w) : Law 3 #[.int .i64 n, .int .i64 a, .int .i64 cl] w := by
  refine answers_walk n a cl (first n 1) (ans n a) (sizeOf' cl) (slotsOf cl) _ _ (alignB a) w hT (fun W hW => class_any n W hW) (fun W g hA => rfirst_any g n 1 W (by omega) hA) (fun W hW => aligned_any n a W hW) (fun W _ => ralign_any a W)
    (fun ha W g hA => ?_) ans_no (fun W hW => size_any cl W hW) (fun W hW => slots_any cl W hW) rfl rfl ?_
  · rw [ans_yes ha]; exact rfirst_any g n a W (alignB_bd ha).1 hA
  · by_cases h0 : 0 ≤ cl
    · obtain ⟨k, rfl⟩ := Int.eq_ofNat_of_zero_le h0
      by_cases h1 : k < 16
      · exact Or.inr (Or.inr ⟨k, h1, rfl, sizeOf_nat h1, slotsOf_nat h1⟩)
      · have h : classB (k : Int) = false := classB_not.2 (by omega)
        exact Or.inr (Or.inl ⟨by simp, by simp; omega, sizeOf_no h, slotsOf_no h⟩)
    · have h : classB cl = false := classB_not.2 (by omega)
      exact Or.inl ⟨by simpa using h0, sizeOf_no h, slotsOf_no h⟩

end Go.Proofs.YtlbhbjcimbgffaaDoor
