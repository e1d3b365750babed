/-
  What the statements' first call does: it answers true, and leaves all that was there as it was.
-/
import Derived.Test.YtdkjbidnelbdeaaSame
namespace Go.Proofs.Ytdkjbidnelbdeaa
open Go.RowKit

def Newed (n : Nat) (w : World) (e : Ending) (w' : World) : Prop :=
  e = .returned (.tuple #[.pointer (some ⟨w.heap.size + 1, 0, none⟩), .int .i64 0]) ∧ Mem w' (w.heap.size + 1) w.heap.size (List.replicate n 0#8) ∧ Below w.heap.size w w'
theorem new_any (n : Nat) (hn : n ≤ 1048576) (w : World) : Calls Try.prog 8 #[.int .i64 (n : Int)] w (Newed n w) :=
  (new_yes n hn w).mono fun _ _ ⟨he, hw⟩ => ⟨he, by rw [hw]; exact Mem.made w n hn, by rw [hw]; exact up_alloc (up_alloc (Below.refl _ _) _) _⟩

def z1 : List (BitVec 8) := splice (List.replicate 16 0#8) 2 (bytesOf 258#64 4)
def z2 : List (BitVec 8) := splice z1 3 (sub z1 2 4)
theorem z1_len : z1.length = 16 := by decide +kernel
theorem z2_len : z2.length = 16 := by decide +kernel
theorem z1_ld : ldW z1 3 2 = 1#64 := by decide +kernel
theorem z2_sub : sub z2 2 5 = [2#8, 2#8, 1#8, 0#8, 0#8] := by decide +kernel
theorem z_diff : diffL (likeB z2 z1) 16 = [(3, 2)] := by decide +kernel

theorem new_c (w : World) : Calls Try.prog 8 #[.int .i64 16] w (Newed 16 w) := new_any 16 (by decide) w
theorem new_c2 (w : World) : Calls Try.prog 8 #[.int .i64 (-1)] w fun e w' => e = .returned (.tuple #[.pointer none, .int .i64 11]) ∧ w = w' := new_no (-1) w (.inl (by decide))
theorem store_c (q g : Nat) (w : World) (hm : Mem w q g (List.replicate 16 0#8)) : Calls Try.prog 21 #[.pointer (some ⟨q, 0, none⟩), .int .i64 2, .int .i64 4, .int .u64 258] w (Wrote q g z1 0 w) :=
  store_yes q g _ 2 4 258#64 w hm (by decide) (by decide)
theorem load_c (q g : Nat) (w : World) (hm : Mem w q g z1) : Calls Try.prog 11 #[.pointer (some ⟨q, 0, none⟩), .int .i64 3, .int .i64 2] w fun e w' => e = .returned (.tuple #[.int .u64 1, .int .i64 0]) ∧ w = w' := by
  have := load_yes q g _ 3 2 w hm (by decide) (by rw [z1_len]; decide)
  rw [z1_ld] at this
  exact this
theorem move_c (q g : Nat) (w : World) (hm : Mem w q g z1) : Calls Try.prog 22 #[.pointer (some ⟨q, 0, none⟩), .int .i64 3, .int .i64 2, .int .i64 4] w (Wrote q g z2 0 w) :=
  move_yes q g z1 3 2 4 w hm (by rw [z1_len]; decide) (by rw [z1_len]; decide) (by decide)
def ReadC (w : World) (e : Ending) (w' : World) : Prop :=
  e = .returned (.tuple #[.slice (some ⟨w.heap.size, 0, none⟩) 5 5, .int .i64 0]) ∧ Row w' w.heap.size [2#8, 2#8, 1#8, 0#8, 0#8] ∧ Below w.heap.size w w'
theorem read_c (q g : Nat) (w : World) (hm : Mem w q g z2) : Calls Try.prog 10 #[.pointer (some ⟨q, 0, none⟩), .int .i64 2, .int .i64 5] w (ReadC w) := by
  have := read_yes q g z2 2 5 w hm (by rw [z2_len]; decide)
  rw [z2_sub] at this
  exact this
def DifferC (w : World) (e : Ending) (w' : World) : Prop :=
  ∃ g cap, e = .returned (.slice (some ⟨g, 0, none⟩) 1 cap) ∧ w'.cell? ⟨g, 0, none⟩ = some (.int .i64 3) ∧ w'.cell? ⟨g, 1, none⟩ = some (.int .i64 2) ∧ g < w'.heap.size ∧ Below w.heap.size w w'
theorem differ_c (q g q2 g2 : Nat) (w : World) (hm : Mem w q g z2) (hm2 : Mem w q2 g2 z1) : Calls Try.prog 17 #[.pointer (some ⟨q, 0, none⟩), .pointer (some ⟨q2, 0, none⟩)] w (DifferC w) := by
  have := differ_any q g q2 g2 z2 z1 w hm hm2
  rw [z1_len, z2_len, Nat.max_self, z_diff] at this
  refine this.mono ?_
  rintro e w' ⟨A, cap, rfl, hsp, hb⟩
  obtain ⟨g3, rfl, hg, hc⟩ := hsp (by decide)
  exact ⟨g3, cap, rfl, (hc 0 (by decide)).1, (hc 0 (by decide)).2, hg, hb⟩
theorem load_c2 (q g : Nat) (w : World) (hm : Mem w q g z2) : Calls Try.prog 11 #[.pointer (some ⟨q, 0, none⟩), .int .i64 13, .int .i64 4] w fun e w' => e = .returned (.tuple #[.int .u64 0, .int .i64 11]) ∧ w = w' :=
  load_no q g 16 13 4 w (by have := hm.cell; rw [z2_len] at this; exact this) (by decide) (by decide) (by decide)
theorem same_c (b b2 : Nat) (w : World) (h : Row w b [2#8, 2#8, 1#8, 0#8, 0#8]) (h2 : Row w b2 [2#8, 2#8, 1#8, 0#8, 0#8]) :
    Calls Try.prog 13 #[.slice (some ⟨b, 0, none⟩) 5 5, .slice (some ⟨b2, 0, none⟩) 5 5] w fun e w' => e = .returned (.bool true) ∧ Drawn w w' :=
  same_yes _ _ [2#8, 2#8, 1#8, 0#8, 0#8] 5 5 _ _ w (BA.row h) (BA.row h2) (by decide)
theorem row_lit (w : World) : Row (w.alloc (.cells #[.int .u8 2, .int .u8 2, .int .u8 1, .int .u8 0, .int .u8 0] 5)) w.heap.size [2#8, 2#8, 1#8, 0#8, 0#8] := heap_alloc_new w _
theorem Drawn.below {w w' : World} (h : Drawn w w') (B : Nat) : Below B w w' := by
  obtain ⟨k, rfl⟩ := h; exact below_drewN (Below.refl _ _) k

set_option maxRecDepth 100000 in
set_option maxHeartbeats 4000000 in
theorem alive_any (w : World) : Calls Try.prog 6 #[] w fun e w' => e = .returned (.bool true) ∧ Below w.heap.size w w' := by
  go_enter Try.func6, Try.ntmps6
  go_wp2_with fail
  refine (new_c _).mono ?_
  rintro e w1 ⟨rfl, m1, B1⟩
  go_wp2_with fail
  refine (store_c _ _ _ m1).mono ?_
  rintro e w2 ⟨rfl, m2, g2⟩
  have B2 := below_grown B1 g2 B1.size (Nat.le_refl _)
  clear B1 m1 g2
  go_wp2_with fail
  refine (load_c _ _ _ m2).mono ?_
  rintro e w2 ⟨rfl, rfl⟩
  go_wp2_with fail
  refine (clone_any _ _ _ _ m2).mono ?_
  rintro e w3 ⟨p3, rfl, hp3, m3, b3⟩
  have n3 := m2.below b3
  have hs2 := m2.lt
  have B3 := up_trans B2 b3
  clear m2
  go_wp2_with fail
  refine (move_c _ _ _ n3).mono ?_
  rintro e w4 ⟨rfl, m4, g4⟩
  have k4 := m3.far g4 (by omega) (by omega)
  have B4 := below_grown B3 g4 B3.size (Nat.le_refl _)
  clear m3 n3 g4 B2 B3 b3
  go_wp2_with fail
  refine (read_c _ _ _ m4).mono ?_
  rintro e w5 ⟨rfl, r5, b5⟩
  have m5 := m4.below b5
  have k5 := k4.below b5
  have B5 := up_trans B4 b5
  clear m4 k4 b5 B4
  go_wp2_with fail
  refine (differ_c _ _ _ _ _ m5 k5).mono ?_
  rintro e w6 ⟨g6, cap6, rfl, c60, c61, hg6, b6⟩
  have m6 := m5.below b6
  have r6 := r5.of_block (b6.block _ r5.lt)
  have B6 := up_trans B5 b6
  clear m5 k5 b6 B5 r5
  go_wp2_with fail
  refine (load_c2 _ _ _ m6).mono ?_
  rintro e w7 ⟨rfl, rfl⟩
  go_wp2_with fail
  refine (new_c2 _).mono ?_
  rintro e w7 ⟨rfl, rfl⟩
  go_wp2_with fail
  refine (same_c w4.heap.size w6.heap.size _ (r6.of_block (Below.heap_alloc _ _ _ r6.lt)) (row_lit w6)).mono ?_
  rintro e w8 ⟨rfl, d8⟩
  have c80 := d8.cell ((cell_alloc (.cells #[.int .u8 2, .int .u8 2, .int .u8 1, .int .u8 0, .int .u8 0] 5) hg6).trans c60)
  have c81 := d8.cell ((cell_alloc (.cells #[.int .u8 2, .int .u8 2, .int .u8 1, .int .u8 0, .int .u8 0] 5) hg6).trans c61)
  have B8 := (up_alloc B6 (.cells #[.int .u8 2, .int .u8 2, .int .u8 1, .int .u8 0, .int .u8 0] 5)).trans (d8.below _)
  have m8 := (m6.below (up_alloc (Below.refl _ _) (.cells #[.int .u8 2, .int .u8 2, .int .u8 1, .int .u8 0, .int .u8 0] 5))).below (d8.below _)
  have c8 := m8.cell
  rw [z2_len] at c8
  clear m8 m6 r6 c60 c61 B6 d8
  go_wp2_with fail
  refine (len_any _ _ 16 _ c8).mono ?_
  rintro e w9 ⟨rfl, rfl⟩
  go_wp2
  go_ret
  exact ⟨rfl, B8⟩

end Go.Proofs.Ytdkjbidnelbdeaa
