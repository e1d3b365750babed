/-
  The row with which every law begins: a contract that the claimed proofs use.
-/
import Derived.Test.YthleflfljomeiaaDoorWords
namespace Go.Proofs.YthleflfljomeiaaDoor
open Go.RowKit

theorem fits_of {l : List Bool} {ws : List (BitVec 64)} (h1 : ws.length = (l.length + 63) / 64) (h2 : ∀ i, i < ws.length → ∀ j, j < 64 → (ws.getD i 0#64).getLsbD j = l.getD (64 * i + j) false) : Fits l ws := by
  refine ⟨h1, fun i j hj => ?_⟩
  by_cases hi : i < ws.length
  · exact h2 i hi j hj
  · have e1 : ws.getD i 0#64 = 0#64 := by rw [List.getD_eq_getElem?_getD, List.getElem?_eq_none (by omega)]; rfl
    have e2 : l.getD (64 * i + j) false = false := by rw [List.getD_eq_getElem?_getD, List.getElem?_eq_none (by omega)]; rfl
    rw [e1, e2]; simp
def L0 : List Bool := List.replicate 70 false
def L1 : List Bool := setL L0 65 true
def L2 : List Bool := setL L1 3 true
def L3 : List Bool := setL L2 3 false
theorem L1_b : setB L0 65 true = true := by decide +kernel
theorem L1_again : setL L1 65 true = L1 ∧ setB L1 65 true = false := by decide +kernel
theorem L2_b : setB L1 3 true = true := by decide +kernel
theorem L3_b : setB L2 3 false = true := by decide +kernel
theorem L2_words {ws : List (BitVec 64)} (h : Fits L2 ws) : ws = [8#64, 2#64] := fits_one h (fits_of (by decide +kernel) (by decide +kernel))
theorem L3_words {ws : List (BitVec 64)} (h : Fits L3 ws) : ws = [0#64, 2#64] := fits_one h (fits_of (by decide +kernel) (by decide +kernel))
theorem L2_sets : sets L2 = [3, 65] := by decide +kernel
theorem L3_test : tst L3 65 = true := by decide +kernel
theorem L3_first : first L3 (0 : Int).toNat true = 65 := by decide +kernel
theorem L2_nth : nthI [3, 65] 1 = 65 := by decide +kernel
theorem L2_run : run L2 (0 : Int).toNat 62 = -1 := by decide +kernel
theorem L2_run2 : run L2 (2 : Int).toNat 61 = 4 := by decide +kernel
theorem L3_len : L3.length = 70 := by decide +kernel

theorem two_ints (w : World) : IA (w.heap.size + 1) (w.alloc (.cells #[.int .i64 3, .int .i64 65] 3)) (some ⟨w.heap.size, 0, none⟩) [3, 65] := fun _ => by
  have h : Blk (w.alloc (.cells #[.int .i64 3, .int .i64 65] 3)) w.heap.size [.int .i64 3, .int .i64 65] 3 := heap_alloc_new w _
  refine ⟨w.heap.size, 0, rfl, by omega, fun j hj => ?_⟩
  rw [Nat.zero_add, h.cell]
  rcases (by simp at hj; omega : j = 0 ∨ j = 1) with rfl | rfl <;> rfl
set_option maxHeartbeats 4000000 in
theorem alive_any (w : World) (hT : Tab w) : Calls Tryd.prog 6 #[] w fun e w' => e = .returned (.bool true) ∧ Below w.heap.size w w' := by
  have hpos := hT.lt
  have HT := Lib.hid hT
  clear hT
  go_enter Tryd.func6, Tryd.ntmps6
  go_wp2_with fail
  refine (new_yes 70 (by omega) w hpos).mono ?_
  rintro e w1 ⟨rfl, hm1, hb1, hs1⟩
  have B1 := Lib.hid hb1
  have M1 := Lib.hid hm1
  clear hb1 hm1
  go_wp2_with fail
  have c2 := set_any _ _ _ _ 65 w1 M1.out
  rw [show setL (List.replicate 70 false) 65 true = L1 from rfl, show setB (List.replicate 70 false) 65 true = true from L1_b] at c2
  refine c2.mono ?_
  rintro e w2 ⟨rfl, ⟨ws2, hm2⟩, hg2⟩
  have B2 := Lib.hid (below_grown B1.out hg2 B1.out.size (Nat.le_refl _))
  have M2 := Lib.hid hm2
  clear hg2 hm2 c2
  go_wp2_with fail
  have c3 := set_any _ _ _ _ 65 w2 M2.out
  rw [L1_again.1, L1_again.2] at c3
  refine c3.mono ?_
  rintro e w3 ⟨rfl, ⟨ws3, hm3⟩, hg3⟩
  have B3 := Lib.hid (below_grown B2.out hg3 B2.out.size (Nat.le_refl _))
  have M3 := Lib.hid hm3
  clear hg3 hm3 c3
  go_wp2_with fail
  have c4 := set_any _ _ _ _ 3 w3 M3.out
  rw [show setL L1 3 true = L2 from rfl, L2_b] at c4
  refine c4.mono ?_
  rintro e w4 ⟨rfl, ⟨ws4, hm4⟩, hg4⟩
  have B4 := Lib.hid (below_grown B3.out hg4 B3.out.size (Nat.le_refl _))
  obtain rfl := L2_words hm4.2.2.1
  have M4 := Lib.hid hm4
  clear hg4 hm4 c4
  go_wp2_with fail
  refine (words_any _ _ _ _ w4 M4.out).mono ?_
  rintro e w5 ⟨rfl, hrow5, hb5⟩
  have B5 := Lib.hid (up_trans B4.out hb5)
  have M5 := Lib.hid (M4.out.below hb5)
  have R5 := Lib.hid hrow5
  clear hb5 hrow5
  go_wp2_with fail
  refine (clone_any _ _ _ _ w5 M5.out).mono ?_
  rintro e w6 ⟨qc, gc, rfl, hq6, hg6, hmc, hb6⟩
  have B6 := Lib.hid (up_trans B5.out hb6)
  have M6 := Lib.hid (M5.out.below hb6)
  have R6 := Lib.hid (R5.out.below hb6)
  have C6 := Lib.hid hmc
  have z5 := R5.out.lt
  clear hb6 hmc
  go_wp2_with fail
  have c7 := clear_any _ _ _ _ 3 w6 M6.out
  rw [show setL L2 3 false = L3 from rfl, L3_b] at c7
  refine c7.mono ?_
  rintro e w7 ⟨rfl, ⟨ws7, hm7⟩, hg7⟩
  have hz1 := M4.out.2.1.lt
  have zz := B4.out.size
  have hgs : w.heap.size < w5.heap.size := Nat.lt_of_lt_of_le (by omega : w.heap.size < w4.heap.size) (Nat.le_of_lt z5)
  have B7 := Lib.hid (below_grown B6.out hg7 B6.out.size (Nat.le_refl _))
  obtain rfl := L3_words hm7.2.2.1
  have M7 := Lib.hid hm7
  have C7 := Lib.hid (C6.out.far hg7 (by omega) (by omega))
  have R7 := Lib.hid (R6.out.far hg7 (by omega))
  have T7 := Lib.hid (HT.out.drop B7.out hpos)
  clear hg7 hm7 c7 M1 M2 M3 M4 M5 M6 C6 R5 R6 B1 B2 B3 B4 B5 B6
  have r0 : w7.cell? ⟨w4.heap.size, 0, none⟩ = some (.int .u64 8) := R7.out.cell
  have r1 : w7.cell? ⟨w4.heap.size, 1, none⟩ = some (.int .u64 2) := R7.out.cell
  go_wp2_with fail
  have cc := count_any _ _ _ _ w7 C7.out
  rw [L2_sets] at cc
  refine cc.mono ?_
  rintro e w' ⟨rfl, rfl⟩
  clear cc
  go_wp2_with fail
  have ct := test_any _ _ _ _ 65 w7 M7.out
  rw [L3_test] at ct
  refine ct.mono ?_
  rintro e w8 ⟨rfl, hd8⟩
  have B8 := Lib.hid (up_trans B7.out hd8.below)
  have M8 := Lib.hid (M7.out.below hd8.below)
  have C8 := Lib.hid (C7.out.below hd8.below)
  have T8 := Lib.hid (T7.out.below hd8.below)
  clear hd8 ct r0 r1
  go_wp2_with fail
  have cf := first_any _ _ 0 _ _ true w8 M8.out T8.out
  rw [L3_first] at cf
  refine cf.mono ?_
  rintro e w' ⟨rfl, rfl⟩
  clear cf
  go_wp2_with fail
  have cn := nth_any _ _ _ _ 1 w8 C8.out T8.out (by omega)
  rw [L2_sets, L2_nth] at cn
  refine cn.mono ?_
  rintro e w' ⟨rfl, rfl⟩
  clear cn
  go_wp2_with fail
  have cr := run_yes _ _ 62 0 _ _ w8 C8.out T8.out (by omega) (by omega)
  rw [L2_run] at cr
  refine cr.mono ?_
  rintro e w' ⟨rfl, rfl⟩
  clear cr
  go_wp2_with fail
  have cr := run_yes _ _ 61 2 _ _ w8 C8.out T8.out (by omega) (by omega)
  rw [L2_run2] at cr
  refine cr.mono ?_
  rintro e w' ⟨rfl, rfl⟩
  clear cr
  go_wp2_with fail
  refine (key_any _ _ _ _ w8 M8.out).mono ?_
  rintro e w9 ⟨rfl, hb9⟩
  have B9 := Lib.hid (up_trans B8.out hb9)
  have M9 := Lib.hid (M8.out.below hb9)
  have C9 := Lib.hid (C8.out.below hb9)
  have T9 := Lib.hid (T8.out.below hb9)
  clear hb9
  rw [show keyV [0#64, 2#64] = .agg #[.int .u64 0, .int .u64 2, .int .u64 0, .int .u64 0] from rfl]
  go_wp2_with fail
  rw [key_eq]
  simp only [Result.andThen_ok, beq_self_eq_true, Bool.and_self]
  go_wp2_with fail
  refine (list_any _ _ _ _ w9 C9.out T9.out).mono ?_
  rw [L2_sets]
  rintro e w10 ⟨g10, cap10, rfl, hg10, ia10, hb10⟩
  have B10 := Lib.hid (up_trans B9.out hb10)
  have M10 := Lib.hid (M9.out.below hb10)
  have I10 := Lib.hid ia10
  clear hb10 ia10
  go_wp2_with fail
  have cs := same_any (some ⟨g10, 0, none⟩) (some ⟨w10.heap.size, 0, none⟩) [3, 65] [3, 65] cap10 2 w10.heap.size (w10.heap.size + 1) (w10.alloc (.cells #[.int .i64 3, .int .i64 65] 3)) (I10.out.below (up_alloc (Below.refl _ _) _)) (two_ints w10) (by decide)
  refine cs.mono ?_
  rintro e w11 ⟨rfl, hd11⟩
  have B11 := Lib.hid (up_trans (up_alloc B10.out _) hd11.below)
  have M11 := Lib.hid ((M10.out.below (up_alloc (Below.refl _ _) _)).below hd11.below)
  clear hd11 cs
  go_wp2_with fail
  have cl := len_any _ _ w11 M11.out.n
  rw [L3_len] at cl
  refine cl.mono ?_
  rintro e w' ⟨rfl, rfl⟩
  clear cl
  go_wp2
  go_ret
  exact ⟨rfl, B11.out⟩
end Go.Proofs.YthleflfljomeiaaDoor
