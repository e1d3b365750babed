/-
  What a book is asked: contracts that the claimed proofs use.
-/
import Derived.Test.YtjnknnakllbaaaaGreatLeMem
namespace Go.Proofs.YtjnknnakllbaaaaGreat.Le
set_option maxRecDepth 100000
open Go.RowKit Go.Maps

theorem kind_any (k : Int) (w : World) : Calls Tryz.prog 86 #[.int .i64 k] w fun e w' => e = .returned (.bool (kindB k)) ∧ w = w' := by
  by_cases h0 : 0 ≤ k
  · have d0 : decide (0 ≤ k) = true := by simpa using h0
    have e : kindB k = decide (k < 8) := by simp [kindB, h0]
    rw [e]
    go_enter Tryz.func86, Tryz.ntmps86
    go_wp2
    go_ret
    exact ⟨rfl, rfl⟩
  · have d0 : decide (0 ≤ k) = false := by simpa using h0
    have e : kindB k = false := by simp [kindB, h0]
    rw [e]
    go_enter Tryz.func86, Tryz.ntmps86
    go_wp2
    go_ret
    exact ⟨rfl, rfl⟩
theorem row_index (f : Row) (k : Nat) (hk : k < 8) (w : World) : (Instr.index 24 (.agg #[.int .i64 (f 0), .int .i64 (f 1), .int .i64 (f 2), .int .i64 (f 3), .int .i64 (f 4), .int .i64 (f 5), .int .i64 (f 6), .int .i64 (f 7)]) (.int .i64 k)).run Tryz.prog w = .ok (.int .i64 (f k)) w := by
  rcases (by omega : k = 0 ∨ k = 1 ∨ k = 2 ∨ k = 3 ∨ k = 4 ∨ k = 5 ∨ k = 6 ∨ k = 7) with rfl | rfl | rfl | rfl | rfl | rfl | rfl | rfl <;> kernel_rfl
/-- The cells of a row that lies from cell o of block q on. -/
structure C8 (w : World) (q o : Nat) (f : Row) : Prop where
  c0 : w.cell? ⟨q, o, none⟩ = some (.int .i64 (f 0))
  c1 : w.cell? ⟨q, o + 1, none⟩ = some (.int .i64 (f 1))
  c2 : w.cell? ⟨q, o + 2, none⟩ = some (.int .i64 (f 2))
  c3 : w.cell? ⟨q, o + 3, none⟩ = some (.int .i64 (f 3))
  c4 : w.cell? ⟨q, o + 4, none⟩ = some (.int .i64 (f 4))
  c5 : w.cell? ⟨q, o + 5, none⟩ = some (.int .i64 (f 5))
  c6 : w.cell? ⟨q, o + 6, none⟩ = some (.int .i64 (f 6))
  c7 : w.cell? ⟨q, o + 7, none⟩ = some (.int .i64 (f 7))
section
variable {w : World} {q b : Nat} {C p : Int} {f : Row}
theorem blk_8 (h : Blk w q (lc C f p b) 132) : C8 w q 1 f := ⟨h.cell, h.cell, h.cell, h.cell, h.cell, h.cell, h.cell, h.cell⟩
theorem blk_0 (h : Blk w q (lc C f p b) 132) : w.cell? ⟨q, 0, none⟩ = some (.int .i64 C) := h.cell
theorem blk_9 (h : Blk w q (lc C f p b) 132) : w.cell? ⟨q, 9, none⟩ = some (.int .i64 p) := h.cell
theorem blk_10 (h : Blk w q (lc C f p b) 132) : w.cell? ⟨q, 10, none⟩ = some (.map (some b)) := h.cell
theorem blk_k (h : Blk w q (lc C f p b) 132) {k : Nat} (hk : k < 8) : w.cell? ⟨q, 1 + k, none⟩ = some (.int .i64 (f k)) := by rw [h.cell, lc_at _ _ _ _ hk]
theorem total_any (h : Blk w q (lc C f p b) 132) (hg : Gd C f) (hC : C ≤ 1099511627776) :
    Calls Tryz.prog 108 #[.pointer (some ⟨q, 0, none⟩)] w fun e w' => e = .returned (.int .i64 (tot f)) ∧ w = w' := by
  obtain ⟨c1, c2, c3, c4, c5, c6, c7, c8⟩ := blk_8 h
  have HG := Lib.hid hg
  clear h hg
  go_enter Tryz.func108, Tryz.ntmps108
  go_wp2_with fail
  go_loop [3, 10] (fun t i => ∃ k : Nat, k ≤ 8 ∧ t = .int .i64 (sumTo f k) ∧ i = .int .i64 k) (fun _ i => 8 - (intOf i).toNat)
  case atStart => exact ⟨0, by omega, rfl, rfl⟩
  case round =>
    obtain ⟨k, hk, rfl, rfl⟩ := hrel
    by_cases hlt : k < 8
    · have hi := row_index f k hlt w
      have s0 := HG.out.sum (k := k) (by omega)
      have s1 := HG.out.sum (k := k + 1) (by omega)
      have e1 : sumTo f (k + 1) = sumTo f k + f k := rfl
      rw [e1] at s1
      have E1 := Lib.hid e1
      have hw := i64_in (sumTo f k + f k) (by omega) (by omega)
      clear e1
      generalize sumTo f k = s at *
      generalize f k = x at *
      go_wp2
      go_round
      case rel => exact ⟨k + 1, by omega, by rw [E1.out], by go_num⟩
      case measure => simp [intOf]; omega
    · obtain rfl : k = 8 := by omega
      go_wp2
      go_ret
      exact ⟨rfl, rfl⟩
theorem left_any (h : Blk w q (lc C f p b) 132) (hg : Gd C f) (hC : C ≤ 1099511627776) :
    Calls Tryz.prog 103 #[.pointer (some ⟨q, 0, none⟩)] w fun e w' => e = .returned (.int .i64 (C - tot f)) ∧ Drawn w w' := by
  have c0 := blk_0 h
  have hT := fun j => total_any (w := w.drewN j) (h.of (by rw [drewN_heap])) hg hC
  have HT := Lib.hid hT
  have ht := hg.tot
  have hw := i64_in (C - tot f) (by omega) (by omega)
  generalize tot f = x at *
  clear h hg hT
  go_enter Tryz.func103, Tryz.ntmps103
  go_wp2_with fail
  go_quiet ((go_at_call 108; exact Calls.quiet_of_same ((HT.out _).mono fun e w' he => ⟨he.1, he.2.symm⟩)))
  go_wp2
  go_ret
  exact ⟨rfl, ⟨_, rfl⟩⟩
theorem peak_any (h : Blk w q (lc C f p b) 132) :
    Calls Tryz.prog 61 #[.pointer (some ⟨q, 0, none⟩)] w fun e w' => e = .returned (.int .i64 p) ∧ w = w' := by
  have c0 := blk_9 h
  clear h
  go_enter Tryz.func61, Tryz.ntmps61
  go_wp2
  go_ret
  exact ⟨rfl, rfl⟩
def heldOf (f : Row) (k : Int) : Int := if kindB k = true then f k.toNat else 0
theorem held_any (k : Int) (h : Blk w q (lc C f p b) 132) :
    Calls Tryz.prog 55 #[.pointer (some ⟨q, 0, none⟩), .int .i64 k] w fun e w' => e = .returned (.int .i64 (heldOf f k)) ∧ w = w' := by
  cases hk : kindB k with
  | false =>
    have e : heldOf f k = 0 := by simp [heldOf, hk]
    rw [e]
    clear h
    go_enter Tryz.func55, Tryz.ntmps55
    go_wp2_with (go_at_call 86; refine (kind_any _ _).mono ?_; rw [hk]; rintro e w' ⟨rfl, rfl⟩)
    go_ret
    exact ⟨rfl, rfl⟩
  | true =>
    obtain ⟨k0, k1⟩ := kindB_iff.1 hk
    have e : heldOf f k = f k.toNat := by simp [heldOf, hk]
    rw [e]
    have c0 := blk_k h (k := k.toNat) (by omega)
    clear h
    go_enter Tryz.func55, Tryz.ntmps55
    go_wp2_with (go_at_call 86; refine (kind_any _ _).mono ?_; rw [hk]; rintro e w' ⟨rfl, rfl⟩)
    go_ret
    exact ⟨rfl, rfl⟩
theorem may_any (k n : Int) (h : Blk w q (lc C f p b) 132) :
    Calls Tryz.prog 100 #[.pointer (some ⟨q, 0, none⟩), .int .i64 k, .int .i64 n] w fun e w' => e = .returned (.int .i64 (relE f k n)) ∧ w = w' := by
  cases hk : kindB k with
  | false =>
    have e : relE f k n = 11 := by simp [relE, hk]
    rw [e]
    clear h
    go_enter Tryz.func100, Tryz.ntmps100
    go_wp2_with (go_at_call 86; refine (kind_any _ _).mono ?_; rw [hk]; rintro e w' ⟨rfl, rfl⟩)
    go_ret
    exact ⟨rfl, rfl⟩
  | true =>
    obtain ⟨k0, k1⟩ := kindB_iff.1 hk
    by_cases hn : n < 0
    · have d1 : decide (n < 0) = true := by simpa using hn
      have e : relE f k n = 11 := by unfold relE; rw [if_neg (by omega)]
      rw [e]
      clear h
      go_enter Tryz.func100, Tryz.ntmps100
      go_wp2_with (go_at_call 86; refine (kind_any _ _).mono ?_; rw [hk]; rintro e w' ⟨rfl, rfl⟩)
      go_ret
      exact ⟨rfl, rfl⟩
    · have d1 : decide (n < 0) = false := by simpa using hn
      have c0 := blk_k h (k := k.toNat) (by omega)
      clear h
      by_cases hf : f k.toNat < n
      · have d2 : decide (f k.toNat < n) = true := by simpa using hf
        have e : relE f k n = 16 := by unfold relE; rw [if_pos ⟨hk, by omega⟩, if_pos hf]
        rw [e]
        go_enter Tryz.func100, Tryz.ntmps100
        go_wp2_with (go_at_call 86; refine (kind_any _ _).mono ?_; rw [hk]; rintro e w' ⟨rfl, rfl⟩)
        go_ret
        exact ⟨rfl, rfl⟩
      · have d2 : decide (f k.toNat < n) = false := by simpa using hf
        have e : relE f k n = 0 := by unfold relE; rw [if_pos ⟨hk, by omega⟩, if_neg hf]
        rw [e]
        go_enter Tryz.func100, Tryz.ntmps100
        go_wp2_with (go_at_call 86; refine (kind_any _ _).mono ?_; rw [hk]; rintro e w' ⟨rfl, rfl⟩)
        go_ret
        exact ⟨rfl, rfl⟩
theorem seen_any {S : List Row} {g : Row} (h : Led w q b C S) (hg : okR g) :
    Calls Tryz.prog 62 #[.pointer (some ⟨q, 0, none⟩), rowV g] w fun e w' => e = .returned (.int .i64 (cn S g)) ∧ Below w.heap.size w w' := by
  have hB := up_alloc (Below.refl _ w) (.cells #[.int .i64 (g 0), .int .i64 (g 1), .int .i64 (g 2), .int .i64 (g 3), .int .i64 (g 4), .int .i64 (g 5), .int .i64 (g 6), .int .i64 (g 7)] 24)
  have H := h.below hB
  have hN : Blk (w.alloc (.cells #[.int .i64 (g 0), .int .i64 (g 1), .int .i64 (g 2), .int .i64 (g 3), .int .i64 (g 4), .int .i64 (g 5), .int .i64 (g 6), .int .i64 (g 7)] 24)) w.heap.size _ 24 := heap_alloc_last w _
  have HBB := Lib.hid hB
  have HH := Lib.hid H
  have HN := Lib.hid hN
  clear h H hB hN
  unfold rowV rowA
  go_enter Tryz.func62, Tryz.ntmps62
  go_wp2_with fail
  generalize w.alloc (.cells #[.int .i64 (g 0), .int .i64 (g 1), .int .i64 (g 2), .int .i64 (g 3), .int .i64 (g 4), .int .i64 (g 5), .int .i64 (g 6), .int .i64 (g 7)] 24) = W at HBB HH HN ⊢
  have c0 := blk_10 HH.out.blk
  have g0 : W.cell? ⟨w.heap.size, 0, none⟩ = some (.int .i64 (g 0)) := HN.out.cell
  have g1 : W.cell? ⟨w.heap.size, 1, none⟩ = some (.int .i64 (g 1)) := HN.out.cell
  have g2 : W.cell? ⟨w.heap.size, 2, none⟩ = some (.int .i64 (g 2)) := HN.out.cell
  have g3 : W.cell? ⟨w.heap.size, 3, none⟩ = some (.int .i64 (g 3)) := HN.out.cell
  have g4 : W.cell? ⟨w.heap.size, 4, none⟩ = some (.int .i64 (g 4)) := HN.out.cell
  have g5 : W.cell? ⟨w.heap.size, 5, none⟩ = some (.int .i64 (g 5)) := HN.out.cell
  have g6 : W.cell? ⟨w.heap.size, 6, none⟩ = some (.int .i64 (g 6)) := HN.out.cell
  have g7 : W.cell? ⟨w.heap.size, 7, none⟩ = some (.int .i64 (g 7)) := HN.out.cell
  have hl : ∀ j, (Instr.lookup 130 (.map (some b)) (.agg #[.int .i64 (g 0), .int .i64 (g 1), .int .i64 (g 2), .int .i64 (g 3), .int .i64 (g 4), .int .i64 (g 5), .int .i64 (g 6), .int .i64 (g 7)]) false).run Tryz.prog (W.drewN j) = .ok (.int .i64 (cn S g)) (W.drewN j) := fun j => (HH.out.mp.of (by rw [drewN_heap])).look hg
  go_quiet (fail)
  go_wp2
  go_ret
  exact ⟨rfl, up_drew HBB.out _⟩
end
end Go.Proofs.YtjnknnakllbaaaaGreat.Le
