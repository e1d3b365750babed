/-
  What the references' Put does where an item comes last: a contract that the claimed proofs use.
-/
import Derived.Test.YtjjilnklcjgndaaAppend
namespace Go.Proofs.Ytjjilnklcjgndaa
open Go.RowKit

set_option maxHeartbeats 16000000 in
theorem rput_last (g n m i x N c : Nat) (A : Option Addr) (xs : List Nat) (w : World) (c0 : w.cell? ⟨g + 1, 0, none⟩ = some (.int .i64 (n : Int))) (c1 : w.cell? ⟨g + 1, 1, none⟩ = some (.slice (some ⟨g, 0, none⟩) m m)) (hi : i < m) (hx : x < n)
    (hin : Calls Try.prog 11 #[.pointer (some ⟨g + 1, 0, none⟩), .int .i64 (x : Int)] w fun e w' => e = .returned (.tuple #[.int .i64 (-1), .int .i64 (-1)]) ∧ w = w')
    (hv : w.cell? ⟨g, i, none⟩ = some (.slice A N c)) (hfz : w.frozen? ⟨g, i, none⟩ = false) (hN : xs.length = N) (hA : A = none → N = 0 ∧ c = 0) (hia : IA w.heap.size w A xs) (hl : N ≤ 4096) :
    Calls Try.prog 26 #[.pointer (some ⟨g + 1, 0, none⟩), .int .i64 (i : Int), .int .i64 (x : Int), .bool false] w fun e w' => e = .returned (.int .i64 0) ∧
      ∃ g' cap wd, wd.ownsRow w.heap.size 3 1 (.slice (some ⟨g', 0, none⟩) (N + 1) cap) (N + 1) (irow (xs ++ [x])) ∧ Below w.heap.size w wd ∧ Drawn (wd.setCell ⟨g, i, none⟩ (.slice (some ⟨g', 0, none⟩) (N + 1) cap)) w' := by
  have d1 : decide ((i : Int) < 0) = false := by simp
  have d2 : decide ((m : Int) ≤ (i : Int)) = false := by simp; omega
  have d3 : decide ((x : Int) < 0) = false := by simp
  have d4 : decide ((n : Int) ≤ (x : Int)) = false := by simp; omega
  have b1 : (0 : Int) ≤ (i : Int) := by omega
  have b2 : (i : Int) < (m : Int) := by omega
  have HI := Lib.hid hin
  have l1 := World.block_lt_of_cell? w _ c1
  have l2 := World.block_lt_of_cell? w _ hv
  have HN := Lib.hid hN
  have HA := Lib.hid hA
  have HIA := Lib.hid hia
  have hE : Below w.heap.size w (w.alloc (.cells #[] 3)) := up_alloc (Below.refl _ _) _
  have hX : Below w.heap.size w (w.alloc (.cells #[.int .i64 (x : Int)] 3)) := up_alloc (Below.refl _ _) _
  have hEX : Below w.heap.size w ((w.alloc (.cells #[] 3)).alloc (.cells #[.int .i64 (x : Int)] 3)) := up_alloc hE _
  have hXE : Below w.heap.size w ((w.alloc (.cells #[.int .i64 (x : Int)] 3)).alloc (.cells #[] 3)) := up_alloc hX _
  have e1 := (hE.cell (p := ⟨g + 1, 1, none⟩) l1).trans c1
  have e2 := (hE.cell (p := ⟨g, i, none⟩) l2).trans hv
  have x1 := (hX.cell (p := ⟨g + 1, 1, none⟩) l1).trans c1
  have x2 := (hX.cell (p := ⟨g, i, none⟩) l2).trans hv
  have ex1 := (hEX.cell (p := ⟨g + 1, 1, none⟩) l1).trans c1
  have ex2 := (hEX.cell (p := ⟨g, i, none⟩) l2).trans hv
  have xe1 := (hXE.cell (p := ⟨g + 1, 1, none⟩) l1).trans c1
  have xe2 := (hXE.cell (p := ⟨g, i, none⟩) l2).trans hv
  have HE := Lib.hid hE.drew
  have HEX := Lib.hid hEX.drew
  have HXE := Lib.hid hXE.drew
  have OE := Lib.hid (own_empty w.drew)
  have OEX : Hid (((w.alloc (.cells #[] 3)).alloc (.cells #[.int .i64 (x : Int)] 3)).drew.ownsRow w.heap.size 3 1 (.slice (some ⟨w.heap.size, 0, none⟩) 0 0) 0 (irow [])) := (own_empty w).alloc _
  have OXE : Hid (((w.alloc (.cells #[.int .i64 (x : Int)] 3)).alloc (.cells #[] 3)).drew.ownsRow w.heap.size 3 1 (.slice (some ⟨w.heap.size + 1, 0, none⟩) 0 0) 0 (irow [])) := by
    have := own_empty (w.alloc (.cells #[.int .i64 (x : Int)] 3))
    rw [World.size_alloc] at this
    refine ⟨this.1, ?_⟩
    rcases this.2 with h0 | ⟨g, cap, cur, h1, h2, h3⟩
    · exact .inl h0
    · exact .inr ⟨g, cap, cur, h1, by omega, h3⟩
  have XEX : Hid (((w.alloc (.cells #[] 3)).alloc (.cells #[.int .i64 (x : Int)] 3)).drew.heap[w.heap.size + 1]? = some (.cells #[.int .i64 (x : Int)] 3)) := by
    show ((w.alloc (.cells #[] 3)).alloc (.cells #[.int .i64 (x : Int)] 3)).heap[w.heap.size + 1]? = _
    rw [← World.size_alloc (w := w) (o := .cells #[] 3)]; exact heap_alloc_new _ _
  have XXE : Hid (((w.alloc (.cells #[.int .i64 (x : Int)] 3)).alloc (.cells #[] 3)).drew.heap[w.heap.size]? = some (.cells #[.int .i64 (x : Int)] 3)) := by
    show ((w.alloc (.cells #[.int .i64 (x : Int)] 3)).alloc (.cells #[] 3)).heap[w.heap.size]? = _
    rw [Below.heap_alloc _ _ _ (by simp)]; exact heap_alloc_new _ _
  clear hin hN hA hia hE hX hEX hXE
  go_enter Try.func26, Try.ntmps26
  go_wp2_with (go_at_call 11; refine HI.out.mono ?_; rintro e w' ⟨rfl, rfl⟩)
  go_region_law (first
    | (refine step_app (by rfl) _ _ (by rfl) w.heap.size g1 cap1 N 1 1 _ xs [x] (some ⟨w.heap.size + 1, 0, none⟩) (by simp [Act.eval]) OO1.out (by simp [Act.eval]) rfl (by simp) (IA.one XX1.out) (by omega) ?_ ?_; exact SS.out; intro g2 cap2 w2 O2 B2 _; have k1 := (B2.out.cell (p := ⟨g + 1, 1, none⟩) l1).trans CC.out.1; have k2 := (B2.out.cell (p := ⟨g, i, none⟩) l2).trans CC.out.2.1; have k3 := (B2.out.frozen (p := ⟨g, i, none⟩) l2).trans CC.out.2.2)
    | (refine step_app (by rfl) _ _ (by rfl) w.heap.size g1 cap1 N 1 1 _ xs [x] (some ⟨w.heap.size, 0, none⟩) (by simp [Act.eval]) OO1.out (by simp [Act.eval]) rfl (by simp) (IA.one XX0.out) (by omega) ?_ ?_; exact SS.out; intro g2 cap2 w2 O2 B2 _; have k1 := (B2.out.cell (p := ⟨g + 1, 1, none⟩) l1).trans CC.out.1; have k2 := (B2.out.cell (p := ⟨g, i, none⟩) l2).trans CC.out.2.1; have k3 := (B2.out.frozen (p := ⟨g, i, none⟩) l2).trans CC.out.2.2)
    | (refine step_app (by rfl) _ _ (by rfl) w.heap.size g1 cap1 N 1 1 _ xs [x] (some ⟨w1.heap.size, 0, none⟩) (by simp [Act.eval]) (O1.out.alloc _) (by simp [Act.eval]) rfl (by simp) (IA.one (show (w1.alloc (.cells #[.int .i64 (x : Int)] 3)).cell? ⟨w1.heap.size, 0, none⟩ = _ from (Blk.cell (show Blk _ _ [.int .i64 (x : Int)] 3 from heap_alloc_new w1 _)))) (by omega) ?_ ?_; exact SA.out; intro g2 cap2 w2 O2 B2 _; have k1 := (B2.out.cell (p := ⟨g + 1, 1, none⟩) l1).trans CA.out.1; have k2 := (B2.out.cell (p := ⟨g, i, none⟩) l2).trans CA.out.2.1; have k3 := (B2.out.frozen (p := ⟨g, i, none⟩) l2).trans CA.out.2.2)
    | (refine step_app0 (by rfl) _ _ (by rfl) w.heap.size w.heap.size 0 N c w.heap.size xs A (by simp [Act.eval]) OE.out (by simp [Act.eval]) HN.out HA.out (HIA.out.below HE.out) (by omega) (by simp) ?_; intro g1 cap1 w1 O1 B1 _; have k1 := (B1.out.cell (p := ⟨g + 1, 1, none⟩) l1).trans e1; have k2 := (B1.out.cell (p := ⟨g, i, none⟩) l2).trans e2; have k3 := (B1.out.frozen (p := ⟨g, i, none⟩) l2).trans ((HE.out.frozen (p := ⟨g, i, none⟩) l2).trans hfz); have BB := Lib.hid (HE.out.trans B1.out); have SA : Hid (w.heap.size ≤ (w1.alloc (.cells #[.int .i64 (x : Int)] 3)).heap.size) := (up_alloc BB.out _).size; have z1 := ((up_alloc BB.out (.cells #[.int .i64 (x : Int)] 3)).cell (p := ⟨g + 1, 1, none⟩) l1).trans c1; have CA := Lib.hid (And.intro z1 (And.intro (((up_alloc BB.out (.cells #[.int .i64 (x : Int)] 3)).cell (p := ⟨g, i, none⟩) l2).trans hv) (((up_alloc BB.out (.cells #[.int .i64 (x : Int)] 3)).frozen (p := ⟨g, i, none⟩) l2).trans hfz))); have BF := Lib.hid (up_alloc BB.out (.cells #[.int .i64 (x : Int)] 3)))
    | (refine step_app0 (by rfl) _ _ (by rfl) w.heap.size w.heap.size 0 N c w.heap.size xs A (by simp [Act.eval]) OEX.out (by simp [Act.eval]) HN.out HA.out (HIA.out.below HEX.out) (by omega) (by simp; omega) ?_; intro g1 cap1 w1 O1 B1 G1; have k1 := (B1.out.cell (p := ⟨g + 1, 1, none⟩) l1).trans ex1; have k2 := (B1.out.cell (p := ⟨g, i, none⟩) l2).trans ex2; have k3 := (B1.out.frozen (p := ⟨g, i, none⟩) l2).trans ((HEX.out.frozen (p := ⟨g, i, none⟩) l2).trans hfz); have BF := Lib.hid (HEX.out.trans B1.out); have OO1 := O1; have SS := Lib.hid BF.out.size; have CC := Lib.hid (And.intro k1 (And.intro k2 k3)); have XX1 : Hid (w1.cell? ⟨w.heap.size + 1, 0, none⟩ = some (.int .i64 (x : Int))) := Blk.cell (show Blk w1 (w.heap.size + 1) [.int .i64 (x : Int)] 3 from (G1.out.block _ (by simp) (by simp)).trans XEX.out))
    | (refine step_app0 (by rfl) _ _ (by rfl) w.heap.size (w.heap.size + 1) 0 N c w.heap.size xs A (by simp [Act.eval]) OXE.out (by simp [Act.eval]) HN.out HA.out (HIA.out.below HXE.out) (by omega) (by simp; omega) ?_; intro g1 cap1 w1 O1 B1 G1; have k1 := (B1.out.cell (p := ⟨g + 1, 1, none⟩) l1).trans xe1; have k2 := (B1.out.cell (p := ⟨g, i, none⟩) l2).trans xe2; have k3 := (B1.out.frozen (p := ⟨g, i, none⟩) l2).trans ((HXE.out.frozen (p := ⟨g, i, none⟩) l2).trans hfz); have BF := Lib.hid (HXE.out.trans B1.out); have OO1 := O1; have SS := Lib.hid BF.out.size; have CC := Lib.hid (And.intro k1 (And.intro k2 k3)); have XX0 : Hid (w1.cell? ⟨w.heap.size, 0, none⟩ = some (.int .i64 (x : Int))) := Blk.cell (show Blk w1 w.heap.size [.int .i64 (x : Int)] 3 from (G1.out.block _ (by simp; omega) (by simp)).trans XXE.out)))
  all_goals go_wp2
  all_goals go_ret
  all_goals exact ⟨rfl, g2, cap2, w2, O2.out, BF.out.trans B2.out, Drawn.refl _⟩
end Go.Proofs.Ytjjilnklcjgndaa
