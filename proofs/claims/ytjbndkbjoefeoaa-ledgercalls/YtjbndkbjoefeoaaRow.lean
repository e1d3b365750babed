/-
  How a list of numbers becomes a row: a contract that the claimed proof uses.
-/
import Derived.Test.YtjbndkbjoefeoaaRef
namespace Go.Proofs.Ytjbndkbjoefeoaa
open Go.RowKit Go.Maps

def rowL (f : Row) : List Value := [.int .i64 (f 0), .int .i64 (f 1), .int .i64 (f 2), .int .i64 (f 3), .int .i64 (f 4), .int .i64 (f 5), .int .i64 (f 6), .int .i64 (f 7)]
def mix (f : Row) (k : Nat) : Row := fun j => if j < k then f j else 0
theorem mix_set (f : Row) {k : Nat} (h : k < 8) : (rowL (mix f k)).set k (.int .i64 (f k)) = rowL (mix f (k + 1)) := by
  rcases (by omega : k = 0 ∨ k = 1 ∨ k = 2 ∨ k = 3 ∨ k = 4 ∨ k = 5 ∨ k = 6 ∨ k = 7) with rfl | rfl | rfl | rfl | rfl | rfl | rfl | rfl <;> rfl
theorem mix_all (f : Row) : rowL (mix f 8) = rowL f := rfl
theorem rowL_at (f : Row) {k : Nat} (h : k < 8) : (rowL f)[k]? = some (.int .i64 (f k)) := by
  rcases (by omega : k = 0 ∨ k = 1 ∨ k = 2 ∨ k = 3 ∨ k = 4 ∨ k = 5 ∨ k = 6 ∨ k = 7) with rfl | rfl | rfl | rfl | rfl | rfl | rfl | rfl <;> rfl
section
variable {B : Nat} {w w' w'' : World} {q b p : Nat} {C : Int} {S : List Row} {f : Row}
theorem row_any {r c : Nat} (h : RowS w (.slice (some ⟨r, 0, none⟩) 8 c) f) :
    Calls Try.prog 13 #[.slice (some ⟨r, 0, none⟩) 8 c] w fun e w' => e = .returned (rowV f) ∧ Below w.heap.size w w' := by
  have b0 : Below w.heap.size w (w.alloc (.cells #[.int .i64 0, .int .i64 0, .int .i64 0, .int .i64 0, .int .i64 0, .int .i64 0, .int .i64 0, .int .i64 0] 24)) := up_alloc (Below.refl _ _) _
  have b1 : Below w.heap.size w ((w.alloc (.cells #[.int .i64 0, .int .i64 0, .int .i64 0, .int .i64 0, .int .i64 0, .int .i64 0, .int .i64 0, .int .i64 0] 24)).alloc (.cells #[.int .i64 0, .int .i64 0, .int .i64 0, .int .i64 0, .int .i64 0, .int .i64 0, .int .i64 0, .int .i64 0] 24)) := up_alloc b0 _
  have z0 : Blk ((w.alloc (.cells #[.int .i64 0, .int .i64 0, .int .i64 0, .int .i64 0, .int .i64 0, .int .i64 0, .int .i64 0, .int .i64 0] 24)).alloc (.cells #[.int .i64 0, .int .i64 0, .int .i64 0, .int .i64 0, .int .i64 0, .int .i64 0, .int .i64 0, .int .i64 0] 24)) w.heap.size (rowL z8) 24 :=
    (show Blk (w.alloc (.cells #[.int .i64 0, .int .i64 0, .int .i64 0, .int .i64 0, .int .i64 0, .int .i64 0, .int .i64 0, .int .i64 0] 24)) w.heap.size (rowL z8) 24 from heap_alloc_last w _).of (Below.heap_alloc _ _ _ (by simp))
  have z1 : Blk ((w.alloc (.cells #[.int .i64 0, .int .i64 0, .int .i64 0, .int .i64 0, .int .i64 0, .int .i64 0, .int .i64 0, .int .i64 0] 24)).alloc (.cells #[.int .i64 0, .int .i64 0, .int .i64 0, .int .i64 0, .int .i64 0, .int .i64 0, .int .i64 0, .int .i64 0] 24)) (w.heap.size + 1) (rowL (mix f 0)) 24 := by
    have := heap_alloc_last (w.alloc (.cells #[.int .i64 0, .int .i64 0, .int .i64 0, .int .i64 0, .int .i64 0, .int .i64 0, .int .i64 0, .int .i64 0] 24)) (.cells #[.int .i64 0, .int .i64 0, .int .i64 0, .int .i64 0, .int .i64 0, .int .i64 0, .int .i64 0, .int .i64 0] 24)
    have e : (w.alloc (.cells #[.int .i64 0, .int .i64 0, .int .i64 0, .int .i64 0, .int .i64 0, .int .i64 0, .int .i64 0, .int .i64 0] 24)).heap.size = w.heap.size + 1 := by simp
    rw [e] at this
    exact this
  have HB1 := Lib.hid b1
  have Z0 := Lib.hid z0
  have Z1 := Lib.hid z1
  have HH := Lib.hid h
  clear b0 b1 z0 z1 h
  go_enter Try.func13, Try.ntmps13
  go_wp2_with fail
  generalize (w.alloc (.cells #[.int .i64 0, .int .i64 0, .int .i64 0, .int .i64 0, .int .i64 0, .int .i64 0, .int .i64 0, .int .i64 0] 24)).alloc (.cells #[.int .i64 0, .int .i64 0, .int .i64 0, .int .i64 0, .int .i64 0, .int .i64 0, .int .i64 0, .int .i64 0] 24) = W at HB1 Z0 Z1 ⊢
  go_loopw [4] (fun i wr => ∃ k : Nat, k ≤ 8 ∧ i = .int .i64 k ∧ Blk wr w.heap.size (rowL z8) 24 ∧ Blk wr (w.heap.size + 1) (rowL (mix f k)) 24 ∧ Below w.heap.size w wr) (fun i _ => 8 - (intOf i).toNat)
  case atStart => exact ⟨0, by omega, rfl, Z0.out, Z1.out, HB1.out⟩
  case round =>
    obtain ⟨k, hk, rfl, y0, y1, yb⟩ := hrel
    have Y0 := Lib.hid y0
    have Y1 := Lib.hid y1
    have YB := Lib.hid yb
    clear y0 y1 yb Z0 Z1 HB1
    by_cases hlt : k < 8
    · have cR := (HH.out.below YB.out).cell hlt
      have cK : wr.cell? ⟨w.heap.size + 1, k, none⟩ = some (.int .i64 (mix f k k)) := by rw [Y1.out.cell]; exact rowL_at _ hlt
      have fz := Y1.out.frozen k
      have i1 : (0 : Int) ≤ (k : Int) := by omega
      have i2 : (k : Int) < 8 := by omega
      have d1 : decide ((k : Int) < 8) = true := by simpa using i2
      have hlr := HH.out.lt
      go_wp2
      go_roundw
      case rel =>
        refine ⟨k + 1, by omega, by go_num, ?_, ?_, YB.out.setCell (Nat.le_succ _) _⟩
        · exact Y0.out.of (Below.heap_setCell _ _ _ _ (by simp))
        · have := Y1.out.set (i := k) (.int .i64 (f k))
          rwa [mix_set f hlt] at this
      case measure => simp [intOf]; omega
    · obtain rfl : k = 8 := by omega
      have c0 : wr.cell? ⟨w.heap.size + 1, 0, none⟩ = some (.int .i64 (f 0)) := Y1.out.cell
      have c1 : wr.cell? ⟨w.heap.size + 1, 1, none⟩ = some (.int .i64 (f 1)) := Y1.out.cell
      have c2 : wr.cell? ⟨w.heap.size + 1, 2, none⟩ = some (.int .i64 (f 2)) := Y1.out.cell
      have c3 : wr.cell? ⟨w.heap.size + 1, 3, none⟩ = some (.int .i64 (f 3)) := Y1.out.cell
      have c4 : wr.cell? ⟨w.heap.size + 1, 4, none⟩ = some (.int .i64 (f 4)) := Y1.out.cell
      have c5 : wr.cell? ⟨w.heap.size + 1, 5, none⟩ = some (.int .i64 (f 5)) := Y1.out.cell
      have c6 : wr.cell? ⟨w.heap.size + 1, 6, none⟩ = some (.int .i64 (f 6)) := Y1.out.cell
      have c7 : wr.cell? ⟨w.heap.size + 1, 7, none⟩ = some (.int .i64 (f 7)) := Y1.out.cell
      have d0 : wr.cell? ⟨w.heap.size, 0, none⟩ = some (.int .i64 0) := Y0.out.cell
      have d1 : wr.cell? ⟨w.heap.size, 1, none⟩ = some (.int .i64 0) := Y0.out.cell
      have d2 : wr.cell? ⟨w.heap.size, 2, none⟩ = some (.int .i64 0) := Y0.out.cell
      have d3 : wr.cell? ⟨w.heap.size, 3, none⟩ = some (.int .i64 0) := Y0.out.cell
      have d4 : wr.cell? ⟨w.heap.size, 4, none⟩ = some (.int .i64 0) := Y0.out.cell
      have d5 : wr.cell? ⟨w.heap.size, 5, none⟩ = some (.int .i64 0) := Y0.out.cell
      have d6 : wr.cell? ⟨w.heap.size, 6, none⟩ = some (.int .i64 0) := Y0.out.cell
      have d7 : wr.cell? ⟨w.heap.size, 7, none⟩ = some (.int .i64 0) := Y0.out.cell
      have fz := fun i => Y0.out.frozen i
      clear HH
      go_wp2
      have hend := (((((((Y0.out.set (i := 0) (.int .i64 (f 0))).set (i := 1) (.int .i64 (f 1))).set (i := 2) (.int .i64 (f 2))).set (i := 3) (.int .i64 (f 3))).set (i := 4) (.int .i64 (f 4))).set (i := 5) (.int .i64 (f 5))).set (i := 6) (.int .i64 (f 6))).set (i := 7) (.int .i64 (f 7))
      refine bodyPost_ret (v := rowV f) ?_ rfl ?_
      · exact results_cell_row (P := Try.prog) rfl _ _ w.heap.size 24 (rowA f) (0, 0) _ rfl hend Try.underlying24 rfl (by kernel_rfl)
      · exact ⟨rfl, (((((((YB.out.setCell (Nat.le_refl _) _).setCell (Nat.le_refl _) _).setCell (Nat.le_refl _) _).setCell (Nat.le_refl _) _).setCell (Nat.le_refl _) _).setCell (Nat.le_refl _) _).setCell (Nat.le_refl _) _).setCell (Nat.le_refl _) _⟩
theorem rnew_no (C : Int) (w : World) (h : ¬ (0 ≤ C ∧ C ≤ 1099511627776)) : Calls Try.prog 8 #[.int .i64 C] w fun e w' => e = .returned (.tuple #[.pointer none, .int .i64 11]) ∧ w = w' := by
  by_cases h0 : C < 0
  · have d0 : decide (C < 0) = true := by simpa using h0
    go_enter Try.func8, Try.ntmps8
    go_wp2
    go_ret2
    exact ⟨rfl, rfl⟩
  · have d0 : decide (C < 0) = false := by simpa using h0
    have d1 : decide (1099511627776 < C) = true := by simp; omega
    clear h
    go_enter Try.func8, Try.ntmps8
    go_wp2
    go_ret2
    exact ⟨rfl, rfl⟩
theorem make8 (W : World) : (Instr.makeSlice 40 (.int .i64 8) (.int .i64 8)).run Try.prog W = .ok (.slice (some ⟨W.heap.size, 0, none⟩) 8 8) (W.alloc (.cells #[.int .i64 0, .int .i64 0, .int .i64 0, .int .i64 0, .int .i64 0, .int .i64 0, .int .i64 0, .int .i64 0] 3)) := by
  obtain ⟨i, hi, hz, hs, hb⟩ := info_parts int_parts
  have := run_make (P := Try.prog) W 40 3 i (.int .i64 0) Try.underlying40 hi hz .i64 .i64 8 8 (by omega) (by omega) (by rw [hb]; omega) (by omega)
  rw [hs, show madeCells (Value.int IntKind.i64 0).cells (Int.toNat 8 * 1) = #[.int .i64 0, .int .i64 0, .int .i64 0, .int .i64 0, .int .i64 0, .int .i64 0, .int .i64 0, .int .i64 0] by kernel_rfl] at this
  exact this
theorem rnew_yes (C : Int) (w : World) (h0 : 0 ≤ C) (h1 : C ≤ 1099511627776) (hB : B ≤ w.heap.size) :
    Calls Try.prog 8 #[.int .i64 C] w fun e w' => ∃ p, e = .returned (.tuple #[.pointer (some ⟨p, 0, none⟩), .int .i64 0]) ∧ Rf B w' p C [z8] ∧ Below w.heap.size w w' := by
  have d0 : decide (C < 0) = false := by simpa using h0
  have d1 : decide (1099511627776 < C) = false := by simpa using h1
  have hmk := make8
  go_enter Try.func8, Try.ntmps8
  go_wp2
  go_ret2
  obtain ⟨x, hx⟩ : ∃ x : Obj, x = .cells #[.int .i64 0, .int .i64 0, .int .i64 0, .int .i64 0, .int .i64 0, .int .i64 0, .int .i64 0, .int .i64 0] 3 := ⟨_, rfl⟩
  obtain ⟨y, hy⟩ : ∃ y : Obj, y = .cells #[.slice (some ⟨w.heap.size, 0, none⟩) 8 8] 40 := ⟨_, rfl⟩
  obtain ⟨z, hz⟩ : ∃ z : Obj, z = .cells #[.int .i64 C, .slice (some ⟨w.heap.size + 1, 0, none⟩) 1 1] 44 := ⟨_, rfl⟩
  rw [← hx, ← hy, ← hz]
  have s1 : (w.alloc x).heap.size = w.heap.size + 1 := by simp
  have s2 : ((w.alloc x).alloc y).heap.size = w.heap.size + 1 + 1 := by simp
  have k1 : (w.alloc x).heap[w.heap.size]? = some x := heap_alloc_last w x
  have k2 : ((w.alloc x).alloc y).heap[w.heap.size + 1]? = some y := by have := heap_alloc_last (w.alloc x) y; rwa [s1] at this
  have k3 : (((w.alloc x).alloc y).alloc z).heap[w.heap.size + 1 + 1]? = some z := by have := heap_alloc_last ((w.alloc x).alloc y) z; rwa [s2] at this
  have k1' : (((w.alloc x).alloc y).alloc z).heap[w.heap.size]? = some x := by rw [Below.heap_alloc _ _ _ (by omega), Below.heap_alloc _ _ _ (by omega)]; exact k1
  have k2' : (((w.alloc x).alloc y).alloc z).heap[w.heap.size + 1]? = some y := by rw [Below.heap_alloc _ _ _ (by omega)]; exact k2
  refine ⟨_, rfl, ⟨w.heap.size + 1, 1, [.slice (some ⟨w.heap.size, 0, none⟩) 8 8], ?_, by omega, ?_, fun i hi => ?_⟩, up_alloc (up_alloc (up_alloc (Below.refl _ _) _) _) _⟩
  · unfold Blk; rw [k3, hz]; rfl
  · exact ⟨rfl, .inr ⟨w.heap.size + 1, 1, #[.slice (some ⟨w.heap.size, 0, none⟩) 8 8], rfl, by omega, by rw [k2', hy], by decide, by decide, rfl, rfl⟩⟩
  · obtain rfl : i = 0 := by simp at hi; omega
    refine ⟨_, rfl, w.heap.size, 8, rowL z8, rfl, by unfold Blk; rw [k1', hx]; rfl, fun j hj => rowL_at z8 hj⟩
end
end Go.Proofs.Ytjbndkbjoefeoaa
