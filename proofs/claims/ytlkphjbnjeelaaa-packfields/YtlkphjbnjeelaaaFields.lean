/-
  The walk of the statement on fields.
-/
import Derived.Test.YtlkphjbnjeelaaaAlive
namespace Go.Proofs.Ytlkphjbnjeelaaa
open Go.RowKit

theorem cell_up {W w2 : World} {b o : Nat} {v : Value} (hb : Below W.heap.size W w2) (h : W.cell? ⟨b, o, none⟩ = some v) (hlt : b < W.heap.size) : w2.cell? ⟨b, o, none⟩ = some v :=
  (hb.cell (p := ⟨b, o, none⟩) hlt).trans h

/-- A call that answers a number and a bool, and leaves all that was there as it was. -/
def Ans (f : Nat) (args : Array Value) (a : Int) (ok : Bool) : Prop :=
  ∀ W : World, Calls Try.prog f args W fun e w' => e = .returned (.tuple #[.int .u64 a, .bool ok]) ∧ Below W.heap.size W w'

set_option maxRecDepth 100000 in
set_option maxHeartbeats 2000000 in
theorem fields_walk (x v s n a c : Int) (ok has : Bool) (w : World)
    (g1 : Ans 8 #[.int .u64 x, .agg #[.int .i64 s, .int .i64 n]] a ok) (g2 : Ans 9 #[.int .u64 x, .agg #[.int .i64 s, .int .i64 n]] a ok)
    (g3 : Ans 10 #[.int .u64 x, .agg #[.int .i64 s, .int .i64 n], .int .u64 v] c has) (g4 : Ans 11 #[.int .u64 x, .agg #[.int .i64 s, .int .i64 n], .int .u64 v] c has) :
    Calls Try.prog 3 #[.int .u64 x, .int .u64 v, .agg #[.int .i64 s, .int .i64 n]] w fun e w' => e = .returned (.bool true) ∧ Below w.heap.size w w' := by
  have G1 := Lib.hid g1
  have G2 := Lib.hid g2
  have G3 := Lib.hid g3
  have G4 := Lib.hid g4
  clear g1 g2 g3 g4
  go_enter Try.func3, Try.ntmps3
  go_wp2_with fail
  refine (alive_any _).mono ?_
  rintro e w1 ⟨rfl, hb1⟩
  have z1 : w.heap.size < w1.heap.size := by have := hb1.size; simp at this; omega
  have c0 := cell_up hb1 (b := w.heap.size) (o := 0) (v := .int .i64 s) (by simp [go_sem]) (by simp)
  have c1 := cell_up hb1 (b := w.heap.size) (o := 1) (v := .int .i64 n) (by simp [go_sem]) (by simp)
  go_wp2_with fail
  refine (G1.out _).mono ?_
  rintro e w2 ⟨rfl, hb2⟩
  have z2 : w1.heap.size < w2.heap.size := by have := hb2.size; simp at this; omega
  have d0 := cell_up hb2 (b := w.heap.size) (o := 0) (v := .int .i64 s) (by simp [go_sem, c0, z1]) (by simp; omega)
  have d1 := cell_up hb2 (b := w.heap.size) (o := 1) (v := .int .i64 n) (by simp [go_sem, c1, z1]) (by simp; omega)
  have d2 := cell_up hb2 (b := w1.heap.size) (o := 0) (v := .int .i64 s) (by simp [go_sem]) (by simp)
  have d3 := cell_up hb2 (b := w1.heap.size) (o := 1) (v := .int .i64 n) (by simp [go_sem]) (by simp)
  have B2 := up_trans (up_alloc (up_trans (up_alloc (Below.refl _ w) _) hb1) _) hb2
  clear hb1 hb2 c0 c1
  go_wp2_with fail
  refine (G2.out _).mono ?_
  rintro e w3 ⟨rfl, hb3⟩
  have z3 := hb3.size
  have e0 := cell_up hb3 d0 (by omega)
  have e1 := cell_up hb3 d1 (by omega)
  have e2 := cell_up hb3 d2 (by omega)
  have e3 := cell_up hb3 d3 (by omega)
  have B3 := up_trans B2 hb3
  clear d0 d1 d2 d3 hb3 B2
  go_wp2_with fail
  refine (G3.out _).mono ?_
  rintro e w4 ⟨rfl, hb4⟩
  have z4 := hb4.size
  have f0 := cell_up hb4 e0 (by omega)
  have f1 := cell_up hb4 e1 (by omega)
  have f2 := cell_up hb4 e2 (by omega)
  have f3 := cell_up hb4 e3 (by omega)
  have B4 := up_trans B3 hb4
  clear e0 e1 e2 e3 hb4 B3
  go_wp2_with fail
  refine (G4.out _).mono ?_
  rintro e w5 ⟨rfl, hb5⟩
  have z5 := hb5.size
  have k0 := cell_up hb5 f0 (by omega)
  have k1 := cell_up hb5 f1 (by omega)
  have k2 := cell_up hb5 f2 (by omega)
  have k3 := cell_up hb5 f3 (by omega)
  have B5 := up_trans B4 hb5
  clear f0 f1 f2 f3 hb5 B4
  have y0 : w.heap.size < w5.heap.size := by omega
  have y1 : w1.heap.size < w5.heap.size := by omega
  clear z1 z2 z3 z4 z5
  go_wp2_with fail
  go_region_held3 (fun w' => w'.cell? ⟨w.heap.size, 0, none⟩ = some (.int .i64 s) ∧ w'.cell? ⟨w.heap.size, 1, none⟩ = some (.int .i64 n) ∧ w'.cell? ⟨w1.heap.size, 0, none⟩ = some (.int .i64 s) ∧ w'.cell? ⟨w1.heap.size, 1, none⟩ = some (.int .i64 n))
    (simp [go_sem, k0, k1, k2, k3, y0, y1, Nat.lt_succ_of_lt y0, Nat.lt_succ_of_lt y1])
    (first | (go_at_call 12; refine (right_any _ _ _).mono ?_; rintro e w' ⟨rfl, rfl⟩) | (go_at_call 13; refine (rright_any _ _ _).mono ?_; rintro e w' ⟨rfl, rfl⟩))
  all_goals (go_wp2; go_ret; exact ⟨rfl, (up_alloc (up_alloc B5 _) _).drew⟩)

theorem fields_any (x v : BitVec 64) (s n : Int) (w : World) :
    Calls Try.prog 3 #[.int .u64 (u x), .int .u64 (u v), .agg #[.int .i64 s, .int .i64 n]] w fun e w' => e = .returned (.bool true) ∧ Below w.heap.size w w' := by
  by_cases hr : rightB s n = true
  · obtain ⟨h0, h1, h2, h3⟩ := rightB_iff.1 hr
    obtain ⟨S, rfl⟩ := Int.eq_ofNat_of_zero_le h2
    obtain ⟨N, rfl⟩ := Int.eq_ofNat_of_zero_le (by omega : 0 ≤ n)
    by_cases hv : fits v N = true
    · exact fields_walk (u x) (u v) S N (u (getW x S N)) (u (putW x S N v)) true true w (fun W => get_yes x S N W hr) (fun W => rget_yes x S N W (by omega) (by omega)) (fun W => put_yes x v S N W hr hv) (fun W => rput_yes x v S N W (by omega) (by omega) hv)
    · have hv' : fits v N = false := by simpa using hv
      exact fields_walk (u x) (u v) S N (u (getW x S N)) 0 true false w (fun W => get_yes x S N W hr) (fun W => rget_yes x S N W (by omega) (by omega)) (fun W => put_wide x v S N W hr hv') (fun W => rput_wide x v S N W hr hv')
  · have hr' : rightB s n = false := by simpa using hr
    exact fields_walk (u x) (u v) s n 0 0 false false w (fun W => get_no x s n W hr') (fun W => rget_no x s n W hr') (fun W => put_no x v s n W hr') (fun W => rput_no x v s n W hr')

end Go.Proofs.Ytlkphjbnjeelaaa
