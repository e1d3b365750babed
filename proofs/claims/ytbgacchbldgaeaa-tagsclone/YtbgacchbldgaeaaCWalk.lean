/-
  The walk of the statement on clones and iterators: too many calls.
-/
import Derived.Test.YtbgacchbldgaeaaCEnv
import Derived.Test.YtbgacchbldgaeaaAlive
namespace Go.Proofs.Ytbgacchbldgaeaa.Cl
open Go.RowKit Go.Maps Go.Shelf

attribute [local go_sem] Oper.semAt_some

theorem f6_results : Try.f6.results = #[.cell 4 4] := by kernel_rfl
theorem results_bool {tmps : Array Value} {B : Nat} {z : Bool} {w : World} (ht : tmps.getD 4 undef = .pointer (some ⟨B, 0, none⟩)) (hc : w.cell? ⟨B, 0, none⟩ = some (.bool z)) :
    (results Try.f6 tmps).run Try.prog w = .ok (.bool z) w := by
  have ht' : tmps[4]?.getD undef = .pointer (some ⟨B, 0, none⟩) := by simpa using ht
  simp only [results, f6_results]
  simp [Sem.run_bind, Result.andThen]
  go_simp
theorem B0.set {w W : World} {v2 : Value} (h : B0 w W v2) (z : Bool) : (W.setCell ⟨w.heap.size + 1, 0, none⟩ (.bool z)).cell? ⟨w.heap.size + 1, 0, none⟩ = some (.bool z) ∧ Below w.heap.size w (W.setCell ⟨w.heap.size + 1, 0, none⟩ (.bool z)) :=
  ⟨(h.rs.set (i := 0) (.bool z)).cell, grown_new h.bel (grown_set W (w.heap.size + 1) 0 (.bool z)) (by omega)⟩
set_option maxRecDepth 100000 in
set_option maxHeartbeats 8000000 in
theorem great (A A2 : Option Addr) (N N2 : Nat) (c c2 : Nat) (w : World) (h : 100 < N ∨ 100 < N2) :
    Calls Try.prog 6 #[.slice A N c, .slice A2 N2 c2] w fun e w' => e = .returned (.bool true) ∧ Below w.heap.size w w' := by
  have HX1 := Lib.hid (B0.made w (.slice A2 N2 c2))
  obtain ⟨w1, hw1⟩ : ∃ w1, (w.alloc (.cells #[.slice A2 N2 c2] 22)).alloc (.cells #[.bool false] 4) = w1 := ⟨_, rfl⟩
  rw [hw1] at HX1
  by_cases hN : 100 < N
  · have hd : decide ((100 : Int) < (N : Int)) = true := by simp; omega
    clear h
    go_enter Try.func6, Try.ntmps6
    go_wp2_with fail
    clear hw1
    refine (alive_any _).mono ?_
    rintro e w2 ⟨rfl, b2⟩
    have HX2 := Lib.hid (HX1.out.below b2)
    have q1 := HX2.out.mo.cell (i := 0)
    have f1 := HX2.out.rs.frozen 0
    have q2 := HX2.out.rs.cell (i := 0)
    simp only [List.getElem?_cons_zero] at q1 q2
    clear b2
    go_wp2_with fail
    refine bodyPost_ret (results_bool rfl (HX2.out.set true).1) rfl ?_
    exact ⟨rfl, (HX2.out.set true).2⟩
  · have hd : decide ((100 : Int) < (N : Int)) = false := by simp; omega
    have hd2 : decide ((100 : Int) < (N2 : Int)) = true := by simp; omega
    clear h
    go_enter Try.func6, Try.ntmps6
    go_wp2_with fail
    clear hw1
    refine (alive_any _).mono ?_
    rintro e w2 ⟨rfl, b2⟩
    have HX2 := Lib.hid (HX1.out.below b2)
    have q1 := HX2.out.mo.cell (i := 0)
    have f1 := HX2.out.rs.frozen 0
    have q2 := HX2.out.rs.cell (i := 0)
    simp only [List.getElem?_cons_zero] at q1 q2
    clear b2
    go_wp2_with fail
    refine bodyPost_ret (results_bool rfl (HX2.out.set true).1) rfl ?_
    exact ⟨rfl, (HX2.out.set true).2⟩
end Go.Proofs.Ytbgacchbldgaeaa.Cl
