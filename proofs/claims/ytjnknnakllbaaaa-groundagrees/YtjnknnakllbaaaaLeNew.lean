/-
  How a book is made, and copied: contracts that the claimed proofs use.
-/
import Derived.Test.YtjnknnakllbaaaaLeOps
import Derived.Laws.Externs
namespace Go.Proofs.Ytjnknnakllbaaaa.Le
set_option maxRecDepth 100000
open Go.RowKit Go.Maps

section
variable {w : World} {q b : Nat} {C p : Int} {f : Row} {S : List Row}
theorem new_no (C : Int) (w : World) (h : ¬ (0 ≤ C ∧ C ≤ 1099511627776)) : Calls Try.prog 27 #[.int .i64 C] w fun e w' => e = .returned (.tuple #[.pointer none, .int .i64 11]) ∧ w = w' := by
  by_cases h0 : C < 0
  · have d0 : decide (C < 0) = true := by simpa using h0
    go_enter Try.func27, Try.ntmps27
    go_wp2
    go_ret2
    exact ⟨rfl, rfl⟩
  · have d0 : decide (C < 0) = false := by simpa using h0
    have d1 : decide (1099511627776 < C) = true := by simp; omega
    clear h
    go_enter Try.func27, Try.ntmps27
    go_wp2
    go_ret2
    exact ⟨rfl, rfl⟩
theorem new_yes (C : Int) (w : World) (h0 : 0 ≤ C) (h1 : C ≤ 1099511627776) :
    Calls Try.prog 27 #[.int .i64 C] w fun e w' => ∃ q b, e = .returned (.tuple #[.pointer (some ⟨q, 0, none⟩), .int .i64 0]) ∧ Led w' q b C [z8] ∧ w.heap.size ≤ q ∧ w.heap.size ≤ b ∧ Below w.heap.size w w' := by
  have d0 : decide (C < 0) = false := by simpa using h0
  have d1 : decide (1099511627776 < C) = false := by simpa using h1
  have hmm := @run_makeMap Try.prog
  have hB := up_alloc (up_alloc (Below.refl _ w) (.map #[] 0)) (.cells #[.int .i64 C, .int .i64 0, .int .i64 0, .int .i64 0, .int .i64 0, .int .i64 0, .int .i64 0, .int .i64 0, .int .i64 0, .int .i64 0, .map (some w.heap.size)] 90)
  have hK : Blk ((w.alloc (.map #[] 0)).alloc (.cells #[.int .i64 C, .int .i64 0, .int .i64 0, .int .i64 0, .int .i64 0, .int .i64 0, .int .i64 0, .int .i64 0, .int .i64 0, .int .i64 0, .map (some w.heap.size)] 90)) (w.heap.size + 1) (lc C z8 0 w.heap.size) 90 := by
    have := heap_alloc_last (w.alloc (.map #[] 0)) (.cells #[.int .i64 C, .int .i64 0, .int .i64 0, .int .i64 0, .int .i64 0, .int .i64 0, .int .i64 0, .int .i64 0, .int .i64 0, .int .i64 0, .map (some w.heap.size)] 90)
    have e : (w.alloc (.map #[] 0)).heap.size = w.heap.size + 1 := by simp
    rw [e] at this
    exact this
  have hM : Mp ((w.alloc (.map #[] 0)).alloc (.cells #[.int .i64 C, .int .i64 0, .int .i64 0, .int .i64 0, .int .i64 0, .int .i64 0, .int .i64 0, .int .i64 0, .int .i64 0, .int .i64 0, .map (some w.heap.size)] 90)) w.heap.size [] :=
    (Mp.made w).of (Below.heap_alloc _ _ _ (by simp))
  have HB := Lib.hid hB
  have HK := Lib.hid hK
  have HM := Lib.hid hM
  clear hB hK hM
  go_enter Try.func27, Try.ntmps27
  go_wp2_with fail
  generalize (w.alloc (.map #[] 0)).alloc (.cells #[.int .i64 C, .int .i64 0, .int .i64 0, .int .i64 0, .int .i64 0, .int .i64 0, .int .i64 0, .int .i64 0, .int .i64 0, .int .i64 0, .map (some w.heap.size)] 90) = W at HB HK HM ⊢
  go_wp2_with (go_at_call 47; refine (note_led (S := []) HK.out HM.out (z8_gd h0) h1 (by simp)).mono ?_; rintro e w4 ⟨rfl, l4, f4⟩)
  go_ret2
  exact ⟨_, _, rfl, l4, by omega, Nat.le_refl _, HB.out.trans (f4.below (by omega) (Nat.le_refl _) HB.out.size)⟩
theorem equal_map (d : Nat) (w : World) (b : Nat) : (Op.equalIn (d + 1) 88 (.map (some b)) (.map none)).run Try.prog w = .ok false w := by
  simp [Op.equalIn, run_underlying Try.underlying88]
theorem eql_map (w : World) (b : Nat) : (binOp .eql 88 (.map (some b)) (.map none)).run Try.prog w = .ok (.bool false) w := by
  simp only [binOp]
  simp [show Op.equal 88 (.map (some b)) (.map none) = Op.equalIn (9999 + 1) 88 (.map (some b)) (.map none) from rfl, equal_map 9999 w b]
theorem clone_run (w : World) {b clock : Nat} {es : Array MapEntry} (hb : w.heap[b]? = some (.map es clock)) :
    (Extern.MapsClone.clone #[.iface 88 (.map (some b))]).run Try.prog w = .ok (.iface 88 (.map (some w.heap.size))) (w.alloc (.map es clock)) := by
  have e1 : ∀ (t : TypeId) (r : Nat), ∃ k : Obj → Sem Value, Extern.MapsClone.clone #[.iface t (.map (some r))] = (getObj r >>= k) ∧ ∀ es c, k (.map es c) = (newObj (.map es c) >>= fun n => pure (.iface t (.map (some n)))) := fun t r => ⟨_, rfl, fun _ _ => rfl⟩
  obtain ⟨k, e, hk⟩ := e1 88 b
  rw [e]
  simp [MapKept.run_getObj_map hb, hk, Result.andThen, go_sem]
theorem assert_map (w : World) (v : Value) : (Instr.typeAssert (.iface 88 v) 20 88 false).run Try.prog w = .ok v w := by
  simp [Instr.typeAssert, run_underlying Try.underlying88, go_sem, Result.andThen]
end
end Go.Proofs.Ytjnknnakllbaaaa.Le
