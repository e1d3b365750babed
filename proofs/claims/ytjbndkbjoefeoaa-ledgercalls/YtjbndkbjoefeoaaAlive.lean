/-
  A call on a book, and every law's first call: contracts that the claimed proofs use.
-/
import Derived.Test.YtjbndkbjoefeoaaNew
namespace Go.Proofs.Ytjbndkbjoefeoaa
open Go.RowKit Go.Maps

section
variable {w : World} {q b : Nat} {C p : Int} {f : Row} {S : List Row}
theorem do_any (x k t n : Int) (h : Led w q b C S) (hw : Wf C S) (hS : S.length ≤ 1000) :
    Calls Try.prog 9 #[.pointer (some ⟨q, 0, none⟩), .agg #[.int .i64 x, .int .i64 k, .int .i64 t, .int .i64 n]] w fun e w' => e = .returned (.int .i64 (opE C (hd S) x k t n)) ∧ Led w' q b C (opS C S x k t n) ∧ Fr q b w w' := by
  have hB := up_alloc (Below.refl _ w) (.cells #[.int .i64 x, .int .i64 k, .int .i64 t, .int .i64 n] 34)
  have HL := Lib.hid (h.below hB)
  have HF := Lib.hid (Fr.of (q := q) (g := b) hB)
  have HW := Lib.hid hw
  clear h hB hw
  by_cases h0 : x = 0
  · subst h0
    have e1 : opE C (hd S) 0 k t n = resE C (hd S) k n := rfl
    have e2 : opS C S 0 k t n = nxt (resE C (hd S) k n) (resF (hd S) k n) S := rfl
    rw [e1, e2]
    clear e1 e2
    go_enter Try.func9, Try.ntmps9
    go_wp2_with (go_at_call 22; refine (res_any k n HL.out HW.out hS).mono ?_; rintro e w4 ⟨rfl, l4, f4⟩)
    go_ret
    exact ⟨rfl, l4, HF.out.trans f4 (.inl rfl)⟩
  · have d0 : (x == 0) = false := by simpa using h0
    by_cases h1 : x = 1
    · subst h1
      have e1 : opE C (hd S) 1 k t n = relE (hd S) k n := rfl
      have e2 : opS C S 1 k t n = nxt (relE (hd S) k n) (relF (hd S) k n) S := rfl
      rw [e1, e2]
      clear e1 e2
      go_enter Try.func9, Try.ntmps9
      go_wp2_with (go_at_call 23; refine (rel_any k n HL.out HW.out hS).mono ?_; rintro e w4 ⟨rfl, l4, f4⟩)
      go_ret
      exact ⟨rfl, l4, HF.out.trans f4 (.inl rfl)⟩
    · have d1 : (x == 1) = false := by simpa using h1
      have e1 : opE C (hd S) x k t n = shE (hd S) k t n := by unfold opE; rw [if_neg h0, if_neg h1]
      have e2 : opS C S x k t n = nxt (shE (hd S) k t n) (shF (hd S) k t n) S := by unfold opS opE opF; rw [if_neg h0, if_neg h1, if_neg h0, if_neg h1]
      rw [e1, e2]
      clear e1 e2
      go_enter Try.func9, Try.ntmps9
      go_wp2_with (go_at_call 24; refine (sh_any k t n HL.out HW.out hS).mono ?_; rintro e w4 ⟨rfl, l4, f4⟩)
      go_ret
      exact ⟨rfl, l4, HF.out.trans f4 (.inl rfl)⟩
end

/-! ### The first call -/
def A0 : List Row := [z8]
def A1 : List Row := resF z8 1 7 :: A0
def A2 : List Row := shF (resF z8 1 7) 1 2 3 :: A1
def A3 : List Row := relF (shF (resF z8 1 7) 1 2 3) 1 4 :: A2
def r3 : Row := fun j => if j = 2 then 3 else 0
theorem a1 : resE 10 (hd A0) 1 7 = 0 ∧ nxt 0 (resF (hd A0) 1 7) A0 = A1 := ⟨by decide +kernel, rfl⟩
theorem a2 : shE (hd A1) 1 2 3 = 0 ∧ nxt 0 (shF (hd A1) 1 2 3) A1 = A2 := ⟨by decide +kernel, rfl⟩
theorem a3 : resE 10 (hd A2) 0 4 = 18 ∧ nxt 18 (resF (hd A2) 0 4) A2 = A2 := ⟨by decide +kernel, rfl⟩
theorem a4 : relE (hd A2) 2 4 = 16 ∧ nxt 16 (relF (hd A2) 2 4) A2 = A2 := ⟨by decide +kernel, rfl⟩
theorem a5 : relE (hd A2) 1 4 = 0 ∧ nxt 0 (relF (hd A2) 1 4) A2 = A3 := ⟨by decide +kernel, rfl⟩
theorem a6 : heldOf (hd A3) 2 = 3 ∧ tot (hd A3) = 3 ∧ 10 - tot (hd A3) = 7 ∧ pk A3 = 7 ∧ eqB (hd A3) r3 = true ∧ cn A3 z8 = 1 ∧ cn A3 r3 = 1 := by decide +kernel
theorem w0 : Wf 10 A0 := new_wf (by omega) (by omega)
theorem w1 : Wf 10 A1 := by have := nxt_wf w0 (g := resF (hd A0) 1 7) (fun h : resE 10 (hd A0) 1 7 = 0 => res_gd w0.hd h); rwa [a1.1, a1.2] at this
theorem w2 : Wf 10 A2 := by have := nxt_wf w1 (g := shF (hd A1) 1 2 3) (fun h : shE (hd A1) 1 2 3 = 0 => sh_gd w1.hd h); rwa [a2.1, a2.2] at this
theorem w3 : Wf 10 A3 := by have := nxt_wf w2 (g := relF (hd A2) 1 4) (fun h : relE (hd A2) 1 4 = 0 => (rel_gd w2.hd h).1); rwa [a5.1, a5.2] at this
theorem ok_r3 : okR r3 := fun i _ => by unfold r3; split <;> rfl
theorem ok_z8 : okR z8 := fun _ _ => rfl
theorem alive_any (w : World) : Calls Try.prog 6 #[] w fun e w' => e = .returned (.bool true) ∧ Below w.heap.size w w' := by
  go_enter Try.func6, Try.ntmps6
  go_wp2_with fail
  refine (new_yes 10 w (by omega) (by omega)).mono ?_
  rintro e w1' ⟨q, b, rfl, l1, hq, hb, b1⟩
  have L1 : Hid (Led w1' q b 10 A0) := l1
  have B1 := Lib.hid b1
  clear l1 b1
  go_wp2_with fail
  refine (res_any 1 7 L1.out w0 (by decide)).mono ?_
  rw [a1.1, a1.2]
  rintro e w2' ⟨rfl, l2, f2⟩
  have L2 := Lib.hid l2
  have B2 := Lib.hid (B1.out.trans (f2.below hq hb B1.out.size))
  clear l2 f2 L1 B1
  go_wp2_with fail
  refine (sh_any 1 2 3 L2.out w1 (by decide)).mono ?_
  rw [a2.1, a2.2]
  rintro e w3' ⟨rfl, l3, f3⟩
  have L3 := Lib.hid l3
  have B3 := Lib.hid (B2.out.trans (f3.below hq hb B2.out.size))
  clear l3 f3 L2 B2
  go_wp2_with fail
  refine (res_any 0 4 L3.out w2 (by decide)).mono ?_
  rw [a3.1, a3.2]
  rintro e w4' ⟨rfl, l4, f4⟩
  have L4 := Lib.hid l4
  have B4 := Lib.hid (B3.out.trans (f4.below hq hb B3.out.size))
  clear l4 f4 L3 B3
  go_wp2_with fail
  refine (rel_any 2 4 L4.out w2 (by decide)).mono ?_
  rw [a4.1, a4.2]
  rintro e w5' ⟨rfl, l5, f5⟩
  have L5 := Lib.hid l5
  have B5 := Lib.hid (B4.out.trans (f5.below hq hb B4.out.size))
  clear l5 f5 L4 B4
  go_wp2_with fail
  refine (rel_any 1 4 L5.out w2 (by decide)).mono ?_
  rw [a5.1, a5.2]
  rintro e w6' ⟨rfl, l6, f6⟩
  have L6 := Lib.hid l6
  have B6 := Lib.hid (B5.out.trans (f6.below hq hb B5.out.size))
  clear l6 f6 L5 B5
  have hre : ∀ W : World, (binOp .eql 24 (rowV (hd A3)) (.agg #[.int .i64 0, .int .i64 0, .int .i64 3, .int .i64 0, .int .i64 0, .int .i64 0, .int .i64 0, .int .i64 0])).run Try.prog W = .ok (.bool true) W := fun W => by
    have := row_eql W (hd A3) r3
    rw [a6.2.2.2.2.1] at this
    exact this
  have hrg : ∀ (W : World) (x y : Operand), (eqGuard .eql 24 x y (rowV (hd A3)) (.agg #[.int .i64 0, .int .i64 0, .int .i64 3, .int .i64 0, .int .i64 0, .int .i64 0, .int .i64 0, .int .i64 0])).run Try.prog W = .ok () W := fun W x y => row_guard .eql W x y (hd A3) r3
  go_wp2_with fail
  refine (held_any 2 L6.out.blk).mono ?_
  rw [a6.1]
  rintro e w7' ⟨rfl, rfl⟩
  go_wp2_with fail
  refine (total_any L6.out.blk w3.hd (by omega)).mono ?_
  rw [a6.2.1]
  rintro e w7' ⟨rfl, rfl⟩
  go_wp2_with fail
  refine (left_any L6.out.blk w3.hd (by omega)).mono ?_
  rw [a6.2.2.1]
  rintro e w7' ⟨rfl, d7⟩
  have L7 := Lib.hid (L6.out.drawn d7)
  have B7 := Lib.hid (up_trans B6.out d7.below)
  clear d7 L6 B6
  go_wp2_with fail
  refine (peak_any L7.out.blk).mono ?_
  rw [a6.2.2.2.1]
  rintro e w8' ⟨rfl, rfl⟩
  go_wp2_with fail
  refine (all_any L7.out.blk).mono ?_
  rintro e w8' ⟨rfl, b8⟩
  have L8 := Lib.hid (L7.out.below b8)
  have B8 := Lib.hid (up_trans B7.out b8)
  clear b8 L7 B7
  go_wp2_with fail
  refine (seen_any (g := z8) L8.out ok_z8).mono ?_
  rw [a6.2.2.2.2.2.1]
  rintro e w9' ⟨rfl, b9⟩
  have L9 := Lib.hid (L8.out.below b9)
  have B9 := Lib.hid (up_trans B8.out b9)
  clear b9 L8 B8
  go_wp2_with fail
  refine (seen_any (g := r3) L9.out ok_r3).mono ?_
  rw [a6.2.2.2.2.2.2]
  rintro e w10 ⟨rfl, b10⟩
  have B10 := Lib.hid (up_trans B9.out b10)
  clear b10 L9 B9
  go_wp2
  go_ret
  exact ⟨rfl, B10.out⟩
end Go.Proofs.Ytjbndkbjoefeoaa
