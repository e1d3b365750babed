/-
  What the statements' first calls do: contracts that the claimed proofs use.
-/
import Derived.Test.YtjjilnklcjgndaaTold
import Derived.Test.YtjjilnklcjgndaaNew
namespace Go.Proofs.Ytjjilnklcjgndaa
open Go.RowKit

/-- One list has these items, the others none. -/
def st (l : List Nat) : Nat → List Nat := fun j => if j = 0 then l else []
theorem st_nil : (fun _ => []) = st [] := by funext j; unfold st; split <;> rfl
theorem st_up (l l' : List Nat) : up (st l) 0 l' = st l' := by funext j; unfold up st; split <;> rfl
theorem st_no {l : List Nat} {x : Nat} (h : x ∉ l) (j : Nat) : x ∉ st l j := by unfold st; split <;> simp [h]
theorem st_push {l : List Nat} {x : Nat} (h : x ∉ l) (hx : x < 8) : PutR 8 2 (st l) 0 (x : Int) true 0 (st (x :: l)) := .inr (.inr ⟨0, x, rfl, rfl, by omega, hx, st_no h, rfl, (st_up _ _).symm⟩)
theorem st_app {l : List Nat} {x : Nat} (h : x ∉ l) (hx : x < 8) : PutR 8 2 (st l) 0 (x : Int) false 0 (st (l ++ [x])) := .inr (.inr ⟨0, x, rfl, rfl, by omega, hx, st_no h, rfl, (st_up _ _).symm⟩)
theorem no_of {L : Nat → List Nat} {x : Nat} (h : ∀ i, x ∉ L i) : ∀ X i : Nat, (x : Int) = (X : Int) → X ∉ L i := fun X i e => by
  obtain rfl : x = X := by omega
  exact h i
theorem IA.far {N g lo hi : Nat} {w w' : World} {xs : List Nat} (h : IA N w (some ⟨g, 0, none⟩) xs) (hc : Chg lo hi w w') (hg : hi ≤ g) (hN : N ≤ w.heap.size) : IA N w' (some ⟨g, 0, none⟩) xs := fun hp => by
  obtain ⟨b, o, e, hb, hcl⟩ := h hp
  cases e
  exact ⟨g, 0, rfl, hb, fun j hj => (cell_same (hc.block g (by omega) (.inr hg))).trans (hcl j hj)⟩
theorem lit_three (w : World) : IA (w.alloc (.cells #[.int .i64 5, .int .i64 3, .int .i64 1] 3)).heap.size (w.alloc (.cells #[.int .i64 5, .int .i64 3, .int .i64 1] 3)) (some ⟨w.heap.size, 0, none⟩) [5, 3, 1] := fun _ =>
  ⟨w.heap.size, 0, rfl, by simp, fun j hj => by
    have hb : Blk (w.alloc (.cells #[.int .i64 5, .int .i64 3, .int .i64 1] 3)) w.heap.size [.int .i64 5, .int .i64 3, .int .i64 1] 3 := heap_alloc_new w _
    rw [Nat.zero_add, hb.cell]
    match j, hj with
    | 0, _ => rfl
    | 1, _ => rfl
    | 2, _ => rfl⟩
set_option maxRecDepth 100000 in
set_option maxHeartbeats 4000000 in
theorem alive_any (w : World) : Calls Try.prog 6 #[] w fun e w' => e = .returned (.bool true) ∧ Below w.heap.size w w' := by
  go_enter Try.func6, Try.ntmps6
  go_wp2_with fail
  refine (new_yes 8 2 (by omega) (by omega) (by omega) w).mono ?_
  rintro e w1 ⟨p, rfl, hn, hm, hlo, r1, b1⟩
  rw [st_nil] at r1
  have HN := Lib.hid hn
  have HM := Lib.hid hm
  have HLO : Hid (w.heap.size ≤ p.lo) := Nat.le_of_eq hlo.symm
  have R1 := Lib.hid r1
  have B1 := Lib.hid b1
  clear hn hm hlo r1 b1
  go_wp2_with fail
  refine (push_r R1.out (show PutR p.n p.m (st []) 0 3 true 0 (st [3]) by rw [HN.out, HM.out]; exact st_push (x := 3) (by simp) (by omega))).mono ?_
  rintro e w2 ⟨rfl, r2, c2⟩
  have R2 := Lib.hid r2
  have B2 := Lib.hid (c2.on B1.out HLO.out (Nat.le_refl _))
  clear r2 c2 R1 B1
  go_wp2_with fail
  refine (push_r R2.out (show PutR p.n p.m (st [3]) 0 5 true 0 (st [5, 3]) by rw [HN.out, HM.out]; exact st_push (x := 5) (by simp) (by omega))).mono ?_
  rintro e w3 ⟨rfl, r3, c3⟩
  have R3 := Lib.hid r3
  have B3 := Lib.hid (c3.on B2.out HLO.out (Nat.le_refl _))
  clear r3 c3 R2 B2
  go_wp2_with fail
  refine (append_r R3.out (show PutR p.n p.m (st [5, 3]) 0 1 false 0 (st [5, 3, 1]) by rw [HN.out, HM.out]; exact st_app (x := 1) (by simp) (by omega))).mono ?_
  rintro e w4 ⟨rfl, r4, c4⟩
  have R4 := Lib.hid r4
  have B4 := Lib.hid (c4.on B3.out HLO.out (Nat.le_refl _))
  clear r4 c4 R3 B3
  go_wp2_with fail
  refine (append_r R4.out (show PutR p.n p.m (st [5, 3, 1]) 1 5 false 15 (st [5, 3, 1]) by rw [HN.out, HM.out]; exact .inr (.inl ⟨1, 5, rfl, rfl, by omega, by omega, ⟨0, by simp [st]⟩, rfl, rfl⟩))).mono ?_
  rintro e w5 ⟨rfl, r5, c5⟩
  have R5 := Lib.hid r5
  have B5 := Lib.hid (c5.on B4.out HLO.out (Nat.le_refl _))
  clear r5 c5 R4 B4
  go_wp2_with fail
  refine (all_r (i := 0) R5.out).mono ?_
  rintro e w6 ⟨gl, cap, rfl, hgl, ia6, b6⟩
  have R6 := Lib.hid (R5.out.below b6)
  have B6 := Lib.hid (up_trans B5.out b6)
  have HGL : Hid (p.hi ≤ gl) := Nat.le_trans R5.out.sz hgl
  have IA6 : Hid (IA w6.heap.size w6 (some ⟨gl, 0, none⟩) [5, 3, 1]) := ia6
  have hlen : (of (st [5, 3, 1]) 0).length = 3 := rfl
  rw [hlen]
  clear b6 hgl ia6 R5 B5 hlen
  go_wp2_with fail
  refine (pop_some (i := 0) (X := 5) (r := [3, 1]) R6.out rfl).mono ?_
  rintro e w7 ⟨rfl, r7, c7⟩
  rw [st_up] at r7
  have R7 := Lib.hid r7
  have B7 := Lib.hid (c7.on B6.out HLO.out (Nat.le_refl _))
  have IA7 := Lib.hid ((IA6.out.far c7 HGL.out (Nat.le_refl _)).more c7.size)
  clear r7 c7 R6 B6 IA6
  go_wp2_with fail
  have hal : Below w7.heap.size w7 (w7.alloc (.cells #[.int .i64 5, .int .i64 3, .int .i64 1] 3)) := up_alloc (Below.refl _ _) _
  have R8 := Lib.hid (R7.out.below hal)
  have B8 := Lib.hid (up_trans B7.out hal)
  have HS := Lib.hid (same_any (some ⟨gl, 0, none⟩) (some ⟨w7.heap.size, 0, none⟩) [5, 3, 1] [5, 3, 1] cap 3 w7.heap.size _ (w7.alloc (.cells #[.int .i64 5, .int .i64 3, .int .i64 1] 3)) (IA7.out.below hal) (lit_three w7) (by simp))
  clear hal IA7
  refine HS.out.mono ?_
  rintro e w8 ⟨he, d8⟩
  have he2 : decide (([5, 3, 1] : List Nat) = [5, 3, 1]) = true := by decide
  rw [he2] at he
  subst he
  have R9 := Lib.hid (R8.out.below d8.below)
  have B9 := Lib.hid (up_trans B8.out d8.below)
  clear he2 d8 R7 B7 R8 B8 HS
  go_wp2_with fail
  refine (next_r R9.out (x := 3) (r := 1) (.inl ⟨3, 0, [], [1], rfl, rfl, rfl⟩)).mono ?_
  rintro e w' ⟨rfl, rfl⟩
  go_wp2_with fail
  refine (in_r R9.out (x := 1) (v := 0) (.inl ⟨1, 0, rfl, by simp [st], rfl⟩)).mono ?_
  rintro e w' ⟨rfl, rfl⟩
  go_wp2_with fail
  refine (in_r R9.out (x := 5) (v := -1) (.inr ⟨no_of (x := 5) (fun i => st_no (by simp) i), rfl⟩)).mono ?_
  rintro e w' ⟨rfl, rfl⟩
  go_wp2_with fail
  refine (show Calls Try.prog 16 #[.pointer (some ⟨p.q, 0, none⟩), .int .i64 0] w8 (fun e w' => e = .returned (.int .i64 2) ∧ w8 = w') from len_r (i := 0) R9.out).mono ?_
  rintro e w' ⟨rfl, rfl⟩
  go_wp2_with fail
  refine (show Calls Try.prog 15 #[.pointer (some ⟨p.q, 0, none⟩), .int .i64 0] w8 (fun e w' => e = .returned (.int .i64 3) ∧ w8 = w') from first_r (i := 0) R9.out).mono ?_
  rintro e w' ⟨rfl, rfl⟩
  go_wp2_with fail
  refine (show Calls Try.prog 15 #[.pointer (some ⟨p.q, 0, none⟩), .int .i64 1] w8 (fun e w' => e = .returned (.int .i64 (-1)) ∧ w8 = w') from first_r (i := 1) R9.out).mono ?_
  rintro e w' ⟨rfl, rfl⟩
  go_wp2_with fail
  refine (remove_r R9.out (x := 5) (E := 16) (L' := st [3, 1]) (.inr (.inl ⟨5, rfl, by rw [HN.out]; omega, st_no (by simp), rfl, rfl⟩))).mono ?_
  rintro e w10 ⟨rfl, _, c10⟩
  have B10 := Lib.hid (c10.on B9.out HLO.out (Nat.le_refl _))
  clear c10
  go_wp2
  go_ret
  exact ⟨rfl, B10.out⟩
theorem great_any (n m : Int) (A : Option Addr) (L c : Nat) (w : World) :
    Calls Try.prog 7 #[.int .i64 n, .int .i64 m, .slice A L c] w fun e w' => e = .returned (.bool (decide (100 < n ∨ 20 < m ∨ 200 < L))) ∧ w = w' := by
  by_cases h1 : 100 < n
  · have d1 : decide (100 < n) = true := by simpa using h1
    have e : decide (100 < n ∨ 20 < m ∨ 200 < L) = true := by simp [h1]
    rw [e]
    go_enter Try.func7, Try.ntmps7
    go_wp2
    go_ret
    exact ⟨rfl, rfl⟩
  · have d1 : decide (100 < n) = false := by simpa using h1
    by_cases h2 : 20 < m
    · have d2 : decide (20 < m) = true := by simpa using h2
      have e : decide (100 < n ∨ 20 < m ∨ 200 < L) = true := by simp [h2]
      rw [e]
      go_enter Try.func7, Try.ntmps7
      go_wp2
      go_ret
      exact ⟨rfl, rfl⟩
    · have d2 : decide (20 < m) = false := by simpa using h2
      have e : decide (100 < n ∨ 20 < m ∨ 200 < L) = decide ((200 : Int) < (L : Int)) := by rw [decide_eq_decide]; omega
      rw [e]
      go_enter Try.func7, Try.ntmps7
      go_wp2
      go_ret
      exact ⟨rfl, rfl⟩
end Go.Proofs.Ytjjilnklcjgndaa
