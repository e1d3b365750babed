/-
  What the references' Remove does: contracts that the claimed proofs use.
-/
import Derived.Test.YtjjilnklcjgndaaAppend
namespace Go.Proofs.Ytjjilnklcjgndaa
open Go.RowKit

theorem IA.take {N : Nat} {w : World} {A : Option Addr} {xs : List Nat} (h : IA N w A xs) (k : Nat) (hk : k ≤ xs.length) : IA N w A (xs.take k) := fun hp => by
  have hp' : 0 < k := by simp at hp; omega
  obtain ⟨b, o, e, hb, hc⟩ := h (by omega)
  refine ⟨b, o, e, hb, fun j hj => ?_⟩
  have hj' : j < k := by simp at hj; omega
  rw [hc j (by omega), List.getD_eq_getElem?_getD, List.getD_eq_getElem?_getD, List.getElem?_take, if_pos hj']
theorem IA.drop {N : Nat} {w : World} {b o : Nat} {xs : List Nat} (h : IA N w (some ⟨b, o, none⟩) xs) (k : Nat) : IA N w (some ⟨b, o + k, none⟩) (xs.drop k) := fun hp => by
  have hp' : k < xs.length := by simp at hp; omega
  obtain ⟨b', o', e, hb, hc⟩ := h (by omega)
  cases e
  refine ⟨b, o + k, rfl, hb, fun j hj => ?_⟩
  have hj' : k + j < xs.length := by simp at hj; omega
  have := hc (k + j) hj'
  rw [← Nat.add_assoc] at this
  rw [this, List.getD_eq_getElem?_getD, List.getD_eq_getElem?_getD, List.getElem?_drop]
theorem IA.empty {N : Nat} {w : World} {A : Option Addr} {xs : List Nat} (h : xs.length = 0) : IA N w A xs := fun hp => by omega
theorem rrem_bad (g n : Nat) (x : Int) (w : World) (c0 : w.cell? ⟨g + 1, 0, none⟩ = some (.int .i64 (n : Int))) (hno : hasB n x = false) :
    Calls Try.prog 27 #[.pointer (some ⟨g + 1, 0, none⟩), .int .i64 x] w fun e w' => e = .returned (.int .i64 11) ∧ w = w' := by
  by_cases h2 : x < 0
  · have d3 : decide (x < 0) = true := by simpa using h2
    go_enter Try.func27, Try.ntmps27
    go_wp2
    go_ret
    exact ⟨rfl, rfl⟩
  · have d3 : decide (x < 0) = false := by simpa using h2
    have d4 : decide ((n : Int) ≤ x) = true := by simp; have := hasB_not.1 hno; omega
    go_enter Try.func27, Try.ntmps27
    go_wp2
    go_ret
    exact ⟨rfl, rfl⟩
theorem rrem_none (g n x : Nat) (w : World) (c0 : w.cell? ⟨g + 1, 0, none⟩ = some (.int .i64 (n : Int))) (hx : x < n)
    (hin : Calls Try.prog 11 #[.pointer (some ⟨g + 1, 0, none⟩), .int .i64 (x : Int)] w fun e w' => e = .returned (.tuple #[.int .i64 (-1), .int .i64 (-1)]) ∧ w = w') :
    Calls Try.prog 27 #[.pointer (some ⟨g + 1, 0, none⟩), .int .i64 (x : Int)] w fun e w' => e = .returned (.int .i64 16) ∧ w = w' := by
  have d3 : decide ((x : Int) < 0) = false := by simp
  have d4 : decide ((n : Int) ≤ (x : Int)) = false := by simp; omega
  have HI := Lib.hid hin
  clear hin
  go_enter Try.func27, Try.ntmps27
  go_wp2_with (go_at_call 11; refine HI.out.mono ?_; rintro e w' ⟨rfl, rfl⟩)
  go_ret
  exact ⟨rfl, rfl⟩
set_option maxHeartbeats 2000000 in
theorem rrem_w (g n m i x N c K b : Nat) (xs : List Nat) (w : World) (c0 : w.cell? ⟨g + 1, 0, none⟩ = some (.int .i64 (n : Int))) (c1 : w.cell? ⟨g + 1, 1, none⟩ = some (.slice (some ⟨g, 0, none⟩) m m)) (hi : i < m) (hx : x < n)
    (hin : Calls Try.prog 11 #[.pointer (some ⟨g + 1, 0, none⟩), .int .i64 (x : Int)] w fun e w' => e = .returned (.tuple #[.int .i64 (i : Int), .int .i64 (K : Int)]) ∧ w = w')
    (hv : w.cell? ⟨g, i, none⟩ = some (.slice (some ⟨b, 0, none⟩) N c)) (hfz : w.frozen? ⟨g, i, none⟩ = false) (hN : xs.length = N) (hc : N ≤ c) (hK : K < N) (hia : IA w.heap.size w (some ⟨b, 0, none⟩) xs) (hl : N ≤ 4096) :
    Calls Try.prog 27 #[.pointer (some ⟨g + 1, 0, none⟩), .int .i64 (x : Int)] w fun e w' => e = .returned (.int .i64 0) ∧
      ∃ g' cap wd M, wd.ownsRow w.heap.size 3 1 (.slice (some ⟨g', 0, none⟩) M cap) M (irow (xs.take K ++ xs.drop (K + 1))) ∧ Below w.heap.size w wd ∧ Drawn (wd.setCell ⟨g, i, none⟩ (.slice (some ⟨g', 0, none⟩) M cap)) w' := by
  have d3 : decide ((x : Int) < 0) = false := by simp
  have d4 : decide ((n : Int) ≤ (x : Int)) = false := by simp; omega
  have b1 : (0 : Int) ≤ (i : Int) := by omega
  have b2 : (i : Int) < (m : Int) := by omega
  have b3 : (0 : Int) ≤ (K : Int) := by omega
  have b4 : (K : Int) ≤ (N : Int) := by omega
  have b5 : (0 : Int) ≤ (K : Int) + 1 := by omega
  have b6 : (K : Int) + 1 ≤ (N : Int) := by omega
  have b7 : ((K : Int) + 1).toNat = K + 1 := by omega
  have b8 := i64_in ((K : Int) + 1) (by omega) (by omega)
  have HI := Lib.hid hin
  have l1 := World.block_lt_of_cell? w _ c1
  have l2 := World.block_lt_of_cell? w _ hv
  have HN := Lib.hid hN
  have hE : Below w.heap.size w (w.alloc (.cells #[] 3)) := up_alloc (Below.refl _ _) _
  have HE := Lib.hid hE
  have HIA := Lib.hid (hia.below hE)
  have e1 := (hE.cell (p := ⟨g + 1, 1, none⟩) l1).trans c1
  have e2 := (hE.cell (p := ⟨g, i, none⟩) l2).trans hv
  have OE := Lib.hid (own_empty w)
  clear hin hN hia hE
  go_enter Try.func27, Try.ntmps27
  go_wp2_with (first
    | (go_at_call 11; refine HI.out.mono ?_; rintro e w' ⟨rfl, rfl⟩)
    | (at_builtin; refine list_app0 (by rfl) _ _ (by rfl) w.heap.size w.heap.size 0 K c w.heap.size (xs.take K) (some ⟨b, 0, none⟩) (by rfl) OE.out (by rfl) (by rw [List.length_take, HN.out]; omega) (by simp) (HIA.out.take K (by rw [HN.out]; omega)) (by omega) (by simp) ?_; intro g1 cap1 w1 O1 B1 _))
  have k1 := (B1.out.cell (p := ⟨g + 1, 1, none⟩) l1).trans e1
  have k2 := (B1.out.cell (p := ⟨g, i, none⟩) l2).trans e2
  have k3 := (B1.out.frozen (p := ⟨g, i, none⟩) l2).trans ((HE.out.frozen (p := ⟨g, i, none⟩) l2).trans hfz)
  have BB := Lib.hid (HE.out.trans B1.out).drew
  have O1d : Hid (w1.drew.ownsRow w.heap.size 3 1 (.slice (some ⟨g1, 0, none⟩) K cap1) K (irow (xs.take K))) := O1.out
  have I1 : Hid (IA w.heap.size w1.drew (some ⟨b, 0, none⟩) xs) := HIA.out.below B1.out.drew
  have SS : Hid (w.heap.size ≤ w1.drew.heap.size) := BB.out.size
  clear e1 e2 c0 c1 hv hfz
  by_cases hcs : c = K + 1
  · subst hcs
    obtain rfl : N = K + 1 := by omega
    have ED : Hid (xs.drop (K + 1) = []) := List.drop_eq_nil_of_le (by rw [HN.out]; omega)
    go_region_law (refine step_app (by rfl) _ _ (by rfl) w.heap.size g1 cap1 K 0 0 w.heap.size (xs.take K) [] (some ⟨b, 0, none⟩) (by simp [Act.eval, Act.put]) O1d.out (by simp [Act.eval, Act.put]) rfl (by simp) (IA.empty rfl) (by omega) SS.out ?_; intro g2 cap2 w2 O2 B2 _; have m1 := (B2.out.cell (p := ⟨g + 1, 1, none⟩) l1).trans k1; have m2 := (B2.out.cell (p := ⟨g, i, none⟩) l2).trans k2; have m3 := (B2.out.frozen (p := ⟨g, i, none⟩) l2).trans k3)
    all_goals go_wp2
    all_goals go_ret
    all_goals exact ⟨rfl, g2, cap2, w2, K, by rw [ED.out]; exact O2.out, BB.out.trans B2.out, Drawn.refl _⟩
  · go_region_law (refine step_app (by rfl) _ _ (by rfl) w.heap.size g1 cap1 K (N - (K + 1)) (c - (K + 1)) w.heap.size (xs.take K) (xs.drop (K + 1)) (some ⟨b, 0 + (K + 1), none⟩) (by simp [Act.eval, Act.put]) O1d.out (by simp [Act.eval, Act.put]) (by rw [List.length_drop, HN.out]) (by simp) (I1.out.drop (K + 1)) (by omega) SS.out ?_; intro g2 cap2 w2 O2 B2 _; have m1 := (B2.out.cell (p := ⟨g + 1, 1, none⟩) l1).trans k1; have m2 := (B2.out.cell (p := ⟨g, i, none⟩) l2).trans k2; have m3 := (B2.out.frozen (p := ⟨g, i, none⟩) l2).trans k3)
    all_goals go_wp2
    all_goals go_ret
    all_goals exact ⟨rfl, g2, cap2, w2, _, O2.out, BB.out.trans B2.out, Drawn.refl _⟩
end Go.Proofs.Ytjjilnklcjgndaa
