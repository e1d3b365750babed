/-
  How often an item stands in lists, and how many stand in them, no program in sight; calls that came in: facts that the claimed proofs use.
-/
import Derived.Test.YtjjilnklcjgndaaAlive
namespace Go.Proofs.Ytjjilnklcjgndaa
open Go.RowKit

/-- How often an item stands in the first lists. -/
def cnt (L : Nat → List Nat) : Nat → Nat → Nat
  | 0, _ => 0
  | i + 1, x => cnt L i x + (L i).count x
/-- How many stand in the first lists. -/
def tot (L : Nat → List Nat) : Nat → Nat
  | 0 => 0
  | i + 1 => tot L i + (L i).length
/-- A sum over the first numbers. -/
def sm (f : Nat → Nat) : Nat → Nat
  | 0 => 0
  | k + 1 => sm f k + f k
theorem sm_add (f g : Nat → Nat) : ∀ n, sm (fun x => f x + g x) n = sm f n + sm g n
  | 0 => rfl
  | n + 1 => by simp only [sm, sm_add f g n]; omega
theorem sm_zero : ∀ n, sm (fun _ => 0) n = 0
  | 0 => rfl
  | n + 1 => by simp only [sm, sm_zero n]
theorem sm_one (x : Nat) : ∀ n, sm (fun y => if x = y then 1 else 0) n = if x < n then 1 else 0
  | 0 => rfl
  | n + 1 => by
    simp only [sm, sm_one x n]
    by_cases h : x < n
    · rw [if_pos h, if_neg (by omega), if_pos (by omega)]
    · by_cases h2 : x = n
      · rw [if_neg h, if_pos h2, if_pos (by omega)]
      · rw [if_neg h, if_neg h2, if_neg (by omega)]
theorem sm_count (n : Nat) : ∀ (l : List Nat), (∀ x ∈ l, x < n) → sm (fun y => l.count y) n = l.length
  | [], _ => by simp only [List.count_nil, List.length_nil]; exact sm_zero n
  | x :: l, h => by
    have ih := sm_count n l (fun y hy => h y (by simp [hy]))
    have e : (fun y => (x :: l).count y) = fun y => l.count y + if x = y then 1 else 0 := by
      funext y; rw [List.count_cons]; congr 1; by_cases h : x = y <;> simp [h]
    rw [e, sm_add (fun y => l.count y), ih, sm_one, if_pos (h x (by simp))]; rfl
theorem sm_cnt {n m : Nat} {L : Nat → List Nat} (h : Good n m L) : ∀ i, sm (cnt L i) n = tot L i
  | 0 => sm_zero n
  | i + 1 => by
    have e : cnt L (i + 1) = fun x => cnt L i x + (L i).count x := rfl
    rw [e, sm_add, sm_cnt h i, sm_count n (L i) (h.lt i)]; rfl
theorem cnt_no {L : Nat → List Nat} {x : Nat} : ∀ i, (∀ j, j < i → x ∉ L j) → cnt L i x = 0
  | 0, _ => rfl
  | i + 1, h => by rw [cnt, cnt_no i (fun j hj => h j (by omega)), List.count_eq_zero_of_not_mem (h i (by omega))]
theorem cnt_at {n m : Nat} {L : Nat → List Nat} (hg : Good n m L) {x j : Nat} (hx : x ∈ L j) : ∀ i, j < i → cnt L i x = 1
  | 0, h => by omega
  | i + 1, h => by
    by_cases e : j = i
    · subst e
      rw [cnt, cnt_no j (fun k hk hm => by have := hg.apart _ _ _ hx hm; omega), (hg.nd j).count, if_pos hx]
    · rw [cnt, cnt_at hg hx i (by omega), List.count_eq_zero_of_not_mem (fun hm => e (hg.apart _ _ _ hx hm))]
theorem cnt_all {n m : Nat} {L : Nat → List Nat} (hg : Good n m L) (x : Nat) : ∃ v, InR L (x : Int) v ∧ ((cnt L m x = 1 ∧ 0 ≤ v) ∨ (cnt L m x = 0 ∧ v = -1)) := by
  by_cases h : ∃ j, x ∈ L j
  · obtain ⟨j, hj⟩ := h
    exact ⟨(j : Int), .inl ⟨x, j, rfl, hj, rfl⟩, .inl ⟨cnt_at hg hj m (hg.list_lt hj), by omega⟩⟩
  · exact ⟨-1, .inr ⟨no_of (fun i hi => h ⟨i, hi⟩), rfl⟩, .inr ⟨cnt_no m (fun j _ hj => h ⟨j, hj⟩), rfl⟩⟩
theorem cnt_le (L : Nat → List Nat) (x : Nat) {i j : Nat} (h : i ≤ j) : cnt L i x ≤ cnt L j x := by
  induction j with
  | zero => obtain rfl : i = 0 := by omega
            exact Nat.le_refl _
  | succ j ih =>
    by_cases e : i = j + 1
    · subst e; exact Nat.le_refl _
    · have := ih (by omega)
      rw [cnt]; omega
theorem sm_le {f g : Nat → Nat} : ∀ k n, k ≤ n → (∀ x, f x = g x) → sm f k ≤ sm g n
  | k, 0, h, _ => by obtain rfl : k = 0 := by omega
                     exact Nat.le_refl _
  | k, n + 1, h, e => by
    by_cases h2 : k = n + 1
    · subst h2
      have : f = g := funext e
      rw [this]; exact Nat.le_refl _
    · have := sm_le k n (by omega) e
      rw [sm]; omega
theorem tot_le {n m : Nat} {L : Nat → List Nat} (h : Good n m L) : ∀ i, tot L i ≤ i * n
  | 0 => by simp [tot]
  | i + 1 => by have := tot_le h i; have := h.len i; rw [tot, Nat.succ_mul]; omega

/-! ### Calls that came in -/
/-- Of their address something is said only where there is one. -/
def CA (B : Nat) (w : World) (A : Option Addr) (l : List (Int × Int × Int)) : Prop :=
  0 < l.length → ∃ b o, A = some ⟨b, o, none⟩ ∧ b < B ∧ ∀ i, i < l.length → w.cell? ⟨b, o + i * 3, none⟩ = some (.int .i64 (l.getD i (0, 0, 0)).1) ∧
    w.cell? ⟨b, o + i * 3 + 1, none⟩ = some (.int .i64 (l.getD i (0, 0, 0)).2.1) ∧ w.cell? ⟨b, o + i * 3 + 2, none⟩ = some (.int .i64 (l.getD i (0, 0, 0)).2.2)
theorem CA.below {B : Nat} {w w' : World} {A : Option Addr} {l : List (Int × Int × Int)} (h : CA B w A l) (hb : Below B w w') : CA B w' A l := fun hp => by
  obtain ⟨b, o, e, hg, hc⟩ := h hp
  exact ⟨b, o, e, hg, fun i hi => ⟨(hb.cell (p := ⟨b, o + i * 3, none⟩) hg).trans (hc i hi).1, (hb.cell (p := ⟨b, o + i * 3 + 1, none⟩) hg).trans (hc i hi).2.1, (hb.cell (p := ⟨b, o + i * 3 + 2, none⟩) hg).trans (hc i hi).2.2⟩⟩
theorem both_new {p : Pl} {w2 w3 : World} {n m : Nat} (hn : p.n = n) (hm : p.m = m) (h2 : Ring w2 p (fun _ => [])) (h3 : Ref w3 w2.heap.size n m (fun _ => [])) (hb : Below w2.heap.size w2 w3) : Both w3 p w2.heap.size (fun _ => []) :=
  ⟨h2.below hb, by rw [hn, hm]; exact h3, h2.sz⟩
theorem Told.below {p : Pl} {g : Nat} {w W w' : World} {e : Ending} (h : Told p g W e w') (hb : Below w.heap.size w W) (hlo : w.heap.size ≤ p.lo) : Below w.heap.size w w' := h.2.2.1.on hb hlo (Nat.le_refl _)
end Go.Proofs.Ytjjilnklcjgndaa
