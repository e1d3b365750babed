/-
  How a map of pages is made, and copied: contracts that the claimed proofs use.
-/
import Derived.Test.YtjnknnakllbaaaaRaOps
namespace Go.Proofs.Ytjnknnakllbaaaa.Ra
set_option maxRecDepth 100000
open Go.RowKit

theorem new_no (n : Int) (w : World) (h : ¬ (0 ≤ n ∧ n ≤ 4096)) : Calls Try.prog 26 #[.int .i64 n] w fun e w' => e = .returned (.tuple #[.pointer none, .int .i64 11]) ∧ w = w' := by
  by_cases h0 : n < 0
  · have d0 : decide (n < 0) = true := by simpa using h0
    go_enter Try.func26, Try.ntmps26
    go_wp2
    go_ret2
    exact ⟨rfl, rfl⟩
  · have d0 : decide (n < 0) = false := by simpa using h0
    have d1 : decide (4096 < n) = true := by simp; omega
    clear h
    go_enter Try.func26, Try.ntmps26
    go_wp2
    go_ret2
    exact ⟨rfl, rfl⟩
def g0 : Gs := fun _ => none
def f0 : Ws := fun _ => 0
theorem lay_new {w : World} {q : Nat} {n : Int} (h : Blk w q (mc n 0 g0) 87) : Lay w q n 0 g0 f0 := ⟨h, fun _ _ _ e => (by cases e), fun _ _ _ _ _ => rfl, fun _ _ _ _ _ e => (by cases e)⟩
theorem kept_new : Kept g0 f0 := fun _ _ => (lfB_no.2 (fun _ _ => rfl)).symm
theorem zero87 (w : World) : (zeroValue 87).run Try.prog w = .ok (.agg (mc 0 0 g0).toArray) w :=
  (zero_of_info (P := Try.prog) (t := 87) (v := .agg (mc 0 0 g0).toArray) (n := 66) (by kernel_rfl)).1 w
theorem zero_new : ∃ Z : Array Value, (∀ w, (zeroValue 87).run Try.prog w = .ok (.agg Z) w) ∧ (¬ Z = #[]) ∧ ∀ n : Int, Z.setIfInBounds 0 (.int .i64 n) = (mc n 0 g0).toArray :=
  ⟨(mc 0 0 g0).toArray, zero87, fun h => (by have := congrArg Array.size h; rw [List.size_toArray] at this; cases this), fun _ => rfl⟩
theorem new_yes (n : Int) (w : World) (h0 : 0 ≤ n) (h1 : n ≤ 4096) :
    Calls Try.prog 26 #[.int .i64 n] w fun e w' => e = .returned (.tuple #[.pointer (some ⟨w.heap.size, 0, none⟩), .int .i64 0]) ∧ Mp w' w.heap.size n 0 g0 f0 ∧ Below w.heap.size w w' := by
  have d0 : decide (n < 0) = false := by simpa using h0
  have d1 : decide (4096 < n) = false := by simpa using h1
  have HK : Hid (Blk (w.alloc (.cells (mc n 0 g0).toArray 87)) w.heap.size (mc n 0 g0) 87) := heap_alloc_last w _
  have HB := Lib.hid (up_alloc (Below.refl _ w) (.cells (mc n 0 g0).toArray 87))
  have HS := Lib.hid (St.new h0 h1)
  obtain ⟨Z, hz, hne, hset⟩ := zero_new
  have hs := hset n
  clear hset
  go_enter Try.func26, Try.ntmps26
  go_wp2
  go_ret2
  exact ⟨rfl, ⟨lay_new HK.out, kept_new, HS.out⟩, HB.out⟩

/-! ### Clone -/
theorem mc_len (n t : Int) (g : Gs) : (mc n t g).length = 66 := by unfold mc; simp [ps_len]
theorem mc_info (n t : Int) (g : Gs) : (Try.prog.info? 87).map (·.size) = some (mc n t g).toArray.size := by rw [List.size_toArray, mc_len]; kernel_rfl
theorem mc_one (n t : Int) (g : Gs) : (mc n t g).toArray.all (·.oneCell') = true := all_oneCell_toArray fun v hv => by
  unfold mc at hv
  rcases List.mem_cons.1 hv with rfl | hv
  · rfl
  · rcases List.mem_cons.1 hv with rfl | hv
    · rfl
    · unfold ps at hv
      obtain ⟨i, _, rfl⟩ := List.mem_map.1 hv
      rfl
theorem lw_one (f : Ws) (i : Nat) : (lw f i).toArray.all (·.oneCell') = true := all_oneCell_toArray fun v hv => by
  unfold lw at hv
  obtain ⟨i, _, rfl⟩ := List.mem_map.1 hv
  rfl
/-- A copy at c, of which the first k leaves are its own. -/
structure Half (wr : World) (B c : Nat) (n t : Int) (g h : Gs) (f : Ws) (k : Nat) : Prop where
  blk : Blk wr c (mc n t h) 87
  todo : ∀ i, k ≤ i → i < 64 → h i = g i
  done : ∀ i b, i < k → h i = some b → B ≤ b ∧ Blk wr b (lw f i) 119
  same : ∀ i, i < k → (h i).isSome = (g i).isSome
  one : ∀ i j b, i < k → j < k → h i = some b → h j = some b → i = j
theorem Half.skip {wr : World} {B c : Nat} {n t : Int} {g h : Gs} {f : Ws} {k : Nat} (H : Half wr B c n t g h f k) (hk : k < 64) (hg : g k = none) : Half wr B c n t g h f (k + 1) := by
  have hn : h k = none := by rw [H.todo k (Nat.le_refl _) hk, hg]
  refine ⟨H.blk, fun i h1 h2 => H.todo i (by omega) h2, fun i b hi e => ?_, fun i hi => ?_, fun i j b hi hj e e' => ?_⟩
  · by_cases ek : i = k
    · rw [ek, hn] at e; cases e
    · exact H.done i b (by omega) e
  · by_cases ek : i = k
    · rw [ek, hn, hg]
    · exact H.same i (by omega)
  · by_cases ek : i = k
    · rw [ek, hn] at e; cases e
    · by_cases ek' : j = k
      · rw [ek', hn] at e'; cases e'
      · exact H.one i j b (by omega) (by omega) e e'
theorem Half.took {wr : World} {B c : Nat} {n t : Int} {g h : Gs} {f : Ws} {k b : Nat} (H : Half wr B c n t g h f k) (hk : k < 64) (hg : g k = some b) (hB : B ≤ wr.heap.size) :
    Half ((wr.setCell ⟨c, 2 + k, .none⟩ (.pointer (some ⟨wr.heap.size, 0, .none⟩))).alloc (.cells (lw f k).toArray 119)) B c n t g (upg h k (some wr.heap.size)) f (k + 1) := by
  have hsz : (wr.setCell ⟨c, 2 + k, .none⟩ (.pointer (.some ⟨wr.heap.size, 0, .none⟩))).heap.size = wr.heap.size := by simp [World.setCell]
  have hnew : Blk ((wr.setCell ⟨c, 2 + k, .none⟩ (.pointer (.some ⟨wr.heap.size, 0, .none⟩))).alloc (.cells (lw f k).toArray 119)) wr.heap.size (lw f k) 119 := by
    have := heap_alloc_last (wr.setCell ⟨c, 2 + k, .none⟩ (.pointer (.some ⟨wr.heap.size, 0, .none⟩))) (.cells (lw f k).toArray 119)
    rwa [hsz] at this
  refine ⟨?_, fun i h1 h2 => ?_, fun i b hi e => ?_, fun i hi => ?_, fun i j b hi hj e e' => ?_⟩
  · have := (H.blk.set (i := 2 + k) (ptr (.some wr.heap.size))).alloc (.cells (lw f k).toArray 119)
    rwa [mc_set] at this
  · unfold upg; rw [if_neg (by omega)]; exact H.todo i (by omega) h2
  · unfold upg at e
    by_cases ek : i = k
    · rw [if_pos ek] at e; obtain rfl := Option.some.inj e; subst ek; exact ⟨hB, hnew⟩
    · rw [if_neg ek] at e
      obtain ⟨h1, h2⟩ := H.done i b (by omega) e
      exact ⟨h1, (h2.far _ (h2.ne H.blk (by decide)).symm).alloc _⟩
  · unfold upg
    by_cases ek : i = k
    · rw [if_pos ek, ek, hg]; rfl
    · rw [if_neg ek]; exact H.same i (by omega)
  · unfold upg at e e'
    by_cases ek : i = k
    · by_cases ek' : j = k
      · omega
      · rw [if_pos ek] at e; rw [if_neg ek'] at e'
        obtain rfl := Option.some.inj e
        have := (H.done j _ (by omega) e').2.lt; omega
    · rw [if_neg ek] at e
      by_cases ek' : j = k
      · rw [if_pos ek'] at e'
        obtain rfl := Option.some.inj e'
        have := (H.done i _ (by omega) e).2.lt; omega
      · rw [if_neg ek'] at e'; exact H.one i j b (by omega) (by omega) e e'
theorem Half.lay {wr : World} {B c : Nat} {n t : Int} {g h : Gs} {f : Ws} (H : Half wr B c n t g h f 64) (hz : ∀ i, i < 64 → g i = .none → ∀ j, j < 64 → f (64 * i + j) = 0) : Lay wr c n t h f :=
  ⟨H.blk, fun i b hi e => (H.done i b hi e).2, fun i hi e => hz i hi (by have := H.same i hi; rw [e] at this; cases hg : g i with
    | none => rfl
    | some b => rw [hg] at this; cases this), H.one⟩
section
variable {w : World} {q : Nat} {n t : Int} {g : Gs} {f : Ws}
end
end Go.Proofs.Ytjnknnakllbaaaa.Ra
