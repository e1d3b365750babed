/-
  How a map of pages is made, and copied: contracts that the claimed proofs use.
-/
import Derived.Test.YtjnknnakllbaaaaGreatRaOps
namespace Go.Proofs.YtjnknnakllbaaaaGreat.Ra
set_option maxRecDepth 100000
open Go.RowKit

theorem new_no (n : Int) (w : World) (h : ¬ (0 ≤ n ∧ n ≤ 4096)) : Calls Tryz.prog 42 #[.int .i64 n] w fun e w' => e = .returned (.tuple #[.pointer none, .int .i64 11]) ∧ w = w' := by
  by_cases h0 : n < 0
  · have d0 : decide (n < 0) = true := by simpa using h0
    go_enter Tryz.func42, Tryz.ntmps42
    go_wp2
    go_ret2
    exact ⟨rfl, rfl⟩
  · have d0 : decide (n < 0) = false := by simpa using h0
    have d1 : decide (4096 < n) = true := by simp; omega
    clear h
    go_enter Tryz.func42, Tryz.ntmps42
    go_wp2
    go_ret2
    exact ⟨rfl, rfl⟩
def g0 : Gs := fun _ => none
def f0 : Ws := fun _ => 0
theorem lay_new {w : World} {q : Nat} {n : Int} (h : Blk w q (mc n 0 g0) 129) : Lay w q n 0 g0 f0 := ⟨h, fun _ _ _ e => (by cases e), fun _ _ _ _ _ => rfl, fun _ _ _ _ _ e => (by cases e)⟩
theorem kept_new : Kept g0 f0 := fun _ _ => (lfB_no.2 (fun _ _ => rfl)).symm
theorem zero129 (w : World) : (zeroValue 129).run Tryz.prog w = .ok (.agg (mc 0 0 g0).toArray) w :=
  (zero_of_info (P := Tryz.prog) (t := 129) (v := .agg (mc 0 0 g0).toArray) (n := 66) (by kernel_rfl)).1 w
theorem zero_new : ∃ Z : Array Value, (∀ w, (zeroValue 129).run Tryz.prog w = .ok (.agg Z) w) ∧ (¬ Z = #[]) ∧ ∀ n : Int, Z.setIfInBounds 0 (.int .i64 n) = (mc n 0 g0).toArray :=
  ⟨(mc 0 0 g0).toArray, zero129, fun h => (by have := congrArg Array.size h; rw [List.size_toArray] at this; cases this), fun _ => rfl⟩
theorem new_yes (n : Int) (w : World) (h0 : 0 ≤ n) (h1 : n ≤ 4096) :
    Calls Tryz.prog 42 #[.int .i64 n] w fun e w' => e = .returned (.tuple #[.pointer (some ⟨w.heap.size, 0, none⟩), .int .i64 0]) ∧ Mp w' w.heap.size n 0 g0 f0 ∧ Below w.heap.size w w' := by
  have d0 : decide (n < 0) = false := by simpa using h0
  have d1 : decide (4096 < n) = false := by simpa using h1
  have HK : Hid (Blk (w.alloc (.cells (mc n 0 g0).toArray 129)) w.heap.size (mc n 0 g0) 129) := heap_alloc_last w _
  have HB := Lib.hid (up_alloc (Below.refl _ w) (.cells (mc n 0 g0).toArray 129))
  have HS := Lib.hid (St.new h0 h1)
  obtain ⟨Z, hz, hne, hset⟩ := zero_new
  have hs := hset n
  clear hset
  go_enter Tryz.func42, Tryz.ntmps42
  go_wp2
  go_ret2
  exact ⟨rfl, ⟨lay_new HK.out, kept_new, HS.out⟩, HB.out⟩

/-! ### Clone -/
theorem mc_len (n t : Int) (g : Gs) : (mc n t g).length = 66 := by unfold mc; simp [ps_len]
theorem mc_info (n t : Int) (g : Gs) : (Tryz.prog.info? 129).map (·.size) = some (mc n t g).toArray.size := by rw [List.size_toArray, mc_len]; kernel_rfl
theorem mc_one (n t : Int) (g : Gs) : (mc n t g).toArray.all (·.oneCell') = true := all_oneCell_toArray fun v hv => by
  unfold mc at hv
  rcases List.mem_cons.1 hv with rfl | hv
  · rfl
  · rcases List.mem_cons.1 hv with rfl | hv
    · rfl
    · unfold ps at hv
      obtain ⟨i, _, rfl⟩ := List.mem_map.1 hv
      rfl
theorem lw_one (f : Ws) (i : Nat) : (lw f i).toArray.all (·.oneCell') = true := all_oneCell_toArray fun v hv => by
  unfold lw at hv
  obtain ⟨i, _, rfl⟩ := List.mem_map.1 hv
  rfl
/-- A copy at c, of which the first k leaves are its own. -/
structure Half (wr : World) (B c : Nat) (n t : Int) (g h : Gs) (f : Ws) (k : Nat) : Prop where
  blk : Blk wr c (mc n t h) 129
  todo : ∀ i, k ≤ i → i < 64 → h i = g i
  done : ∀ i b, i < k → h i = some b → B ≤ b ∧ Blk wr b (lw f i) 146
  same : ∀ i, i < k → (h i).isSome = (g i).isSome
  one : ∀ i j b, i < k → j < k → h i = some b → h j = some b → i = j
theorem Half.skip {wr : World} {B c : Nat} {n t : Int} {g h : Gs} {f : Ws} {k : Nat} (H : Half wr B c n t g h f k) (hk : k < 64) (hg : g k = none) : Half wr B c n t g h f (k + 1) := by
  have hn : h k = none := by rw [H.todo k (Nat.le_refl _) hk, hg]
  refine ⟨H.blk, fun i h1 h2 => H.todo i (by omega) h2, fun i b hi e => ?_, fun i hi => ?_, fun i j b hi hj e e' => ?_⟩
  · by_cases ek : i = k
    · rw [ek, hn] at e; cases e
    · exact H.done i b (by omega) e
  · by_cases ek : i = k
    · rw [ek, hn, hg]
    · exact H.same i (by omega)
  · by_cases ek : i = k
    · rw [ek, hn] at e; cases e
    · by_cases ek' : j = k
      · rw [ek', hn] at e'; cases e'
      · exact H.one i j b (by omega) (by omega) e e'
theorem Half.took {wr : World} {B c : Nat} {n t : Int} {g h : Gs} {f : Ws} {k b : Nat} (H : Half wr B c n t g h f k) (hk : k < 64) (hg : g k = some b) (hB : B ≤ wr.heap.size) :
    Half ((wr.setCell ⟨c, 2 + k, .none⟩ (.pointer (some ⟨wr.heap.size, 0, .none⟩))).alloc (.cells (lw f k).toArray 146)) B c n t g (upg h k (some wr.heap.size)) f (k + 1) := by
  have hsz : (wr.setCell ⟨c, 2 + k, .none⟩ (.pointer (.some ⟨wr.heap.size, 0, .none⟩))).heap.size = wr.heap.size := by simp [World.setCell]
  have hnew : Blk ((wr.setCell ⟨c, 2 + k, .none⟩ (.pointer (.some ⟨wr.heap.size, 0, .none⟩))).alloc (.cells (lw f k).toArray 146)) wr.heap.size (lw f k) 146 := by
    have := heap_alloc_last (wr.setCell ⟨c, 2 + k, .none⟩ (.pointer (.some ⟨wr.heap.size, 0, .none⟩))) (.cells (lw f k).toArray 146)
    rwa [hsz] at this
  refine ⟨?_, fun i h1 h2 => ?_, fun i b hi e => ?_, fun i hi => ?_, fun i j b hi hj e e' => ?_⟩
  · have := (H.blk.set (i := 2 + k) (ptr (.some wr.heap.size))).alloc (.cells (lw f k).toArray 146)
    rwa [mc_set] at this
  · unfold upg; rw [if_neg (by omega)]; exact H.todo i (by omega) h2
  · unfold upg at e
    by_cases ek : i = k
    · rw [if_pos ek] at e; obtain rfl := Option.some.inj e; subst ek; exact ⟨hB, hnew⟩
    · rw [if_neg ek] at e
      obtain ⟨h1, h2⟩ := H.done i b (by omega) e
      exact ⟨h1, (h2.far _ (h2.ne H.blk (by decide)).symm).alloc _⟩
  · unfold upg
    by_cases ek : i = k
    · rw [if_pos ek, ek, hg]; rfl
    · rw [if_neg ek]; exact H.same i (by omega)
  · unfold upg at e e'
    by_cases ek : i = k
    · by_cases ek' : j = k
      · omega
      · rw [if_pos ek] at e; rw [if_neg ek'] at e'
        obtain rfl := Option.some.inj e
        have := (H.done j _ (by omega) e').2.lt; omega
    · rw [if_neg ek] at e
      by_cases ek' : j = k
      · rw [if_pos ek'] at e'
        obtain rfl := Option.some.inj e'
        have := (H.done i _ (by omega) e).2.lt; omega
      · rw [if_neg ek'] at e'; exact H.one i j b (by omega) (by omega) e e'
theorem Half.lay {wr : World} {B c : Nat} {n t : Int} {g h : Gs} {f : Ws} (H : Half wr B c n t g h f 64) (hz : ∀ i, i < 64 → g i = .none → ∀ j, j < 64 → f (64 * i + j) = 0) : Lay wr c n t h f :=
  ⟨H.blk, fun i b hi e => (H.done i b hi e).2, fun i hi e => hz i hi (by have := H.same i hi; rw [e] at this; cases hg : g i with
    | none => rfl
    | some b => rw [hg] at this; cases this), H.one⟩
section
variable {w : World} {q : Nat} {n t : Int} {g : Gs} {f : Ws}
theorem clone_any (h : Mp w q n t g f) :
    Calls Tryz.prog 64 #[.pointer (some ⟨q, 0, none⟩)] w fun e w' => ∃ g', e = .returned (.pointer (some ⟨w.heap.size, 0, none⟩)) ∧ Mp w' w.heap.size n t g' f ∧ (∀ i b, i < 64 → g' i = some b → w.heap.size ≤ b) ∧ Below w.heap.size w w' := by
  have HM := Lib.hid h
  have HBK := Lib.hid h.lay.blk
  have HB0 := Lib.hid (up_alloc (Below.refl _ w) (.cells (mc n t g).toArray 129))
  have HR : Hid ((w.alloc (.cells (mc n t g).toArray 129)).rangeAt q 2 (ps g)) := ps_range (h.lay.blk.alloc _)
  have hq := h.lay.blk.lt
  clear h
  go_enter Tryz.func64, Tryz.ntmps64
  go_wp2_with (first
    | (refine wpList_load_row rfl 129 (.tmp 8) rfl q rfl 129 (mc n t g).toArray (0, 0) _ HBK.out Tryz.underlying129 rfl (mc_info n t g) ?_)
    | (refine wpList_alloc_big rfl 129 rfl (mc 0 0 g0).toArray zero129 ?_)
    | (refine wpList_store_last rfl 129 (.tmp 3) (.tmp 9) rfl w (mc n t g).toArray rfl rfl 129 (mc 0 0 g0).toArray (mc_info n t g) rfl (mc_one n t g) ?_)
    | (refine wpList_load_mid rfl 127 (.tmp 12) rfl q 2 rfl (ps g) _ HR.out Tryz.underlying127 rfl (ps_info g) ?_))
  generalize hW0 : w.alloc (.cells (mc n t g).toArray 129) = W0 at HR ⊢
  have HH0 : Hid (Half W0 w.heap.size w.heap.size n t g g f 0) := by
    rw [← hW0]
    exact ⟨heap_alloc_last w _, fun _ _ _ => rfl, fun i b hi => by omega, fun i hi => by omega, fun i j b hi => by omega⟩
  have HB1 : Hid (Below w.heap.size w W0) := by rw [← hW0]; exact HB0.out
  clear hW0 HB0 HR
  go_loopw [14] (fun a wr => ∃ (k : Nat) (h : Gs), k ≤ 64 ∧ a = .int .i64 (k : Int) ∧ Half wr w.heap.size w.heap.size n t g h f k ∧ Below w.heap.size w wr) (fun a _ => 64 - (intOf a).toNat)
  case atStart => exact ⟨0, g, by omega, rfl, HH0.out, HB1.out⟩
  case round =>
    obtain ⟨k, h, hk, rfl, hh, hb⟩ := hrel
    have HH := Lib.hid hh
    have HB := Lib.hid hb
    clear hh hb HH0 HB1
    by_cases hlt : k < 64
    · have hi := ps_index g hlt wr
      cases hg : g k with
      | none =>
        rw [hg, ptr_none] at hi
        have HG := Lib.hid hg
        clear hg
        go_wp2
        go_roundw
        case rel => exact ⟨k + 1, h, by omega, by go_num, HH.out.skip hlt HG.out, HB.out⟩
        case measure => simp [intOf]; omega
      | some b =>
        rw [hg, ptr_some] at hi
        have HG := Lib.hid hg
        have HLF := Lib.hid ((HM.out.lay.below HB.out).leaf k b hlt hg)
        have cp : wr.cell? ⟨w.heap.size, 2 + k, none⟩ = some (ptr (h k)) := by rw [HH.out.blk.cell, mc_at n t h hlt]
        have fz := HH.out.blk.frozen (2 + k)
        have hlt2 := HH.out.blk.lt
        clear hg
        go_wp2_with (first
          | (refine wpList_load_row rfl 146 (.tmp 21) rfl b rfl 146 (lw f k).toArray (0, 0) _ HLF.out Tryz.underlying146 rfl (lw_info f k) ?_)
          | (refine wpList_alloc_big rfl 146 rfl (lw (fun _ => 0) 0).toArray zero146 ?_)
          | (refine wpList_store_last rfl 146 (.tmp 6) (.tmp 22) rfl wr (lw f k).toArray rfl rfl 146 (lw (fun _ => 0) 0).toArray (lw_info f k) rfl (lw_one f k) ?_))
        go_roundw
        case rel => exact ⟨k + 1, upg h k (some wr.heap.size), by omega, by go_num, HH.out.took hlt HG.out HB.out.size, up_alloc (HB.out.setCell (Nat.le_refl _) _) _⟩
        case measure => simp [intOf]; omega
    · obtain rfl : k = 64 := by omega
      go_wp2
      go_ret
      exact ⟨h, rfl, ⟨HH.out.lay HM.out.lay.none, fun i hi => by rw [HH.out.same i hi]; exact HM.out.kept i hi, HM.out.st⟩, fun i b hi e => (HH.out.done i b hi e).1, HB.out⟩
end
end Go.Proofs.YtjnknnakllbaaaaGreat.Ra
