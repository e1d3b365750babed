/-
  What New, Count and Nth do: contracts that the claimed proofs use.
-/
import Derived.Test.YtiemgeflkmbfoaaDoorBiTest
namespace Go.Proofs.YtiemgeflkmbfoaaDoor.Bi
set_option maxRecDepth 100000
open Go.RowKit

def bt (l : List Bool) (k : Nat) : Bool := l.getD k false
/-- The set bits, rising. -/
def sets (l : List Bool) : List Nat := on (bt l) l.length
theorem bt_beyond {l : List Bool} {k : Nat} (h : l.length ≤ k) : bt l k = false := by
  unfold bt; rw [List.getD_eq_getElem?_getD, List.getElem?_eq_none h]; rfl
theorem sets_more {l : List Bool} {m : Nat} (h : l.length ≤ m) : on (bt l) m = sets l := on_more h (fun _ hj => bt_beyond hj)
theorem on_word {l : List Bool} {ws : List (BitVec 64)} (h : Fits l ws) (k : Nat) : on (bt l) (64 * (k + 1)) = on (bt l) (64 * k) ++ (sw (ws.getD k 0#64)).map (64 * k + ·) := by
  rw [show 64 * (k + 1) = 64 * k + 64 by omega, on_add]
  congr 2
  exact on_congr (fun j hj => (h.2 k j hj).symm)
theorem on_all {l : List Bool} {ws : List (BitVec 64)} (h : Fits l ws) : on (bt l) (64 * ws.length) = sets l := sets_more (by have := h.1; omega)
theorem on_le (b : Nat → Bool) {n m : Nat} (h : n ≤ m) : ∃ r, on b m = on b n ++ r := by
  obtain ⟨d, rfl⟩ : ∃ d, m = n + d := ⟨m - n, by omega⟩
  exact ⟨_, on_add b n d⟩
theorem sets_length_le (l : List Bool) : (sets l).length ≤ l.length := on_length_le _ _

/-! ### New -/
def Newed (n : Nat) (w : World) (e : Ending) (w' : World) : Prop :=
  e = .returned (.tuple #[.pointer (some ⟨w.heap.size + 1, 0, none⟩), .int .i64 0]) ∧ Bits w' (w.heap.size + 1) w.heap.size (List.replicate n false) (List.replicate ((n + 63) / 64) 0#64) ∧ Below w.heap.size w w' ∧ w'.heap.size = w.heap.size + 2
theorem wrow_none (m : Nat) : List.replicate m (Value.int .u64 0) = wrow (List.replicate m 0#64) := by
  unfold wrow; rw [List.map_replicate]; rfl
theorem new_yes (n : Nat) (hn : n ≤ 4096) (w : World) (hw : 1 < w.heap.size) : Calls Tryd.prog 35 #[.int .i64 (n : Int)] w (Newed n w) := by
  obtain ⟨m, hm⟩ : ∃ m, (n + 63) / 64 = m := ⟨_, rfl⟩
  have e1 : ((n : Int) + 64 - 1) / 64 = (m : Int) := by omega
  have hmk := make_words m (by omega)
  have HW := Lib.hid hw
  have HM := Lib.hid hm
  clear hm hw
  go_enter Tryd.func35, Tryd.ntmps35
  go_wp2
  go_ret2
  refine ⟨rfl, ⟨?_, ?_, fits_none n, by simpa using hn, Nat.lt_succ_of_lt HW.out, HW.out⟩, ((Below.refl _ w).alloc (Nat.le_refl _) _).alloc (by simp) _, by simp⟩
  · have := heap_alloc_new (w.alloc (.cells (madeCells #[.int .u64 0] m) 56)) (.cells #[.int .i64 (n : Int), .slice (some ⟨w.heap.size, 0, none⟩) m m] 81)
    rw [HM.out]
    simpa [Blk] using this
  · rw [HM.out, ← wrow_none]
    exact (Blk.made w (.int .u64 0) m 56).of (Below.heap_alloc _ _ _ (by simp))
theorem new_no (n : Int) (w : World) (h : n < 0) : Calls Tryd.prog 35 #[.int .i64 n] w fun e w' => e = .returned (.tuple #[.pointer none, .int .i64 11]) ∧ w = w' := by
  have hd : decide (n < 0) = true := by simpa using h
  go_enter Tryd.func35, Tryd.ntmps35
  go_wp2
  go_ret2
  exact ⟨rfl, rfl⟩

/-! ### Count -/
theorem count_any (q g : Nat) (l : List Bool) (ws : List (BitVec 64)) (w : World) (hm : Bits w q g l ws) :
    Calls Tryd.prog 50 #[.pointer (some ⟨q, 0, none⟩)] w fun e w' => e = .returned (.int .i64 ((sets l).length : Int)) ∧ w = w' := by
  have hs := hm.words
  have HX : Hid (∀ i, i < ws.length → w.cell? ⟨g, i, none⟩ = some (.int .u64 (u (ws.getD i 0#64)))) := fun i hi => hm.word hi
  have hL := hm.many.2.1
  have HF := Lib.hid hm.2.2.1
  clear hm
  obtain ⟨L, hl⟩ : ∃ L, ws.length = L := ⟨_, rfl⟩
  have HL := Lib.hid hl
  rw [hl] at hs HX hL
  clear hl
  go_enter Tryd.func50, Tryd.ntmps50
  go_wp2
  go_loop [3, 11] (fun c i => ∃ k n : Nat, k ≤ L ∧ i = .int .i64 k ∧ c = .int .i64 n ∧ n = (on (bt l) (64 * k)).length) (fun _ i => L - (intOf i).toNat)
  case atStart => exact ⟨0, 0, by omega, rfl, rfl, rfl⟩
  case round =>
    obtain ⟨k, n, hk, rfl, rfl, hn⟩ := hrel
    have HN := Lib.hid hn
    have hnb : n ≤ 64 * k := by rw [hn]; exact on_length_le _ _
    clear hn
    by_cases hlt : k < L
    · have q1 := HX.out k hlt
      obtain ⟨x, hx⟩ : ∃ x, ws.getD k 0#64 = x := ⟨_, rfl⟩
      rw [hx] at q1
      have HXX := Lib.hid hx
      obtain ⟨m, hmm⟩ : ∃ m, (sw x).length = m := ⟨_, rfl⟩
      have hmb : m ≤ 64 := by rw [← hmm]; exact on_length_le _ _
      have HM := Lib.hid hmm
      have hc := ones_any x w
      rw [hmm] at hc
      have HC := Lib.hid hc
      clear hx hmm hc
      go_wp2_with (go_at_call 63; refine HC.out.mono ?_; rintro e w' ⟨rfl, rfl⟩)
      go_round
      case rel =>
        refine ⟨k + 1, n + m, by omega, by go_num, by go_num, ?_⟩
        rw [on_word HF.out k, HXX.out, List.length_append, List.length_map, HM.out, ← HN.out]
      case measure => simp [intOf]; omega
    · obtain rfl : k = L := by omega
      go_wp2
      go_ret
      exact ⟨ret_i (by rw [HN.out, ← HL.out, on_all HF.out]), rfl⟩

/-! ### The n-th set bit -/
theorem and_raw (y : BitVec 64) : bits .and .u64 (u y) (IntKind.u64.wrap (u y - 1)) = u (y &&& (y - 1#64)) := by
  rw [show (1 : Int) = u 1#64 from rfl, sub_u, and_u]
/-- The n-th of a list; -1, if there is none. -/
def nthI (xs : List Nat) (n : Int) : Int := if 0 ≤ n then (match xs[n.toNat]? with | some k => (k : Int) | none => -1) else -1
theorem nthI_some {xs : List Nat} {n k : Nat} (h : xs[n]? = some k) : nthI xs n = k := by
  unfold nthI; rw [if_pos (by omega), Int.toNat_natCast, h]
theorem nthI_none {xs : List Nat} {n : Nat} (h : xs.length ≤ n) : nthI xs n = -1 := by
  unfold nthI; rw [if_pos (by omega), Int.toNat_natCast, List.getElem?_eq_none h]
end Go.Proofs.YtiemgeflkmbfoaaDoor.Bi
