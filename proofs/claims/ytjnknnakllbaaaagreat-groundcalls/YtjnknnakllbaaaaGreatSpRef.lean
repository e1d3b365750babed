/-
  What the document's own pages do: New, Runs and Align: contracts that the claimed proofs use.
-/
import Derived.Test.YtjnknnakllbaaaaGreatSpPages
namespace Go.Proofs.YtjnknnakllbaaaaGreat.Sp
set_option maxRecDepth 100000
open Go.RowKit

/-! ### Rows of the document's runs -/
def Rt (w : World) (g cap : Nat) (L : List Rn) : Prop :=
  ∃ cur : List Value, Blk w g cur 144 ∧ cur.length = cap * 3 ∧ L.length ≤ cap ∧ cap ≤ maxLen ∧ cur.take (L.length * 3) = rcs L
theorem Rt.lt {w : World} {g cap : Nat} {L : List Rn} (h : Rt w g cap L) : g < w.heap.size := by obtain ⟨_, hb, _⟩ := h; exact hb.lt
theorem Rt.of {w w' : World} {g cap : Nat} {L : List Rn} (h : Rt w g cap L) (e : w'.heap[g]? = w.heap[g]?) : Rt w' g cap L := by
  obtain ⟨cur, hb, h2⟩ := h; exact ⟨cur, hb.of e, h2⟩
theorem Rt.below {w w' : World} {g cap : Nat} {L : List Rn} (h : Rt w g cap L) (hb : Below w.heap.size w w') : Rt w' g cap L := h.of (hb.block _ h.lt)
theorem Rt.get {w : World} {g cap : Nat} {L : List Rn} (h : Rt w g cap L) {i k : Nat} (hi : i < L.length) (hk : k < 3) : w.cell? ⟨g, i * 3 + k, none⟩ = (rc (el L i))[k]? := by
  obtain ⟨cur, hb, h1, h2, h3, h4⟩ := h
  rw [hb.cell, ← rcs_get k hi hk, ← h4, List.getElem?_take, if_pos (by omega)]
theorem Rt.cells {w : World} {g cap : Nat} {L : List Rn} (h : Rt w g cap L) {i : Nat} (hi : i < L.length) :
    w.cell? ⟨g, i * 3, none⟩ = some (.int .i64 (el L i).p) ∧ w.cell? ⟨g, i * 3 + 1, none⟩ = some (.int .i64 (el L i).n) ∧ w.cell? ⟨g, i * 3 + 2, none⟩ = some (.bool (el L i).t) :=
  ⟨h.get hi (k := 0) (by omega), h.get hi (k := 1) (by omega), h.get hi (k := 2) (by omega)⟩
theorem Rt.frozen {w : World} {g cap : Nat} {L : List Rn} (h : Rt w g cap L) (i : Nat) : w.frozen? ⟨g, i, none⟩ = false := by
  obtain ⟨_, hb, _⟩ := h; exact hb.frozen i
theorem Rt.set {w : World} {g cap : Nat} {L : List Rn} (h : Rt w g cap L) {i k : Nat} (hi : i < L.length) (hk : k < 3) (r : Rn) (v : Value) (hr : rc r = (rc (el L i)).set k v) : Rt (w.setCell ⟨g, i * 3 + k, none⟩ v) g cap (L.set i r) := by
  obtain ⟨cur, hb, h1, h2, h3, h4⟩ := h
  refine ⟨_, hb.set v, by simpa using h1, by simpa using h2, h3, ?_⟩
  rw [List.length_set, rcs_set k r v hi hk hr, ← h4, List.take_set]
theorem Rt.owns {w : World} {b g cap : Nat} {L : List Rn} (h : Rt w g cap L) (hb : b ≤ g) : w.ownsRow b 144 3 (.slice (some ⟨g, 0, none⟩) L.length cap) L.length (rcs L) := by
  obtain ⟨cur, hbl, h1, h2, h3, h4⟩ := h
  exact ⟨rcs_length L, .inr ⟨g, cap, cur.toArray, rfl, hb, hbl, h2, h3, by simpa using h1, h4⟩⟩
theorem Rt.owned {w : World} {b g cap n : Nat} {L : List Rn} (h : w.ownsRow b 144 3 (.slice (some ⟨g, 0, none⟩) n cap) n (rcs L)) (hn : L.length = n) : Rt w g cap L ∧ b ≤ g := by
  rcases h.2 with ⟨h', _⟩ | ⟨g', cap', cur, h', hb, hh, h1, h2, h3, h4⟩
  · simp at h'
  · simp only [Value.slice.injEq, Option.some.injEq, Addr.mk.injEq, and_true, true_and] at h'
    obtain ⟨rfl, rfl⟩ := h'
    exact ⟨⟨cur.toList, by unfold Blk; simpa using hh, by simpa using h3, by omega, h2, by rw [hn]; exact h4⟩, hb⟩
theorem ref_info : (Tryz.prog.info? 144).map (fun i => (i.zero, i.size, i.bytes)) = some (some (.agg #[.int .i64 0, .int .i64 0, .bool false]), 3, 24) := by kernel_rfl

/-! ### The document's pages -/
def Pg (w : World) (g N : Nat) (L : List Rn) : Prop := ∃ vs, Blk w g vs 3 ∧ ∀ i, i < N → vs[i]? = some (.int .i64 (pf L (i : Int)))
theorem Pg.lt {w : World} {g N : Nat} {L : List Rn} (h : Pg w g N L) : g < w.heap.size := by obtain ⟨_, hb, _⟩ := h; exact hb.lt
theorem Pg.of {w w' : World} {g N : Nat} {L : List Rn} (h : Pg w g N L) (e : w'.heap[g]? = w.heap[g]?) : Pg w' g N L := by obtain ⟨vs, hb, h2⟩ := h; exact ⟨vs, hb.of e, h2⟩
theorem Pg.cell {w : World} {g N i : Nat} {L : List Rn} (h : Pg w g N L) (hi : i < N) : w.cell? ⟨g, i, none⟩ = some (.int .i64 (pf L (i : Int))) := by obtain ⟨vs, hb, h2⟩ := h; rw [hb.cell]; exact h2 i hi
theorem Pg.frozen {w : World} {g N : Nat} {L : List Rn} (h : Pg w g N L) (i : Nat) : w.frozen? ⟨g, i, none⟩ = false := by obtain ⟨_, hb, _⟩ := h; exact hb.frozen i
/-- The document's spans: the struct at q names the pages at g. -/
def Rs (w : World) (q g N : Nat) (L : List Rn) : Prop := Blk w q [.slice (some ⟨g, 0, none⟩) N N] 101 ∧ Pg w g N L ∧ q ≠ g
theorem Rs.of {w w' : World} {q g N : Nat} {L : List Rn} (h : Rs w q g N L) (e1 : w'.heap[q]? = w.heap[q]?) (e2 : w'.heap[g]? = w.heap[g]?) : Rs w' q g N L := ⟨h.1.of e1, h.2.1.of e2, h.2.2⟩
theorem Rs.below {w w' : World} {q g N : Nat} {L : List Rn} (h : Rs w q g N L) (hb : Below w.heap.size w w') : Rs w' q g N L := h.of (hb.block _ h.1.lt) (hb.block _ h.2.1.lt)
theorem Rs.slice {w : World} {q g N : Nat} {L : List Rn} (h : Rs w q g N L) : w.cell? ⟨q, 0, none⟩ = some (.slice (some ⟨g, 0, none⟩) N N) := h.1.cell

theorem make_ints (n : Nat) (hc : n ≤ 8192) (W : World) :
    (Instr.makeSlice 58 (.int .i64 (n : Int)) (.int .i64 (n : Int))).run Tryz.prog W = .ok (.slice (some ⟨W.heap.size, 0, none⟩) n n) (W.alloc (.cells (madeCells #[.int .i64 0] n) 3)) := by
  obtain ⟨i, hi, hz, hs, hb⟩ := info_parts int_info
  have := run_make (P := Tryz.prog) W 58 3 i (.int .i64 0) Tryz.underlying58 hi hz .i64 .i64 n n (by omega) (by omega) (by rw [hb]; omega) (by omega)
  rw [hs] at this
  simpa [Value.cells] using this
theorem rnew_no (N : Int) (w : World) (h : N < 0) : Calls Tryz.prog 45 #[.int .i64 N] w fun e w' => e = .returned (.tuple #[.pointer none, .int .i64 11]) ∧ w = w' := by
  have hd : decide (N < 0) = true := by simpa using h
  go_enter Tryz.func45, Tryz.ntmps45
  go_wp2
  go_ret2
  exact ⟨rfl, rfl⟩
theorem rnew_yes (N : Nat) (w : World) (h1 : N ≤ 4096) :
    Calls Tryz.prog 45 #[.int .i64 (N : Int)] w fun e w' => e = .returned (.tuple #[.pointer (some ⟨w.heap.size + 1, 0, none⟩), .int .i64 0]) ∧ Rs w' (w.heap.size + 1) w.heap.size N (newL (N : Int)) ∧ Below w.heap.size w w' := by
  have hd : decide ((N : Int) < 0) = false := by simp
  have hd2 : decide (4096 < (N : Int)) = false := by simp; omega
  have mk := make_ints N (by omega)
  go_enter Tryz.func45, Tryz.ntmps45
  go_wp2
  go_ret2
  have b1 : Blk (w.alloc (.cells (madeCells #[.int .i64 0] N) 3)) w.heap.size (List.replicate N (.int .i64 0)) 3 := by
    unfold Blk
    rw [heap_alloc_new]
    congr 2
    apply Array.ext'
    rw [toList_madeCells_one]
  have hq := heap_alloc_new (w.alloc (.cells (madeCells #[.int .i64 0] N) 3)) (.cells #[.slice (some ⟨w.heap.size, 0, none⟩) N N] 101)
  rw [World.size_alloc] at hq
  refine ⟨rfl, ⟨hq, ⟨_, b1.of (heap_alloc_old _ _ b1.lt), fun i hi => ?_⟩, by omega⟩, up_alloc (up_alloc (Below.refl _ w) _) _⟩
  rw [List.getElem?_replicate, if_pos hi, pf_new]
/-- underpinref05.Align. -/
theorem two_pow (k : Nat) (h : k ≤ 12) : (2 : Int) ^ k ≤ 4096 ∧ 1 ≤ (2 : Int) ^ k := by
  have : k = 0 ∨ k = 1 ∨ k = 2 ∨ k = 3 ∨ k = 4 ∨ k = 5 ∨ k = 6 ∨ k = 7 ∨ k = 8 ∨ k = 9 ∨ k = 10 ∨ k = 11 ∨ k = 12 := by omega
  rcases this with rfl | rfl | rfl | rfl | rfl | rfl | rfl | rfl | rfl | rfl | rfl | rfl | rfl <;> decide
theorem al_iff {a : Int} : (decide (a ≤ 4096) && powB a) = true ↔ ∃ k : Nat, k ≤ 12 ∧ a = 2 ^ k := by
  simp only [Bool.and_eq_true, decide_eq_true_eq, powB_iff]
  constructor
  · rintro ⟨h1, k, hk, rfl⟩
    refine ⟨k, ?_, rfl⟩
    rcases Nat.lt_or_ge k 13 with h | h
    · omega
    · have : (2 : Int) ^ 13 ≤ 2 ^ k := by
        have := Nat.pow_le_pow_right (n := 2) (by omega) h
        exact_mod_cast this
      omega
  · rintro ⟨k, hk, rfl⟩
    exact ⟨(two_pow k hk).1, k, by omega, rfl⟩
theorem al_any (a : Int) (w : World) : Calls Tryz.prog 59 #[.int .i64 a] w fun e w' => e = .returned (.bool (decide (a ≤ 4096) && powB a)) ∧ w = w' := by
  obtain ⟨R, hR⟩ : ∃ R, (decide (a ≤ 4096) && powB a) = R := ⟨_, rfl⟩
  have HR : Hid (R = true ↔ ∃ k : Nat, k ≤ 12 ∧ a = 2 ^ k) := by rw [← hR]; exact al_iff
  rw [hR]
  clear hR
  go_enter Tryz.func59, Tryz.ntmps59
  go_wp2
  go_loop [3] (fun i => ∃ k : Nat, k ≤ 13 ∧ i = .int .i64 ((2 : Int) ^ k) ∧ ∀ j, j < k → a ≠ 2 ^ j) (fun i => (8192 - intOf i).toNat)
  case atStart => exact ⟨0, by omega, rfl, fun j hj => by omega⟩
  case round =>
    obtain ⟨k, hk, rfl, hno⟩ := hrel
    have HNO := Lib.hid hno
    clear hno
    by_cases h13 : k = 13
    · subst h13
      have hRf : R = false := by
        cases hr : R with
        | false => rfl
        | true =>
          obtain ⟨j, hj, he⟩ := HR.out.1 hr
          exact absurd he (HNO.out j (by omega))
      subst hRf
      have e : (2 : Int) ^ 13 = 8192 := by decide
      rw [e]
      go_wp2
      go_ret
      exact ⟨rfl, rfl⟩
    · have h2 := two_pow k (by omega)
      have hs : (2 : Int) ^ k * 2 = 2 ^ (k + 1) := by rw [Int.pow_succ]
      obtain ⟨p, hp⟩ : ∃ p, (2 : Int) ^ k = p := ⟨_, rfl⟩
      have HP := Lib.hid hp
      have HS := Lib.hid hs
      rw [hp] at h2 HS ⊢
      clear hs hp
      by_cases he : p = a
      · have hRt : R = true := HR.out.2 ⟨k, by omega, by rw [HP.out, he]⟩
        subst hRt
        have hd : (p == a) = true := by simpa using he
        clear he
        go_wp2
        go_ret
        exact ⟨rfl, rfl⟩
      · have hd : (p == a) = false := by simpa using he
        have HE := Lib.hid he
        clear he
        go_wp2
        go_round
        case rel =>
          refine ⟨k + 1, by omega, by rw [HS.out], fun j hj => ?_⟩
          by_cases ej : j = k
          · rw [ej, HP.out]; exact fun e => HE.out e.symm
          · exact HNO.out j (by omega)
        case measure => simp [intOf]; omega
end Go.Proofs.YtjnknnakllbaaaaGreat.Sp
