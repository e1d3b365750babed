/-
  The document's map, and what it is asked: contracts that the claimed proofs use.
-/
import Derived.Test.YtjnknnakllbaaaaGreatRaNew
import Derived.Laws.MakeOwn
import Derived.StillTailTactics
namespace Go.Proofs.YtjnknnakllbaaaaGreat.Ra
set_option maxRecDepth 100000
open Go.RowKit

/-- Words in a row. -/
def rl (f : Ws) (N : Nat) : List Value := (List.range N).map fun j => .int .u64 (f j)
theorem rl_at (f : Ws) {N j : Nat} (h : j < N) : (rl f N)[j]? = some (.int .u64 (f j)) := by unfold rl; rw [List.getElem?_map, List.getElem?_range h]; rfl
theorem rl_set (f : Ws) (N k : Nat) (x : Int) : (rl f N).set k (.int .u64 x) = rl (upf f k x) N := by
  apply List.ext_getElem?
  intro i
  unfold rl
  rw [List.getElem?_set]
  simp only [List.length_map, List.length_range, List.getElem?_map]
  by_cases hi : i < N
  · rw [List.getElem?_range hi]
    by_cases hk : k = i
    · subst hk; rw [if_pos rfl, if_pos hi]; simp [upf]
    · rw [if_neg hk]; simp [upf, Ne.symm hk]
  · rw [List.getElem?_eq_none (by simp; omega)]
    by_cases hk : k = i
    · subst hk; rw [if_pos rfl, if_neg hi]; simp
    · rw [if_neg hk]; simp
structure Rf (w : World) (p r N : Nat) (t : Int) (f : Ws) : Prop where
  blk : Blk w p [.slice (some ⟨r, 0, none⟩) N N, .int .u64 t] 43
  row : Blk w r (rl f N) 39
/-- Of the blocks that there were, p and r alone may have changed. -/
structure F2 (p r : Nat) (w w' : World) : Prop where
  os : w'.os = w.os
  tape : w'.tape = w.tape
  output : w'.output = w.output
  size : w.heap.size ≤ w'.heap.size
  block : ∀ k, k < w.heap.size → k ≠ p → k ≠ r → w'.heap[k]? = w.heap[k]?
theorem F2.refl (p r : Nat) (w : World) : F2 p r w w := ⟨rfl, rfl, rfl, Nat.le_refl _, fun _ _ _ _ => rfl⟩
theorem F2.of {p r : Nat} {a b : World} (h : Below a.heap.size a b) : F2 p r a b := ⟨h.os, h.tape, h.output, h.size, fun k hk _ _ => h.block k hk⟩
theorem F2.ofp {p r : Nat} {a b : World} (h : a.grownBy b (some p)) : F2 p r a b := ⟨h.os, h.tape, h.output, h.size, fun k hk h1 _ => h.block k hk (by simpa using h1)⟩
theorem F2.ofr {p r : Nat} {a b : World} (h : a.grownBy b (some r)) : F2 p r a b := ⟨h.os, h.tape, h.output, h.size, fun k hk _ h2 => h.block k hk (by simpa using h2)⟩
theorem F2.trans {p r : Nat} {a b c : World} (h : F2 p r a b) (k : F2 p r b c) : F2 p r a c :=
  ⟨k.os.trans h.os, k.tape.trans h.tape, k.output.trans h.output, Nat.le_trans h.size k.size, fun i hi h1 h2 => (k.block i (Nat.lt_of_lt_of_le hi h.size) h1 h2).trans (h.block i hi h1 h2)⟩
theorem F2.below {p r B : Nat} {a b : World} (h : F2 p r a b) (h1 : B ≤ p) (h2 : B ≤ r) (hB : B ≤ a.heap.size) : Below B a b :=
  ⟨h.os, h.tape, h.output, h.size, fun k hk => h.block k (by omega) (by omega) (by omega)⟩
section
variable {w w' : World} {p r N : Nat} {t : Int} {f : Ws}
theorem Rf.ne (h : Rf w p r N t f) : p ≠ r := h.blk.ne h.row (by decide)
theorem Rf.below (h : Rf w p r N t f) (hb : Below w.heap.size w w') : Rf w' p r N t f := ⟨h.blk.below hb h.blk.lt, h.row.below hb h.row.lt⟩
theorem Rf.stamp (h : Rf w p r N t f) (t' : Int) : Rf (w.setCell ⟨p, 1, none⟩ (.int .u64 t')) p r N t' f := ⟨h.blk.set (i := 1) _, h.row.far _ h.ne⟩
theorem Rf.put (h : Rf w p r N t f) (k : Nat) (x : Int) : Rf (w.setCell ⟨r, k, none⟩ (.int .u64 x)) p r N t (upf f k x) :=
  ⟨h.blk.far _ h.ne.symm, by have := h.row.set (i := k) (.int .u64 x); rwa [rl_set] at this⟩
theorem Rf.c0 (h : Rf w p r N t f) : w.cell? ⟨p, 0, none⟩ = some (.slice (some ⟨r, 0, none⟩) N N) := h.blk.cell
theorem Rf.c1 (h : Rf w p r N t f) : w.cell? ⟨p, 1, none⟩ = some (.int .u64 t) := h.blk.cell
theorem Rf.cw (h : Rf w p r N t f) {j : Nat} (hj : j < N) : w.cell? ⟨r, j, none⟩ = some (.int .u64 (f j)) := by rw [h.row.cell, rl_at f hj]
end

/-! ### New -/
theorem word_info : (Tryz.prog.info? 39).map (fun i => (i.zero, i.size, i.bytes)) = some (some (.int .u64 0), 1, 8) := by kernel_rfl
theorem make_words (n : Nat) (hn : n ≤ 4096) (W : World) :
    (Instr.makeSlice 41 (.int .i64 (n : Int)) (.int .i64 (n : Int))).run Tryz.prog W = .ok (.slice (some ⟨W.heap.size, 0, none⟩) n n) (W.alloc (.cells (madeCells #[.int .u64 0] n) 39)) := by
  obtain ⟨i, hi, hp⟩ := Option.map_eq_some_iff.1 word_info
  simp only [Prod.mk.injEq] at hp
  obtain ⟨hz, hs, hb⟩ := hp
  have := run_make (P := Tryz.prog) W 41 39 i (.int .u64 0) Tryz.underlying41 hi hz .i64 .i64 n n (by omega) (by omega) (by rw [hb]; omega) (by omega)
  rw [hs] at this
  simpa [Value.cells] using this
theorem made_rl (n : Nat) : madeCells #[.int .u64 0] n = (rl f0 n).toArray := by
  apply Array.ext_getElem?
  intro i
  unfold madeCells rl
  by_cases hi : i < n
  · simp [hi, Nat.mod_one, f0]
  · rw [Array.getElem?_eq_none (by simp; omega), Array.getElem?_eq_none (by simp; omega)]
theorem rnew_no (n : Int) (w : World) (h : ¬ (0 ≤ n ∧ n ≤ 4096)) : Calls Tryz.prog 46 #[.int .i64 n] w fun e w' => e = .returned (.tuple #[.pointer none, .int .i64 11]) ∧ w = w' := by
  by_cases h0 : n < 0
  · have d0 : decide (n < 0) = true := by simpa using h0
    go_enter Tryz.func46, Tryz.ntmps46
    go_wp2
    go_ret2
    exact ⟨rfl, rfl⟩
  · have d0 : decide (n < 0) = false := by simpa using h0
    have d1 : decide (4096 < n) = true := by simp; omega
    clear h
    go_enter Tryz.func46, Tryz.ntmps46
    go_wp2
    go_ret2
    exact ⟨rfl, rfl⟩
theorem rnew_yes (N : Nat) (w : World) (h1 : N ≤ 4096) :
    Calls Tryz.prog 46 #[.int .i64 (N : Int)] w fun e w' => ∃ p r, e = .returned (.tuple #[.pointer (some ⟨p, 0, none⟩), .int .i64 0]) ∧ Rf w' p r N 0 f0 ∧ w.heap.size ≤ p ∧ w.heap.size ≤ r ∧ Below w.heap.size w w' := by
  have d1 : decide ((4096 : Int) < (N : Int)) = false := by simp; omega
  have d0 : decide ((N : Int) < 0) = false := by simp
  have hmk := make_words N h1
  rw [made_rl] at hmk
  have HR : Hid (Rf ((w.alloc (.cells (rl f0 N).toArray 39)).alloc (.cells #[.slice (some ⟨w.heap.size, 0, none⟩) N N, .int .u64 0] 43)) (w.heap.size + 1) w.heap.size N 0 f0) :=
    ⟨heap_alloc2_new w _ _, Blk.alloc (heap_alloc_last w _) _⟩
  have HB := Lib.hid (up_alloc (up_alloc (Below.refl _ w) (.cells (rl f0 N).toArray 39)) (.cells #[.slice (some ⟨w.heap.size, 0, none⟩) N N, .int .u64 0] 43))
  go_enter Tryz.func46, Tryz.ntmps46
  go_wp2
  go_ret2
  exact ⟨_, _, rfl, HR.out, by omega, Nat.le_refl _, HB.out⟩

/-! ### What it is asked -/
section
variable {w : World} {p r N : Nat} {t : Int} {f : Ws}
theorem rin_any (P k : Int) (h : Rf w p r N t f) (hN : N ≤ 4096) :
    Calls Tryz.prog 109 #[.pointer (some ⟨p, 0, none⟩), .int .i64 P, .int .i64 k] w fun e w' => e = .returned (.bool (inB (N : Int) P k)) ∧ w = w' := by
  have c0 := h.c0
  clear h
  by_cases h0 : 1 ≤ k
  · have d0 : decide (1 ≤ k) = true := by simpa using h0
    by_cases h1 : 0 ≤ P
    · have d1 : decide (0 ≤ P) = true := by simpa using h1
      by_cases h2 : P ≤ (N : Int)
      · have d2 : decide (P ≤ (N : Int)) = true := by simpa using h2
        have e : inB (N : Int) P k = decide (k ≤ (N : Int) - P) := by unfold inB; rw [decide_eq_decide]; omega
        rw [e]
        clear e
        go_enter Tryz.func109, Tryz.ntmps109
        go_wp2
        go_ret
        exact ⟨rfl, rfl⟩
      · have d2 : decide (P ≤ (N : Int)) = false := by simpa using h2
        have e : inB (N : Int) P k = false := inB_no.2 (by omega)
        rw [e]
        go_enter Tryz.func109, Tryz.ntmps109
        go_wp2
        go_ret
        exact ⟨rfl, rfl⟩
    · have d1 : decide (0 ≤ P) = false := by simpa using h1
      have e : inB (N : Int) P k = false := inB_no.2 (by omega)
      rw [e]
      go_enter Tryz.func109, Tryz.ntmps109
      go_wp2
      go_ret
      exact ⟨rfl, rfl⟩
  · have d0 : decide (1 ≤ k) = false := by simpa using h0
    have e : inB (N : Int) P k = false := inB_no.2 (by omega)
    rw [e]
    go_enter Tryz.func109, Tryz.ntmps109
    go_wp2
    go_ret
    exact ⟨rfl, rfl⟩
end
theorem right_entry (a b c d : Int) (w : World) :
    Calls Tryz.prog 110 #[.agg #[.int .i64 a, .int .i64 b, .int .i64 c, .int .i64 d]] w fun e w' => e = .returned (.bool (okB a b c d)) ∧ Below w.heap.size w w' := by
  have HB := Lib.hid (up_alloc (Below.refl _ w) (.cells #[.int .i64 a, .int .i64 b, .int .i64 c, .int .i64 d] 55))
  by_cases h0 : 0 ≤ a
  · have dh0 : decide (0 ≤ a) = true := by simpa using h0
    by_cases h1 : a ≤ 4095
    · have dh1 : decide (a ≤ 4095) = true := by simpa using h1
      by_cases h2 : 0 ≤ b
      · have dh2 : decide (0 ≤ b) = true := by simpa using h2
        by_cases h3 : b ≤ 3
        · have dh3 : decide (b ≤ 3) = true := by simpa using h3
          by_cases h4 : 0 ≤ c
          · have dh4 : decide (0 ≤ c) = true := by simpa using h4
            by_cases h5 : c ≤ 63
            · have dh5 : decide (c ≤ 63) = true := by simpa using h5
              by_cases h6 : 0 ≤ d
              · have dh6 : decide (0 ≤ d) = true := by simpa using h6
                by_cases h7 : d ≤ 7
                · have dh7 : decide (d ≤ 7) = true := by simpa using h7
                  have e : okB a b c d = true := okB_iff.2 (by omega)
                  rw [e]
                  go_enter Tryz.func110, Tryz.ntmps110
                  go_wp2
                  go_ret
                  exact ⟨rfl, HB.out⟩
                · have dh7 : decide (d ≤ 7) = false := by simpa using h7
                  have e : okB a b c d = false := Bool.eq_false_iff.2 (fun hh => by have := okB_iff.1 hh; omega)
                  rw [e]
                  go_enter Tryz.func110, Tryz.ntmps110
                  go_wp2
                  go_ret
                  exact ⟨rfl, HB.out⟩
              · have dh6 : decide (0 ≤ d) = false := by simpa using h6
                have e : okB a b c d = false := Bool.eq_false_iff.2 (fun hh => by have := okB_iff.1 hh; omega)
                rw [e]
                go_enter Tryz.func110, Tryz.ntmps110
                go_wp2
                go_ret
                exact ⟨rfl, HB.out⟩
            · have dh5 : decide (c ≤ 63) = false := by simpa using h5
              have e : okB a b c d = false := Bool.eq_false_iff.2 (fun hh => by have := okB_iff.1 hh; omega)
              rw [e]
              go_enter Tryz.func110, Tryz.ntmps110
              go_wp2
              go_ret
              exact ⟨rfl, HB.out⟩
          · have dh4 : decide (0 ≤ c) = false := by simpa using h4
            have e : okB a b c d = false := Bool.eq_false_iff.2 (fun hh => by have := okB_iff.1 hh; omega)
            rw [e]
            go_enter Tryz.func110, Tryz.ntmps110
            go_wp2
            go_ret
            exact ⟨rfl, HB.out⟩
        · have dh3 : decide (b ≤ 3) = false := by simpa using h3
          have e : okB a b c d = false := Bool.eq_false_iff.2 (fun hh => by have := okB_iff.1 hh; omega)
          rw [e]
          go_enter Tryz.func110, Tryz.ntmps110
          go_wp2
          go_ret
          exact ⟨rfl, HB.out⟩
      · have dh2 : decide (0 ≤ b) = false := by simpa using h2
        have e : okB a b c d = false := Bool.eq_false_iff.2 (fun hh => by have := okB_iff.1 hh; omega)
        rw [e]
        go_enter Tryz.func110, Tryz.ntmps110
        go_wp2
        go_ret
        exact ⟨rfl, HB.out⟩
    · have dh1 : decide (a ≤ 4095) = false := by simpa using h1
      have e : okB a b c d = false := Bool.eq_false_iff.2 (fun hh => by have := okB_iff.1 hh; omega)
      rw [e]
      go_enter Tryz.func110, Tryz.ntmps110
      go_wp2
      go_ret
      exact ⟨rfl, HB.out⟩
  · have dh0 : decide (0 ≤ a) = false := by simpa using h0
    have e : okB a b c d = false := Bool.eq_false_iff.2 (fun hh => by have := okB_iff.1 hh; omega)
    rw [e]
    go_enter Tryz.func110, Tryz.ntmps110
    go_wp2
    go_ret
    exact ⟨rfl, HB.out⟩
end Go.Proofs.YtjnknnakllbaaaaGreat.Ra
