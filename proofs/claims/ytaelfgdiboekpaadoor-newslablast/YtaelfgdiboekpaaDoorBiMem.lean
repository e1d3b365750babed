/-
  What a row of bits is, as the walk meets it: the words' block, and the cell that names it; laws on both that the claimed proofs use.
-/
import Derived.Test.YtaelfgdiboekpaaDoorRows
import Derived.Test.YtaelfgdiboekpaaDoorBiPop
import Derived.WalkKit
import Derived.WalkSpells
import Derived.WalkLawsBesides
import Derived.Deep.QuietTactic
import Derived.BigQuiet
import Derived.Deep.RegionHeld3
import Derived.Deep.RegionLaw
import Derived.Deep.AppendLies
import Derived.Laws.AppendOwnNone
import Derived.Laws.CopyOwn
import Derived.Deep.OwnRows
import Derived.Lib.Hide
namespace Go.Proofs.YtaelfgdiboekpaaDoor.Bi
set_option maxRecDepth 100000
open Go.RowKit

theorem ret_u {a b : Int} (h : a = b) : Ending.returned (.int .u64 a) = .returned (.int .u64 b) := by rw [h]
theorem ret_i {a b : Int} (h : a = b) : Ending.returned (.int .i64 a) = .returned (.int .i64 b) := by rw [h]
theorem ret_b {a b : Bool} (h : a = b) : Ending.returned (.bool a) = .returned (.bool b) := by rw [h]

/-! ### Worlds -/
theorem grown_refl (w : World) (r : Option Nat) : w.grownBy w r := ⟨rfl, rfl, rfl, Nat.le_refl _, fun _ _ _ => rfl⟩
theorem grown_trans {a b c : World} {r : Option Nat} (h : a.grownBy b r) (k : b.grownBy c r) : a.grownBy c r :=
  ⟨k.os.trans h.os, k.tape.trans h.tape, k.output.trans h.output, Nat.le_trans h.size k.size, fun i hi hr => (k.block i (Nat.lt_of_lt_of_le hi h.size) hr).trans (h.block i hi hr)⟩
theorem grown_drew {a b : World} {r : Option Nat} (h : a.grownBy b r) : a.grownBy b.drew r := ⟨h.os, h.tape, h.output, h.size, h.block⟩
theorem grown_set {a b : World} {g i : Nat} {v : Value} (h : a.grownBy b (some g)) : a.grownBy (b.setCell ⟨g, i, none⟩ v) (some g) :=
  grown_trans h ⟨rfl, rfl, rfl, by simp [World.setCell], fun k _ hr => Below.heap_setCell _ _ _ _ (fun e => hr (by rw [e]))⟩
theorem grown_below {a b : World} {r : Option Nat} (h : Below a.heap.size a b) : a.grownBy b r := ⟨h.os, h.tape, h.output, h.size, fun k hk _ => h.block k hk⟩
theorem below_grown {B g : Nat} {a b c : World} (h : Below B a b) (k : b.grownBy c (some g)) (hB : B ≤ b.heap.size) (hg : B ≤ g) : Below B a c := h.grown k hB (fun _ e => by cases e; exact hg)
theorem up_trans {w W w2 : World} (h : Below w.heap.size w W) (h2 : Below W.heap.size W w2) : Below w.heap.size w w2 := h.trans (h2.mono h.size)
theorem up_alloc {w W : World} (h : Below w.heap.size w W) (o : Obj) : Below w.heap.size w (W.alloc o) := h.alloc h.size o
theorem up_drew {w W : World} (h : Below w.heap.size w W) : ∀ k, Below w.heap.size w (W.drewN k)
  | 0 => h
  | k + 1 => (up_drew h k).drew
theorem cell_alloc {w : World} {p : Addr} (o : Obj) (h : p.block < w.heap.size) : (w.alloc o).cell? p = w.cell? p := ((Below.refl _ w).alloc (Nat.le_refl _) o).cell h
theorem i64_in (n : Int) (h0 : 0 ≤ n) (h1 : n ≤ 4611686018427387904) : IntKind.i64.wrap n = n := by rw [IntKind.wrap_i64]; omega

/-! ### The library's table -/
def Tab (w : World) : Prop := ∀ j, j < 64 → w.cell? ⟨0, j, none⟩ = some (.int .u8 ((Lib.deBruijn64tab.getD j 0 : Nat) : Int))
theorem Tab.lt {w : World} (h : Tab w) : 0 < w.heap.size := World.block_lt_of_cell? w ⟨0, 0, none⟩ (h 0 (by omega))
theorem Tab.below {w w' : World} (h : Tab w) (hb : Below w.heap.size w w') : Tab w' := fun j hj => (hb.cell (p := ⟨0, j, none⟩) h.lt).trans (h j hj)
theorem cell_of_block {w w' : World} {g i : Nat} (e : w'.heap[g]? = w.heap[g]?) : w'.cell? ⟨g, i, none⟩ = w.cell? ⟨g, i, none⟩ := by simp [World.cell?, e]
theorem Tab.grown {w w' : World} {g : Nat} (h : Tab w) (hb : w.grownBy w' (some g)) (hg : 0 < g) : Tab w' := fun j hj =>
  (cell_of_block (hb.block 0 h.lt (by simp; omega))).trans (h j hj)

/-! ### Rows of cells -/
/-- A block of just these cells. -/
def Blk (w : World) (g : Nat) (vs : List Value) (t : TypeId) : Prop := w.heap[g]? = some (.cells vs.toArray t (0, 0))
theorem Blk.cell {w : World} {g i : Nat} {vs : List Value} {t : TypeId} (h : Blk w g vs t) : w.cell? ⟨g, i, none⟩ = vs[i]? := by
  rw [cell_of_row w g i _ t (0, 0) h]; simp
theorem Blk.frozen {w : World} {g : Nat} {vs : List Value} {t : TypeId} (h : Blk w g vs t) (i : Nat) : w.frozen? ⟨g, i, none⟩ = false := frozen_of_row w g i _ t h
theorem Blk.lt {w : World} {g : Nat} {vs : List Value} {t : TypeId} (h : Blk w g vs t) : g < w.heap.size := (Array.getElem?_eq_some_iff.1 h).1
theorem Blk.of {w w' : World} {g : Nat} {vs : List Value} {t : TypeId} (h : Blk w g vs t) (e : w'.heap[g]? = w.heap[g]?) : Blk w' g vs t := e.trans h
theorem Blk.below {w w' : World} {g : Nat} {vs : List Value} {t : TypeId} (h : Blk w g vs t) (hb : Below w.heap.size w w') : Blk w' g vs t := h.of (hb.block g h.lt)
theorem Blk.far {w w' : World} {g k : Nat} {vs : List Value} {t : TypeId} (h : Blk w g vs t) (hb : w.grownBy w' (some k)) (hk : g ≠ k) : Blk w' g vs t := h.of (hb.block g h.lt (by simpa using hk))
theorem Blk.set {w : World} {g i : Nat} {vs : List Value} {t : TypeId} (h : Blk w g vs t) (v : Value) : Blk (w.setCell ⟨g, i, none⟩ v) g (vs.set i v) t := by
  have := heap_setCell_same w g i _ t v h
  unfold Blk
  rw [this]
  simp
theorem Blk.made (w : World) (v : Value) (n : Nat) (t : TypeId) : Blk (w.alloc (.cells (madeCells #[v] n) t)) w.heap.size (List.replicate n v) t := by
  unfold Blk
  rw [heap_alloc_new]
  congr 2
  apply Array.ext'
  rw [toList_madeCells_one]
def wrow (ws : List (BitVec 64)) : List Value := ws.map fun x => Value.int .u64 (u x)
def brow (l : List Bool) : List Value := l.map Value.bool
theorem wrow_length (ws : List (BitVec 64)) : (wrow ws).length = ws.length := by simp [wrow]
theorem wrow_one (ws : List (BitVec 64)) : ∀ v ∈ wrow ws, v.oneCell' = true := by
  intro v hv; obtain ⟨x, _, rfl⟩ := List.mem_map.1 hv; rfl
theorem wrow_get {ws : List (BitVec 64)} {i : Nat} (h : i < ws.length) : (wrow ws)[i]? = some (.int .u64 (u (ws.getD i 0#64))) := by
  rw [wrow, List.getElem?_map, List.getD_eq_getElem?_getD, List.getElem?_eq_getElem h]; rfl
theorem brow_get {l : List Bool} {i : Nat} (h : i < l.length) : (brow l)[i]? = some (.bool (l.getD i false)) := by
  rw [brow, List.getElem?_map, List.getD_eq_getElem?_getD, List.getElem?_eq_getElem h]; rfl
theorem wrow_set (ws : List (BitVec 64)) (i : Nat) (x : BitVec 64) : (wrow ws).set i (.int .u64 (u x)) = wrow (ws.set i x) := by simp [wrow, List.map_set]
theorem brow_set (l : List Bool) (i : Nat) (x : Bool) : (brow l).set i (.bool x) = brow (l.set i x) := by simp [brow, List.map_set]

/-! ### Rows of bits -/
/-- These words are those bits. -/
def Fits (l : List Bool) (ws : List (BitVec 64)) : Prop := ws.length = (l.length + 63) / 64 ∧ ∀ i j, j < 64 → (ws.getD i 0#64).getLsbD j = l.getD (64 * i + j) false
/-- A row of bits: the block q names the words' block g. -/
def Bits (w : World) (q g : Nat) (l : List Bool) (ws : List (BitVec 64)) : Prop :=
  Blk w q [.int .i64 (l.length : Int), .slice (some ⟨g, 0, none⟩) ws.length ws.length] 126 ∧ Blk w g (wrow ws) 22 ∧ Fits l ws ∧ l.length ≤ 4096 ∧ 0 < q ∧ 0 < g
theorem Bits.n {w : World} {q g : Nat} {l : List Bool} {ws : List (BitVec 64)} (h : Bits w q g l ws) : w.cell? ⟨q, 0, none⟩ = some (.int .i64 (l.length : Int)) := h.1.cell
theorem Bits.words {w : World} {q g : Nat} {l : List Bool} {ws : List (BitVec 64)} (h : Bits w q g l ws) : w.cell? ⟨q, 1, none⟩ = some (.slice (some ⟨g, 0, none⟩) ws.length ws.length) := h.1.cell
theorem Bits.word {w : World} {q g : Nat} {l : List Bool} {ws : List (BitVec 64)} (h : Bits w q g l ws) {i : Nat} (hi : i < ws.length) : w.cell? ⟨g, i, none⟩ = some (.int .u64 (u (ws.getD i 0#64))) := by
  rw [h.2.1.cell, wrow_get hi]
theorem Bits.ne {w : World} {q g : Nat} {l : List Bool} {ws : List (BitVec 64)} (h : Bits w q g l ws) : q ≠ g := fun e => by
  have h1 := h.1; rw [e, Blk, h.2.1] at h1; simp at h1
theorem Bits.below {w w' : World} {q g : Nat} {l : List Bool} {ws : List (BitVec 64)} (h : Bits w q g l ws) (hb : Below w.heap.size w w') : Bits w' q g l ws := ⟨h.1.below hb, h.2.1.below hb, h.2.2⟩
theorem Bits.far {w w' : World} {q g k : Nat} {l : List Bool} {ws : List (BitVec 64)} (h : Bits w q g l ws) (hb : w.grownBy w' (some k)) (h1 : q ≠ k) (h2 : g ≠ k) : Bits w' q g l ws := ⟨h.1.far hb h1, h.2.1.far hb h2, h.2.2⟩
theorem Bits.many {w : World} {q g : Nat} {l : List Bool} {ws : List (BitVec 64)} (h : Bits w q g l ws) : ws.length = (l.length + 63) / 64 ∧ ws.length ≤ 64 ∧ l.length ≤ 4096 := by
  have := h.2.2.1.1; have := h.2.2.2.1; omega
theorem fits_none (n : Nat) : Fits (List.replicate n false) (List.replicate ((n + 63) / 64) 0#64) := by
  refine ⟨by simp, fun i j hj => ?_⟩
  have e1 : (List.replicate ((n + 63) / 64) 0#64).getD i 0#64 = 0#64 := by
    rw [List.getD_eq_getElem?_getD, List.getElem?_replicate]; split <;> rfl
  have e2 : (List.replicate n false).getD (64 * i + j) false = false := by
    rw [List.getD_eq_getElem?_getD, List.getElem?_replicate]; split <;> rfl
  rw [e1, e2]; simp
theorem fits_set {l : List Bool} {ws : List (BitVec 64)} (h : Fits l ws) (k : Nat) (hk : k < l.length) (b : Bool) (x : BitVec 64)
    (hx : ∀ j, j < 64 → x.getLsbD j = if j = k % 64 then b else (ws.getD (k / 64) 0#64).getLsbD j) : Fits (l.set k b) (ws.set (k / 64) x) := by
  have hw := h.1
  refine ⟨by simpa using h.1, fun i j hj => ?_⟩
  rw [List.getD_eq_getElem?_getD, List.getD_eq_getElem?_getD, List.getElem?_set, List.getElem?_set]
  by_cases e : k / 64 = i
  · subst e
    rw [if_pos rfl, if_pos (by omega), Option.getD_some, hx j hj]
    by_cases e2 : j = k % 64
    · rw [if_pos e2, if_pos (by omega), if_pos hk]; rfl
    · rw [if_neg e2, if_neg (by omega), h.2 _ j hj, List.getD_eq_getElem?_getD]
  · rw [if_neg e, if_neg (by omega), ← List.getD_eq_getElem?_getD, ← List.getD_eq_getElem?_getD]
    exact h.2 i j hj
theorem fits_one {l : List Bool} {xs ys : List (BitVec 64)} (h : Fits l xs) (k : Fits l ys) : xs = ys := by
  apply List.ext_getElem?
  intro i
  have hl : xs.length = ys.length := h.1.trans k.1.symm
  by_cases hi : i < xs.length
  · have e : xs.getD i 0#64 = ys.getD i 0#64 := BitVec.eq_of_getLsbD_eq (fun j hj => (h.2 i j hj).trans (k.2 i j hj).symm)
    rw [List.getD_eq_getElem?_getD, List.getD_eq_getElem?_getD, List.getElem?_eq_getElem hi, List.getElem?_eq_getElem (by omega)] at e
    rw [List.getElem?_eq_getElem hi, List.getElem?_eq_getElem (by omega)]
    exact congrArg some e
  · rw [List.getElem?_eq_none (by omega), List.getElem?_eq_none (by omega)]

theorem word_info : (Tryd.prog.info? 22).map (fun i => (i.zero, i.size, i.bytes)) = some (some (.int .u64 0), 1, 8) := by kernel_rfl
theorem word_size : (Tryd.prog.info? 22).map (·.size) = some 1 := by kernel_rfl
theorem int_info : (Tryd.prog.info? 3).map (fun i => (i.zero, i.size, i.bytes)) = some (some (.int .i64 0), 1, 8) := by kernel_rfl
theorem make_words (n : Nat) (hn : n ≤ 4096) (W : World) :
    (Instr.makeSlice 95 (.int .i64 (n : Int)) (.int .i64 (n : Int))).run Tryd.prog W = .ok (.slice (some ⟨W.heap.size, 0, none⟩) n n) (W.alloc (.cells (madeCells #[.int .u64 0] n) 22)) := by
  obtain ⟨i, hi, hp⟩ := Option.map_eq_some_iff.1 word_info
  simp only [Prod.mk.injEq] at hp
  obtain ⟨hz, hs, hb⟩ := hp
  have := run_make (P := Tryd.prog) W 95 22 i (.int .u64 0) Tryd.underlying95 hi hz .i64 .i64 n n (by omega) (by omega) (by rw [hb]; omega) (by omega)
  rw [hs] at this
  simpa [Value.cells] using this
theorem make_ints (n : Nat) (hn : n ≤ 4096) (W : World) :
    (Instr.makeSlice 30 (.int .i64 0) (.int .i64 (n : Int))).run Tryd.prog W = .ok (.slice (some ⟨W.heap.size, 0, none⟩) 0 n) (W.alloc (.cells (madeCells #[.int .i64 0] n) 3)) := by
  obtain ⟨i, hi, hp⟩ := Option.map_eq_some_iff.1 int_info
  simp only [Prod.mk.injEq] at hp
  obtain ⟨hz, hs, hb⟩ := hp
  have := run_make (P := Tryd.prog) W 30 3 i (.int .i64 0) Tryd.underlying30 hi hz .i64 .i64 0 n (by omega) (by omega) (by rw [hb]; omega) (by omega)
  rw [hs] at this
  simpa [Value.cells] using this
end Go.Proofs.YtaelfgdiboekpaaDoor.Bi
