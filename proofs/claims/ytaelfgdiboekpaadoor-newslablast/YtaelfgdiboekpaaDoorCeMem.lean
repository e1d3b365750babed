/-
  What a memory is, as the walk meets it: a row of bytes, and the cell that names it; laws on both that the claimed proofs use.
-/
import Derived.Test.YtaelfgdiboekpaaDoorRows
import Derived.Test.YtaelfgdiboekpaaDoorCeBase
import Derived.WalkKit
import Derived.WalkSpells
import Derived.WalkLawsBesides
import Derived.Deep.QuietTactic
import Derived.BigQuiet
import Derived.Deep.RegionHeld3
import Derived.Deep.RegionLaw
import Derived.Deep.AppendLies
import Derived.Laws.AppendOwnNone
import Derived.Laws.CopyOwn
import Derived.Deep.OwnRows
import Derived.Lib.Hide
namespace Go.Proofs.YtaelfgdiboekpaaDoor.Ce
set_option maxRecDepth 100000
open Go.RowKit

theorem ret_u {a b : Int} (h : a = b) : Ending.returned (.int .u64 a) = .returned (.int .u64 b) := by rw [h]
theorem ret_b {a b : Bool} (h : a = b) : Ending.returned (.bool a) = .returned (.bool b) := by rw [h]
theorem ret_ue {a b : Int} {c : Int} (h : a = b) : Ending.returned (.tuple #[.int .u64 a, .int .i64 c]) = .returned (.tuple #[.int .u64 b, .int .i64 c]) := by rw [h]

/-! ### Worlds -/
theorem grown_refl (w : World) (r : Option Nat) : w.grownBy w r := ⟨rfl, rfl, rfl, Nat.le_refl _, fun _ _ _ => rfl⟩
theorem grown_trans {a b c : World} {r : Option Nat} (h : a.grownBy b r) (k : b.grownBy c r) : a.grownBy c r :=
  ⟨k.os.trans h.os, k.tape.trans h.tape, k.output.trans h.output, Nat.le_trans h.size k.size, fun i hi hr => (k.block i (Nat.lt_of_lt_of_le hi h.size) hr).trans (h.block i hi hr)⟩
theorem grown_drew {a b : World} {r : Option Nat} (h : a.grownBy b r) : a.grownBy b.drew r := ⟨h.os, h.tape, h.output, h.size, h.block⟩
theorem grown_set {a b : World} {g i : Nat} {v : Value} (h : a.grownBy b (some g)) : a.grownBy (b.setCell ⟨g, i, none⟩ v) (some g) :=
  grown_trans h ⟨rfl, rfl, rfl, by simp [World.setCell], fun k _ hr => Below.heap_setCell _ _ _ _ (fun e => hr (by rw [e]))⟩
theorem grown_below {a b : World} {r : Option Nat} (h : Below a.heap.size a b) : a.grownBy b r := ⟨h.os, h.tape, h.output, h.size, fun k hk _ => h.block k hk⟩
theorem below_grown {B g : Nat} {a b c : World} (h : Below B a b) (k : b.grownBy c (some g)) (hB : B ≤ b.heap.size) (hg : B ≤ g) : Below B a c := h.grown k hB (fun _ e => by cases e; exact hg)
theorem up_trans {w W w2 : World} (h : Below w.heap.size w W) (h2 : Below W.heap.size W w2) : Below w.heap.size w w2 := h.trans (h2.mono h.size)
theorem up_alloc {w W : World} (h : Below w.heap.size w W) (o : Obj) : Below w.heap.size w (W.alloc o) := h.alloc h.size o
theorem up_drew {w W : World} (h : Below w.heap.size w W) : ∀ k, Below w.heap.size w (W.drewN k)
  | 0 => h
  | k + 1 => (up_drew h k).drew

/-! ### Rows -/
def row (bs : List (BitVec 8)) : List Value := bs.map fun x => Value.int .u8 (y x)
theorem row_length (bs : List (BitVec 8)) : (row bs).length = bs.length := by simp [row]
theorem row_one (bs : List (BitVec 8)) : ∀ v ∈ row bs, v.oneCell' = true := by
  intro v hv; obtain ⟨x, _, rfl⟩ := List.mem_map.1 hv; rfl
theorem row_splice (L cs : List (BitVec 8)) (off : Nat) : splice (row L) off (row cs) = row (splice L off cs) := by simp [splice, row]
theorem row_get {bs : List (BitVec 8)} {i : Nat} (h : i < bs.length) : (row bs)[i]? = some (.int .u8 (y (bs.getD i 0#8))) := by
  rw [row, List.getElem?_map, List.getD_eq_getElem?_getD, List.getElem?_eq_getElem h]; rfl
/-- A row of bytes, a block whole. -/
def Row (w : World) (g : Nat) (bs : List (BitVec 8)) : Prop := w.heap[g]? = some (.cells (row bs).toArray 5 (0, 0))
/-- A memory: the cell at q names the row g. -/
def Mem (w : World) (q g : Nat) (bs : List (BitVec 8)) : Prop := w.heap[q]? = some (.cells #[.slice (some ⟨g, 0, none⟩) bs.length bs.length] 98 (0, 0)) ∧ Row w g bs ∧ bs.length ≤ 1048576
theorem Row.cell {w : World} {g i : Nat} {bs : List (BitVec 8)} (h : Row w g bs) (hi : i < bs.length) : w.cell? ⟨g, i, none⟩ = some (.int .u8 (y (bs.getD i 0#8))) := by
  rw [cell_of_row w g i _ 5 (0, 0) h]; simpa using row_get hi
theorem Row.frozen {w : World} {g : Nat} {bs : List (BitVec 8)} (h : Row w g bs) (i : Nat) : w.frozen? ⟨g, i, none⟩ = false := frozen_of_row w g i _ 5 h
theorem Row.lt {w : World} {g : Nat} {bs : List (BitVec 8)} (h : Row w g bs) : g < w.heap.size := (Array.getElem?_eq_some_iff.1 h).1
theorem Row.of_block {w w' : World} {g : Nat} {bs : List (BitVec 8)} (h : Row w g bs) (e : w'.heap[g]? = w.heap[g]?) : Row w' g bs := e.trans h
theorem Row.set {w : World} {g i : Nat} {bs : List (BitVec 8)} (h : Row w g bs) (x : BitVec 8) : Row (w.setCell ⟨g, i, none⟩ (.int .u8 (y x))) g (bs.set i x) := by
  have := heap_setCell_same w g i _ 5 (.int .u8 (y x)) h
  unfold Row
  rw [this, row, row, List.map_set]
  simp
theorem Row.made (w : World) (n : Nat) : Row (w.alloc (.cells (madeCells #[.int .u8 0] n) 5)) w.heap.size (List.replicate n 0#8) := by
  unfold Row
  rw [heap_alloc_new]
  congr 2
  apply Array.ext'
  rw [toList_madeCells_one]
  simp [row, y]
theorem Mem.cell {w : World} {q g : Nat} {bs : List (BitVec 8)} (h : Mem w q g bs) : w.cell? ⟨q, 0, none⟩ = some (.slice (some ⟨g, 0, none⟩) bs.length bs.length) := by
  rw [cell_of_row w q 0 _ 98 (0, 0) h.1]; rfl
theorem Mem.lt {w : World} {q g : Nat} {bs : List (BitVec 8)} (h : Mem w q g bs) : q < w.heap.size := (Array.getElem?_eq_some_iff.1 h.1).1
theorem Mem.ne {w : World} {q g : Nat} {bs : List (BitVec 8)} (h : Mem w q g bs) : q ≠ g := fun e => by
  have h1 := h.1; rw [e, h.2.1] at h1; simp at h1
theorem Mem.of_blocks {w w' : World} {q g : Nat} {bs : List (BitVec 8)} (h : Mem w q g bs) (e : w'.heap[q]? = w.heap[q]?) (e2 : w'.heap[g]? = w.heap[g]?) : Mem w' q g bs := ⟨e.trans h.1, h.2.1.of_block e2, h.2.2⟩
theorem Mem.below {w w' : World} {q g : Nat} {bs : List (BitVec 8)} (h : Mem w q g bs) (hb : Below w.heap.size w w') : Mem w' q g bs := h.of_blocks (hb.block q h.lt) (hb.block g h.2.1.lt)
theorem Mem.far {w w' : World} {q g k : Nat} {bs : List (BitVec 8)} (h : Mem w q g bs) (hb : w.grownBy w' (some k)) (h1 : q ≠ k) (h2 : g ≠ k) : Mem w' q g bs :=
  h.of_blocks (hb.block q h.lt (by simpa using h1)) (hb.block g h.2.1.lt (by simpa using h2))
theorem Mem.turned {w w' : World} {q g : Nat} {bs cs : List (BitVec 8)} (h : Mem w q g bs) (hb : w.grownBy w' (some g)) (hr : Row w' g cs) (hl : cs.length = bs.length) : Mem w' q g cs := by
  refine ⟨?_, hr, by rw [hl]; exact h.2.2⟩
  rw [hb.block q h.lt (by simpa using h.ne), h.1, hl]
theorem Mem.drew {w : World} {q g : Nat} {bs : List (BitVec 8)} (h : Mem w q g bs) : Mem w.drew q g bs := h
theorem Mem.made (w : World) (n : Nat) (hn : n ≤ 1048576) : Mem ((w.alloc (.cells (madeCells #[.int .u8 0] n) 5)).alloc (.cells #[.slice (some ⟨w.heap.size, 0, none⟩) n n] 98)) (w.heap.size + 1) w.heap.size (List.replicate n 0#8) := by
  refine ⟨?_, ?_, by simpa using hn⟩
  · have := heap_alloc_new (w.alloc (.cells (madeCells #[.int .u8 0] n) 5)) (.cells #[.slice (some ⟨w.heap.size, 0, none⟩) n n] 98)
    simpa using this
  · exact (Row.made w n).of_block (Below.heap_alloc _ _ _ (by simp))

theorem byte_info : (Tryd.prog.info? 5).map (fun i => (i.zero, i.size, i.bytes)) = some (some (.int .u8 0), 1, 1) := by kernel_rfl
theorem byte_size : (Tryd.prog.info? 5).map (·.size) = some 1 := by kernel_rfl
theorem make_bytes (n : Nat) (hn : n ≤ 1048576) (W : World) :
    (Instr.makeSlice 45 (.int .i64 (n : Int)) (.int .i64 (n : Int))).run Tryd.prog W = .ok (.slice (some ⟨W.heap.size, 0, none⟩) n n) (W.alloc (.cells (madeCells #[.int .u8 0] n) 5)) := by
  obtain ⟨i, hi, hp⟩ := Option.map_eq_some_iff.1 byte_info
  simp only [Prod.mk.injEq] at hp
  obtain ⟨hz, hs, hb⟩ := hp
  have := run_make (P := Tryd.prog) W 45 5 i (.int .u8 0) Tryd.underlying45 hi hz .i64 .i64 n n (by omega) (by omega) (by rw [hb]; omega) (by omega)
  rw [hs] at this
  simpa [Value.cells] using this

/-- copy into a row that is known whole. -/
theorem copy_law {w : World} {ops : Array Oper} {rest : List Oper} {o : Oper} {a : Act} {Q : Exit → Act → World → Prop} (hgd : o.guard = none) (d s : Operand)
    (ho : o.op = .call { callee := .builtin .copy, args := #[d, s], argTypes := #[45, 45] })
    (dp sp : Option Addr) (dLen dCap sLen sCap : Nat) (hd : a.eval d = .slice dp dLen dCap) (hs : a.eval s = .slice sp sLen sCap)
    (g off : Nat) (cur cs : List (BitVec 8)) (hg : Row w g cur) (hn : cs.length = Nat.min sLen dLen)
    (hpos : 0 < cs.length → dp = some ⟨g, off, none⟩ ∧ ∃ sb so, sp = some ⟨sb, so, none⟩ ∧ ∀ j, j < cs.length → w.cell? ⟨sb, so + j, none⟩ = some (.int .u8 (y (cs.getD j 0#8))))
    (hfit : off + cs.length ≤ cur.length)
    (h : ∀ w', Hid (Row w' g (splice cur off cs)) → Hid (w.grownBy w' (some g)) → wpList Tryd.prog ops Q rest (a.put o.dst (goInt cs.length)) w') :
    wpList Tryd.prog ops Q (o :: rest) a w := by
  by_cases h0 : cs.length = 0
  · obtain rfl : cs = [] := List.eq_nil_of_length_eq_zero h0
    refine wpList_copy_nothing hgd d s 45 45 ho 5 Tryd.underlying45 byte_size dp sp dLen dCap sLen sCap hd hs (by simpa using hn.symm) ?_
    exact h w (by rw [splice_nil]; exact hg) (grown_refl _ _)
  · obtain ⟨rfl, sb, so, rfl, hsrc⟩ := hpos (by omega)
    refine wpList_copy_own hgd d s 45 45 ho 5 Tryd.underlying45 byte_size g off dLen dCap ⟨sb, so, none⟩ sLen sCap hd hs (row cur).toArray 5 hg (row cs) (by rw [row_length]; exact hn) ?_ (by simpa [row_length] using hfit) (row_one cs) ?_
    · intro j v hv
      have hj : j < cs.length := by
        rcases Nat.lt_or_ge j cs.length with hj | hj
        · exact hj
        · rw [List.getElem?_eq_none (by rw [row_length]; exact hj)] at hv; cases hv
      rw [row_get hj] at hv
      cases hv
      have e : (⟨sb, so, none⟩ : Addr).add j = ⟨sb, so + j, none⟩ := by unfold Addr.add; split <;> simp_all
      rw [e]; exact hsrc j hj
    · rw [row_length]
      refine h _ (show _ = _ from ?_) ⟨rfl, rfl, rfl, by simp [World.setRow], fun k _ hk => setRow_other w g k _ (fun e => hk (by rw [e]))⟩
      have := setRow_heap w g _ ((row cur).take off ++ (row cs ++ (row cur).drop (off + cs.length))).toArray 5 _ hg
      rw [show (row cur).toArray.toList = row cur from rfl, this, ← row_splice, splice, row_length]

end Go.Proofs.YtaelfgdiboekpaaDoor.Ce
